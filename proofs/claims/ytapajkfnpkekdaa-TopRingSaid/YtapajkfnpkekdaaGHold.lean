/-
  'Holds' of package graph.
-/
import Derived.Test.YtapajkfnpkekdaaGEdges
namespace Go.Proofs.Ytapajkfnpkekdaa
open Go Go.RowKit

/-- the value of a level at numbers -/
def valM (c : Int) (l : List (Int × Int)) (vs : List Int) : Int := l.foldl (fun a x => if a < gx vs x.1.toNat + x.2 then gx vs x.1.toNat + x.2 else a) c
theorem valM_snoc (c : Int) (l : List (Int × Int)) (x : Int × Int) (vs : List Int) : valM c (l ++ [x]) vs = if valM c l vs < gx vs x.1.toNat + x.2 then gx vs x.1.toNat + x.2 else valM c l vs := by
  unfold valM
  rw [List.foldl_append]
  rfl
def Vs (vs : List Int) : Prop := ∀ z ∈ vs, 0 ≤ z ∧ z ≤ 1099511627776
theorem valM_le {c : Int} {vs : List Int} (hv : Vs vs) (h0 : 0 ≤ c) (h1 : c ≤ 1000) : ∀ (l : List (Int × Int)), (∀ x ∈ l, x.2 ≤ 1000) → 0 ≤ valM c l vs ∧ valM c l vs ≤ 2000000000000 := by
  intro l
  have hg : ∀ v, gx vs v ≤ 1099511627776 := fun v => by
    unfold gx
    rw [List.getD_eq_getElem?_getD]
    cases h : vs[v]? with
    | none => simp
    | some z => exact (hv z (List.mem_of_getElem? h)).2
  have : ∀ (l : List (Int × Int)) (c : Int), 0 ≤ c → c ≤ 2000000000000 → (∀ x ∈ l, x.2 ≤ 1000) → 0 ≤ valM c l vs ∧ valM c l vs ≤ 2000000000000 := by
    intro l
    induction l with
    | nil => intro c a b _; exact ⟨a, b⟩
    | cons x l ih =>
      intro c a b hl
      unfold valM
      rw [List.foldl_cons]
      have h1 := hl x (by simp)
      have h2 := hg x.1.toNat
      refine ih _ ?_ ?_ fun y hy => hl y (List.mem_cons_of_mem _ hy)
      · split <;> omega
      · split <;> omega
  exact this l c h0 (by omega)

def outB (v : Int) : Bool := decide (v < 0) || decide (1099511627776 < v)
theorem outB_any {vs : List Int} (h : vs.any outB = false) : Vs vs := fun z hz => by
  have := List.any_eq_false.1 h z hz
  simp [outB] at this
  omega
/-- the constraint doesn't hold at these numbers -/
def brkB (vs : List Int) (c : LCn) : Bool := decide (valM c.2.1 c.2.2 vs < valM c.1.1 c.1.2 vs)

/-- i is the place of the first one, or -1 -/
def FstI {α : Type} (p : α → Bool) (l : List α) (i : Int) : Prop := (i = -1 ∧ ∀ (k : Nat) (c : α), l[k]? = some c → p c = false) ∨ ∃ k : Nat, i = k ∧ (∃ c, l[k]? = some c ∧ p c = true) ∧ ∀ (j : Nat) (c : α), j < k → l[j]? = some c → p c = false
theorem FstI.same {α : Type} {p : α → Bool} {l : List α} {i j : Int} (hi : FstI p l i) (hj : FstI p l j) : i = j := by
  rcases hi with ⟨rfl, h⟩ | ⟨k, rfl, ⟨c, h1, h2⟩, h3⟩ <;> rcases hj with ⟨rfl, g⟩ | ⟨m, rfl, ⟨d, g1, g2⟩, g3⟩
  · rfl
  · rw [h m d g1] at g2; cases g2
  · rw [g k c h1] at h2; cases h2
  · rcases Nat.lt_trichotomy k m with hkm | rfl | hkm
    · rw [g3 k c hkm h1] at h2; cases h2
    · rfl
    · rw [h3 m d hkm g1] at g2; cases g2

/-- a level that value takes -/
def Good (w : World) (n : Nat) (c : Int) (A : Option Addr) (m : Nat) (l : List (Int × Int)) : Prop := PL w w.heap.size A m l ∧ m ≤ 9223372036854775807 ∧ (∀ x ∈ l, (0 ≤ x.1 ∧ x.1 < n) ∧ 0 ≤ x.2 ∧ x.2 ≤ 1000) ∧ 0 ≤ c ∧ c ≤ 1000

/-- what Holds says -/
def HoldsPost (v : Int) (cs : List LCn) (vs : List Int) (w : World) (e : Ending) (w' : World) : Prop :=
  Below w.heap.size w w' ∧ (gvld v cs = false ∧ e = .returned (.tuple #[.int .i64 0, .int .i64 4]) ∨
    gvld v cs = true ∧ (((vs.length : Int) ≠ v ∨ vs.any outB = true) ∧ e = .returned (.tuple #[.int .i64 0, .int .i64 1]) ∨
      (vs.length : Int) = v ∧ vs.any outB = false ∧ ∃ i : Int, e = .returned (.tuple #[.int .i64 i, .int .i64 0]) ∧ FstI (brkB vs) cs i))

end Go.Proofs.Ytapajkfnpkekdaa
