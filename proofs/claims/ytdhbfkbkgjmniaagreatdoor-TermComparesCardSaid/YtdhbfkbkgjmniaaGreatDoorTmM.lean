/-
  Terms as trees, and as they lie in memory.
-/
import Derived.Test.YtdhbfkbkgjmniaaGreatDoorLvS
namespace Go.Proofs.YtdhbfkbkgjmniaaGreatDoor
open Go Go.RowKit

abbrev Lv := Int × List (Int × Int)
/-- a term as a tree -/
inductive Tm where
  | mk (op n : Int) (s : ByteArray) (u : List Lv) (l : List Tm) : Tm
namespace Tm
def op : Tm → Int | mk o _ _ _ _ => o
def n : Tm → Int | mk _ n _ _ _ => n
def s : Tm → ByteArray | mk _ _ s _ _ => s
def u : Tm → List Lv | mk _ _ _ u _ => u
def l : Tm → List Tm | mk _ _ _ _ l => l
end Tm

/-- A term's five cells read, below block B of world w, as the tree. -/
inductive TmAt (w : World) (B : Nat) : Value → Value → Value → Value → Value → Tm → Prop
  | mk {op n : Int} {s : ByteArray} {u : List Lv} {l : List Tm} {U L : Option Addr} {nu cu nl cl : Nat} (hu : LvL w B U nu u) (hnu : nu ≤ cu) (hcu : cu ≤ 9223372036854775807) (hl : l.length = nl) (hnl : nl ≤ cl) (hcl : cl ≤ 9223372036854775807)
      (b off : Nat) (hL : 0 < nl → L = some ⟨b, off, none⟩ ∧ b < B) (c : Nat → Nat → Value) (hc : ∀ j k, j < nl → k < 5 → w.cell? ⟨b, off + j * 5 + k, none⟩ = some (c j k))
      (ht : ∀ j t, l[j]? = some t → TmAt w B (c j 0) (c j 1) (c j 2) (c j 3) (c j 4) t) :
      TmAt w B (.int .i64 op) (.int .i64 n) (.string s) (.slice U nu cu) (.slice L nl cl) (.mk op n s u l)

/-- The slice value reads, below block B of world w, as the list of terms l. -/
def TmL (w : World) (B : Nat) (A : Option Addr) (n : Nat) (l : List Tm) : Prop :=
  l.length = n ∧ (0 < n → ∃ b off, A = some ⟨b, off, none⟩ ∧ b < B ∧ ∀ j t, l[j]? = some t → ∃ c0 c1 c2 c3 c4, TmAt w B c0 c1 c2 c3 c4 t ∧ w.cell? ⟨b, off + j * 5, none⟩ = some c0 ∧ w.cell? ⟨b, off + j * 5 + 1, none⟩ = some c1 ∧ w.cell? ⟨b, off + j * 5 + 2, none⟩ = some c2 ∧ w.cell? ⟨b, off + j * 5 + 3, none⟩ = some c3 ∧ w.cell? ⟨b, off + j * 5 + 4, none⟩ = some c4)

section
variable {w w' : World} {B B' : Nat}
theorem TmAt.stay {c0 c1 c2 c3 c4 : Value} {t : Tm} (h : TmAt w B c0 c1 c2 c3 c4 t) (hb : Below B w w') : TmAt w' B c0 c1 c2 c3 c4 t := by
  induction h with
  | mk hu hnu hcu hl hnl hcl b off hL c hc ht ih =>
    exact .mk (hu.below hb) hnu hcu hl hnl hcl b off hL c (fun j k hj hk => (hb.cell (p := ⟨b, off + j * 5 + k, none⟩) (hL (by omega)).2).trans (hc j k hj hk)) (fun j t hj => ih j t hj)
theorem TmAt.more {c0 c1 c2 c3 c4 : Value} {t : Tm} (h : TmAt w B c0 c1 c2 c3 c4 t) (hB : B ≤ B') : TmAt w B' c0 c1 c2 c3 c4 t := by
  induction h with
  | mk hu hnu hcu hl hnl hcl b off hL c hc ht ih =>
    exact .mk (hu.more hB) hnu hcu hl hnl hcl b off (fun h0 => ⟨(hL h0).1, by have := (hL h0).2; omega⟩) c hc (fun j t hj => ih j t hj)
theorem TmAt.lift {c0 c1 c2 c3 c4 : Value} {t : Tm} (h : TmAt w w.heap.size c0 c1 c2 c3 c4 t) (hb : Below w.heap.size w w') : TmAt w' w'.heap.size c0 c1 c2 c3 c4 t := (h.stay hb).more hb.size
theorem TmAt.inv {c0 c1 c2 c3 c4 : Value} {t : Tm} (h : TmAt w B c0 c1 c2 c3 c4 t) : ∃ U nu cu L nl cl, c0 = .int .i64 t.op ∧ c1 = .int .i64 t.n ∧ c2 = .string t.s ∧ c3 = .slice U nu cu ∧ c4 = .slice L nl cl ∧ LvL w B U nu t.u ∧ nu ≤ cu ∧ cu ≤ 9223372036854775807 ∧ TmL w B L nl t.l ∧ nl ≤ cl ∧ cl ≤ 9223372036854775807 := by
  cases h with
  | mk hu hnu hcu hl hnl hcl b off hL c hc ht =>
    refine ⟨_, _, _, _, _, _, rfl, rfl, rfl, rfl, rfl, hu, hnu, hcu, ⟨hl, fun h0 => ⟨b, off, (hL h0).1, (hL h0).2, fun j t hj => ?_⟩⟩, hnl, hcl⟩
    have hjl : j < _ := (List.getElem?_eq_some_iff.1 hj).1
    exact ⟨_, _, _, _, _, ht j t hj, hc j 0 (by rw [← hl]; exact hjl) (by omega), hc j 1 (by rw [← hl]; exact hjl) (by omega), hc j 2 (by rw [← hl]; exact hjl) (by omega), hc j 3 (by rw [← hl]; exact hjl) (by omega), hc j 4 (by rw [← hl]; exact hjl) (by omega)⟩
/-- put together again -/
theorem TmAt.of_list {op n : Int} {s : ByteArray} {u : List Lv} {l : List Tm} {U L : Option Addr} {nu cu nl cl : Nat} (hu : LvL w B U nu u) (hnu : nu ≤ cu) (hcu : cu ≤ 9223372036854775807) (hl : TmL w B L nl l) (hnl : nl ≤ cl) (hcl : cl ≤ 9223372036854775807) :
    TmAt w B (.int .i64 op) (.int .i64 n) (.string s) (.slice U nu cu) (.slice L nl cl) (.mk op n s u l) := by
  by_cases h0 : 0 < nl
  · obtain ⟨b, off, hA, hb, hc⟩ := hl.2 h0
    have hch : ∀ j : Nat, ∃ f : Nat → Value, ∀ t, l[j]? = some t → TmAt w B (f 0) (f 1) (f 2) (f 3) (f 4) t ∧ ∀ k, k < 5 → w.cell? ⟨b, off + j * 5 + k, none⟩ = some (f k) := fun j => by
      cases hj : l[j]? with
      | none => exact ⟨fun _ => default, fun t ht => by cases ht⟩
      | some t =>
        obtain ⟨c0, c1, c2, c3, c4, h, h0, h1, h2, h3, h4⟩ := hc j t hj
        refine ⟨fun k => match k with | 0 => c0 | 1 => c1 | 2 => c2 | 3 => c3 | _ => c4, fun t' ht => ?_⟩
        cases ht
        refine ⟨h, fun k hk => ?_⟩
        match k, hk with
        | 0, _ => exact h0
        | 1, _ => exact h1
        | 2, _ => exact h2
        | 3, _ => exact h3
        | 4, _ => exact h4
    have hf := fun j => Classical.choose_spec (hch j)
    refine .mk hu hnu hcu hl.1 hnl hcl b off (fun _ => ⟨hA, hb⟩) (fun j => Classical.choose (hch j)) (fun j k hj hk => ?_) (fun j t hj => (hf j t hj).1)
    exact (hf j _ (List.getElem?_eq_getElem (by rw [hl.1]; exact hj))).2 k hk
  · obtain rfl : nl = 0 := by omega
    have : l = [] := List.eq_nil_of_length_eq_zero hl.1
    subst this
    exact .mk hu hnu hcu rfl hnl hcl 0 0 (fun h => absurd h (by omega)) (fun _ _ => default) (fun j k hj => absurd hj (by omega)) (fun j t hj => by simp at hj)
theorem TmL.below {A : Option Addr} {n : Nat} {l : List Tm} (h : TmL w B A n l) (hb : Below B w w') : TmL w' B A n l :=
  ⟨h.1, fun h0 => by
    obtain ⟨b, off, hA, hlt, hc⟩ := h.2 h0
    refine ⟨b, off, hA, hlt, fun j t hj => ?_⟩
    obtain ⟨c0, c1, c2, c3, c4, h, h0, h1, h2, h3, h4⟩ := hc j t hj
    exact ⟨c0, c1, c2, c3, c4, h.stay hb, (hb.cell (p := ⟨b, off + j * 5, none⟩) hlt).trans h0, (hb.cell (p := ⟨b, off + j * 5 + 1, none⟩) hlt).trans h1, (hb.cell (p := ⟨b, off + j * 5 + 2, none⟩) hlt).trans h2, (hb.cell (p := ⟨b, off + j * 5 + 3, none⟩) hlt).trans h3, (hb.cell (p := ⟨b, off + j * 5 + 4, none⟩) hlt).trans h4⟩⟩
theorem TmL.more {A : Option Addr} {n : Nat} {l : List Tm} (h : TmL w B A n l) (hB : B ≤ B') : TmL w B' A n l :=
  ⟨h.1, fun h0 => by
    obtain ⟨b, off, hA, hlt, hc⟩ := h.2 h0
    refine ⟨b, off, hA, by omega, fun j t hj => ?_⟩
    obtain ⟨c0, c1, c2, c3, c4, h, h1⟩ := hc j t hj
    exact ⟨c0, c1, c2, c3, c4, h.more hB, h1⟩⟩
theorem TmL.lift {A : Option Addr} {n : Nat} {l : List Tm} (h : TmL w w.heap.size A n l) (hb : Below w.heap.size w w') : TmL w' w'.heap.size A n l := (h.below hb).more hb.size
theorem TmL.at_ {A : Option Addr} {n k : Nat} {l : List Tm} (h : TmL w B A n l) (hk : k < n) : ∃ b off t c0 c1 c2 c3 c4, A = some ⟨b, off, none⟩ ∧ b < B ∧ l[k]? = some t ∧ TmAt w B c0 c1 c2 c3 c4 t ∧ w.cell? ⟨b, off + k * 5, none⟩ = some c0 ∧ w.cell? ⟨b, off + k * 5 + 1, none⟩ = some c1 ∧ w.cell? ⟨b, off + k * 5 + 2, none⟩ = some c2 ∧ w.cell? ⟨b, off + k * 5 + 3, none⟩ = some c3 ∧ w.cell? ⟨b, off + k * 5 + 4, none⟩ = some c4 := by
  obtain ⟨b, off, e, hb, hc⟩ := h.2 (by omega)
  have hl : k < l.length := by have := h.1; omega
  obtain ⟨c0, c1, c2, c3, c4, h2⟩ := hc k _ (List.getElem?_eq_getElem hl)
  exact ⟨b, off, _, c0, c1, c2, c3, c4, e, hb, List.getElem?_eq_getElem hl, h2⟩
end

/-- how many nodes, levels and their parts counted, too -/
def uN (u : List Lv) : Nat := (u.map fun x => 1 + x.2.length).sum
mutual
def Tm.nd : Tm → Nat
  | .mk _ _ _ u l => 1 + uN u + ndL l
def ndL : List Tm → Nat
  | [] => 0
  | t :: l => t.nd + ndL l
end
theorem ndL_append (a b : List Tm) : ndL (a ++ b) = ndL a + ndL b := by
  induction a with
  | nil => simp [ndL]
  | cons t a ih => simp [ndL, ih]; omega
theorem ndL_snoc {l : List Tm} {k : Nat} {t : Tm} (h : l[k]? = some t) : ndL (l.take (k + 1)) = ndL (l.take k) + t.nd := by
  rw [take_snoc h, ndL_append]; simp [ndL]
theorem uN_snoc {u : List Lv} {k : Nat} {x : Lv} (h : u[k]? = some x) : uN (u.take (k + 1)) = uN (u.take k) + (1 + x.2.length) := by
  rw [take_snoc h]; simp [uN]
theorem Tm.nd_eq (t : Tm) : t.nd = 1 + uN t.u + ndL t.l := by cases t; simp [Tm.nd, Tm.u, Tm.l]
end Go.Proofs.YtdhbfkbkgjmniaaGreatDoor
