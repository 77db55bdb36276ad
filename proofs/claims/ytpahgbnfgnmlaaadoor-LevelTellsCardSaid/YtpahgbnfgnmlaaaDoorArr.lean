/-
  Rows of numbers that the walk makes and writes; lists of 32-bit numbers that came in.
-/
import Derived.Test.YtpahgbnfgnmlaaaDoorRVars
import Derived.OwnWalk
namespace Go.Proofs.YtpahgbnfgnmlaaaDoor
open Go Go.RowKit

/-- The slice value v reads, below block B of world w, as the list l of 32-bit numbers. -/
def UL (w : World) (B : Nat) (A : Option Addr) (n : Nat) (l : List Int) : Prop :=
  l.length = n ∧ (0 < n → ∃ b off, A = some ⟨b, off, none⟩ ∧ b < B ∧ ∀ j x, l[j]? = some x → w.cell? ⟨b, off + j, none⟩ = some (.int .u32 x) ∧ 0 ≤ x ∧ x ≤ 4294967295)
section
variable {w w' : World} {B B' n : Nat} {A : Option Addr} {l : List Int}
theorem UL.at_ {k : Nat} (h : UL w B A n l) (hk : k < n) : ∃ b off x, A = some ⟨b, off, none⟩ ∧ b < B ∧ l[k]? = some x ∧ w.cell? ⟨b, off + k, none⟩ = some (.int .u32 x) ∧ 0 ≤ x ∧ x ≤ 4294967295 := by
  obtain ⟨b, off, e, hb, hc⟩ := h.2 (by omega)
  have hl : k < l.length := by have := h.1; omega
  obtain ⟨h1, h2⟩ := hc k _ (List.getElem?_eq_getElem hl)
  exact ⟨b, off, l[k], e, hb, List.getElem?_eq_getElem hl, h1, h2⟩
theorem UL.below (h : UL w B A n l) (hb : Below B w w') : UL w' B A n l :=
  ⟨h.1, fun hn => by
    obtain ⟨b, off, e, hlt, hc⟩ := h.2 hn
    exact ⟨b, off, e, hlt, fun j x hx => ⟨(hb.cell (p := ⟨b, off + j, none⟩) hlt).trans (hc j x hx).1, (hc j x hx).2⟩⟩⟩
end

theorem made_zero (n : Nat) : (madeCells (Value.int .i64 0).cells (n * 1)).toList = int1 (List.replicate n 0) := by
  refine List.ext_getElem? fun j => ?_
  by_cases hj : j < n
  · simp [madeCells, int1, Value.cells, hj, Nat.mod_one]
  · rw [List.getElem?_eq_none (by simp [madeCells]; omega), List.getElem?_eq_none (by simp [int1]; omega)]
theorem int1_set (l : List Int) (k : Nat) (z : Int) : (int1 l).set k (.int .i64 z) = int1 (l.set k z) := by simp [int1, List.map_set]
theorem own_store {w : World} {base g n cap : Nat} {e : TypeId} {l : List Int} (h : w.ownsRow base e 1 (.slice (some ⟨g, 0, none⟩) n cap) n (int1 l)) (k : Nat) (z : Int) :
    (w.setCell ⟨g, k, none⟩ (.int .i64 z)).ownsRow base e 1 (.slice (some ⟨g, 0, none⟩) n cap) n (int1 (l.set k z)) := by
  have := (h.stored k (.int .i64 z)).1
  rw [int1_set] at this
  exact this
theorem own_cell {w : World} {base g n cap : Nat} {e : TypeId} {l : List Int} (h : w.ownsRow base e 1 (.slice (some ⟨g, 0, none⟩) n cap) n (int1 l)) {k : Nat} {z : Int} (hk : l[k]? = some z) :
    w.cell? ⟨g, k, none⟩ = some (.int .i64 z) ∧ w.frozen? ⟨g, k, none⟩ = false := by
  have hl := h.1
  rw [int1_len] at hl
  have hj := (List.getElem?_eq_some_iff.1 hk).1
  exact ⟨(h.cellAt k (by omega)).trans (int1_at hk), h.frozenAt k⟩
theorem own_il {w : World} {base g n cap : Nat} {e : TypeId} {l : List Int} (h : w.ownsRow base e 1 (.slice (some ⟨g, 0, none⟩) n cap) n (int1 l)) (hg : g < w.heap.size) : IL w w.heap.size (some ⟨g, 0, none⟩) n l := by
  have hl := h.1
  rw [int1_len, Nat.mul_one] at hl
  exact ⟨hl, fun _ => ⟨g, 0, rfl, hg, fun j x hx => by rw [Nat.zero_add]; exact (own_cell h hx).1⟩⟩
theorem own_lt {w : World} {base g n cap : Nat} {e : TypeId} {xs : List Value} (h : w.ownsRow base e 1 (.slice (some ⟨g, 0, none⟩) n cap) n xs) : base ≤ g ∧ g < w.heap.size := h.lt g rfl
end Go.Proofs.YtpahgbnfgnmlaaaDoor
