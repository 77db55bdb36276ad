/-
  Lists of levels as they lie in memory.
-/
import Derived.Test.YtdhbfkbkgjmniaaGreatDoorBase
namespace Go.Proofs.YtdhbfkbkgjmniaaGreatDoor
open Go Go.RowKit

/-- The slice value reads, below block B of world w, as the list of levels ls. -/
def LvL (w : World) (B : Nat) (A : Option Addr) (n : Nat) (ls : List (Int × List (Int × Int))) : Prop :=
  ls.length = n ∧ (0 < n → ∃ b off, A = some ⟨b, off, none⟩ ∧ b < B ∧ ∀ j x, ls[j]? = some x → w.cell? ⟨b, off + j * 2, none⟩ = some (.int .i64 x.1) ∧
    ∃ A' m cap, w.cell? ⟨b, off + j * 2 + 1, none⟩ = some (.slice A' m cap) ∧ PL w B A' m x.2 ∧ m ≤ cap ∧ cap ≤ 9223372036854775807 ∧ (A' = none → cap = 0))
section
variable {w w' : World} {B B' n : Nat} {A : Option Addr} {ls : List (Int × List (Int × Int))}
theorem LvL.at_ {k : Nat} (h : LvL w B A n ls) (hk : k < n) : ∃ b off x A' m cap, A = some ⟨b, off, none⟩ ∧ b < B ∧ ls[k]? = some x ∧ w.cell? ⟨b, off + k * 2, none⟩ = some (.int .i64 x.1) ∧ w.cell? ⟨b, off + k * 2 + 1, none⟩ = some (.slice A' m cap) ∧ PL w B A' m x.2 ∧ m ≤ cap ∧ cap ≤ 9223372036854775807 ∧ (A' = none → cap = 0) := by
  obtain ⟨b, off, e, hb, hc⟩ := h.2 (by omega)
  have hl : k < ls.length := by have := h.1; omega
  obtain ⟨h1, A', m, cap, h2⟩ := hc k _ (List.getElem?_eq_getElem hl)
  exact ⟨b, off, ls[k], A', m, cap, e, hb, List.getElem?_eq_getElem hl, h1, h2⟩
theorem LvL.below (h : LvL w B A n ls) (hb : Below B w w') : LvL w' B A n ls :=
  ⟨h.1, fun hn => by
    obtain ⟨b, off, e, hlt, hc⟩ := h.2 hn
    refine ⟨b, off, e, hlt, fun j x hx => ?_⟩
    obtain ⟨h1, A', m, cap, h2, h3, h4⟩ := hc j x hx
    exact ⟨(hb.cell (p := ⟨b, off + j * 2, none⟩) hlt).trans h1, A', m, cap, (hb.cell (p := ⟨b, off + j * 2 + 1, none⟩) hlt).trans h2, h3.below hb, h4⟩⟩
theorem LvL.more (h : LvL w B A n ls) (hB : B ≤ B') : LvL w B' A n ls :=
  ⟨h.1, fun hn => by
    obtain ⟨b, off, e, hlt, hc⟩ := h.2 hn
    refine ⟨b, off, e, by omega, fun j x hx => ?_⟩
    obtain ⟨h1, A', m, cap, h2, h3, h4⟩ := hc j x hx
    exact ⟨h1, A', m, cap, h2, h3.more hB, h4⟩⟩
end
theorem LvL.lift {w wi : World} {n : Nat} {A : Option Addr} {ls : List (Int × List (Int × Int))} (h : LvL w w.heap.size A n ls) (hb : Below w.heap.size w wi) : LvL wi wi.heap.size A n ls :=
  (h.below hb).more hb.size
end Go.Proofs.YtdhbfkbkgjmniaaGreatDoor
