/-
  The law GraphFollows.
-/
import Derived.Test.YtkbhmkngipdkiaaGFolP
import Derived.Test.YtkbhmkngipdkiaaGHeavy
namespace Go.Proofs.Ytkbhmkngipdkiaa
open Go Go.RowKit

/-- a new row of one constraint -/
theorem cl_new (w : World) (c : LCn) (A1 : Option Addr) (n1 c1 : Nat) (A2 : Option Addr) (n2 c2 : Nat) (ty : TypeId) {q : Nat} (hq : q = w.heap.size) (p1 : PL w w.heap.size A1 n1 c.1.2) (p2 : PL w w.heap.size A2 n2 c.2.2) (q1 : n1 ≤ c1) (r1 : c1 ≤ 9223372036854775807) (q2 : n2 ≤ c2) (r2 : c2 ≤ 9223372036854775807) :
    CL (w.alloc (.cells #[.int .i64 c.1.1, .slice A1 n1 c1, .int .i64 c.2.1, .slice A2 n2 c2] ty)) (w.alloc (.cells #[.int .i64 c.1.1, .slice A1 n1 c1, .int .i64 c.2.1, .slice A2 n2 c2] ty)).heap.size (some ⟨q, 0, none⟩) 1 [c] := by
  subst hq
  have hb : Below w.heap.size w (w.alloc (.cells #[.int .i64 c.1.1, .slice A1 n1 c1, .int .i64 c.2.1, .slice A2 n2 c2] ty)) := (Below.refl _ w).alloc (Nat.le_refl _) _
  refine ⟨rfl, fun _ => ⟨w.heap.size, 0, rfl, by simp, fun j e he => ?_⟩⟩
  match j, he with
  | 0, he =>
    simp at he
    subst he
    exact ⟨.slice A1 n1 c1, .slice A2 n2 c2, by simp, by simp, by simp, by simp, ⟨A1, n1, c1, rfl, (p1.below hb).more hb.size, q1, r1⟩, ⟨A2, n2, c2, rfl, (p2.below hb).more hb.size, q2, r2⟩⟩
  | j + 1, he => simp at he
theorem heavyB_len {v most : Int} {cs : List LCn} (h : heavyB v most cs = false) : (cs.length : Int) ≤ most := by
  unfold heavyB at h
  rw [Bool.or_eq_false_iff, Bool.or_eq_false_iff] at h
  have := of_decide_eq_false h.1.2
  omega

end Go.Proofs.Ytkbhmkngipdkiaa
