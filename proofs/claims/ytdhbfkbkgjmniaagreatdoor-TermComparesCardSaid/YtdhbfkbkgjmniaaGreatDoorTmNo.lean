/-
  Two nodes compared by themselves; which parts are proofs.
-/
import Derived.Test.YtdhbfkbkgjmniaaGreatDoorTmEq
import Derived.Test.YtdhbfkbkgjmniaaGreatDoorTmWk
namespace Go.Proofs.YtdhbfkbkgjmniaaGreatDoor
open Go Go.RowKit

/-- two nodes by themselves -/
noncomputable def ndB (a b : Tm) : Bool := decide (a.op = b.op) && decide (a.n = b.n) && (a.s.toList == b.s.toList) && usB a.u b.u && decide (a.l.length = b.l.length)
/-- the cells of two boxes of five, in every later world -/
theorem tbox {w W : World} {a0 a1 a2 a3 a4 b0 b1 b2 b3 b4 : Value} {ty : TypeId} (h : Below (w.heap.size + 2) ((w.alloc (.cells #[a0, a1, a2, a3, a4] ty)).alloc (.cells #[b0, b1, b2, b3, b4] ty)) W) :
    W.heap[w.heap.size]? = some (.cells #[a0, a1, a2, a3, a4] ty) ∧ W.heap[w.heap.size + 1]? = some (.cells #[b0, b1, b2, b3, b4] ty) ∧ w.heap.size + 2 ≤ W.heap.size ∧ Below w.heap.size w W := by
  have hh := heap2 w (.cells #[a0, a1, a2, a3, a4] ty) (.cells #[b0, b1, b2, b3, b4] ty)
  have e1 := (h.block w.heap.size (by omega)).trans hh.1
  have e2 := (h.block (w.heap.size + 1) (by omega)).trans hh.2
  have hs := h.size
  simp at hs
  exact ⟨e1, e2, hs, (((Below.refl w.heap.size w).alloc (Nat.le_refl _) _).alloc (by simp) _).trans (h.mono (by omega))⟩
theorem cells5 {W : World} {q : Nat} {c0 c1 c2 c3 c4 : Value} {ty : TypeId} (h : W.heap[q]? = some (.cells #[c0, c1, c2, c3, c4] ty)) : W.cell? ⟨q, 0, none⟩ = some c0 ∧ W.cell? ⟨q, 1, none⟩ = some c1 ∧ W.cell? ⟨q, 2, none⟩ = some c2 ∧ W.cell? ⟨q, 3, none⟩ = some c3 ∧ W.cell? ⟨q, 4, none⟩ = some c4 :=
  ⟨(cell_heap h).trans rfl, (cell_heap h).trans rfl, (cell_heap h).trans rfl, (cell_heap h).trans rfl, (cell_heap h).trans rfl⟩

set_option maxRecDepth 100000 in
set_option maxHeartbeats 4000000 in
theorem node_any (a b : Tm) (a0 a1 a2 a3 a4 b0 b1 b2 b3 b4 : Value) (w : World) (ha : TmAt w w.heap.size a0 a1 a2 a3 a4 a) (hb : TmAt w w.heap.size b0 b1 b2 b3 b4 b) :
    Calls Tryz.prog 57 #[.agg #[a0, a1, a2, a3, a4], .agg #[b0, b1, b2, b3, b4]] w fun e w' => e = .returned (.bool (ndB a b)) ∧ Below w.heap.size w w' := by
  obtain ⟨U, nu, cu, L, nl, cl, rfl, rfl, rfl, rfl, rfl, hu, hnu, hcu, hl, hnl, hcl⟩ := ha.inv
  obtain ⟨V, nv, cv, M, nm, cm, rfl, rfl, rfl, rfl, rfl, hv, hnv, hcv, hm, hnm, hcm⟩ := hb.inv
  clear ha hb
  have hll := hl.1
  have hml := hm.1
  have HD : Hid (ndB a b = (decide (a.op = b.op) && decide (a.n = b.n) && (a.s.toList == b.s.toList) && usB a.u b.u && decide (a.l.length = b.l.length))) := Lib.hid rfl
  rw [hll, hml] at HD
  generalize ndB a b = q at HD ⊢
  have X := Lib.hid (tbox (w := w) (a0 := .int .i64 a.op) (a1 := .int .i64 a.n) (a2 := .string a.s) (a3 := .slice U nu cu) (a4 := .slice L nl cl) (b0 := .int .i64 b.op) (b1 := .int .i64 b.n) (b2 := .string b.s) (b3 := .slice V nv cv) (b4 := .slice M nm cm) (ty := 25) (Below.refl _ _))
  clear hl hm hll hml
  go_enter Tryz.func57, Tryz.ntmps57
  go_upto_region 1 with fail
  generalize (w.alloc (.cells #[.int .i64 a.op, .int .i64 a.n, .string a.s, .slice U nu cu, .slice L nl cl] 25)).alloc (.cells #[.int .i64 b.op, .int .i64 b.n, .string b.s, .slice V nv cv, .slice M nm cm] 25) = W1 at X ⊢
  obtain ⟨k1, k2, hs1, hb1⟩ := X.out
  clear X
  obtain ⟨x0, x1, x2, x3, x4⟩ := cells5 k1
  obtain ⟨y0, y1, y2, y3, y4⟩ := cells5 k2
  by_cases h1 : a.op = b.op
  · by_cases h2 : a.n = b.n
    · cases h3 : (a.s.toList == b.s.toList)
      · have Hq : Hid (q = false) := Lib.hid (by rw [HD.out, h3, Bool.and_false]; rfl)
        go_wp2_with fail
        go_ret
        exact ⟨ret_bool Hq.out.symm, hb1⟩
      · have HS := Lib.hid (sameLevels_any U nu cu V nv cv a.u b.u W1 ((hu.below hb1).more hb1.size) ((hv.below hb1).more hb1.size) (by omega) (by omega))
        rw [decide_eq_true h1, decide_eq_true h2, h3] at HD
        generalize usB a.u b.u = us at HS HD
        go_wp2_with fail
        refine HS.out.mono ?_
        clear HS x0 x1 x2 x3 x4 y0 y1 y2 y3 y4
        rintro e W2 ⟨rfl, hb2⟩
        have k3 := (hb2.block _ (Array.getElem?_eq_some_iff.1 k1).1).trans k1
        have k4 := (hb2.block _ (Array.getElem?_eq_some_iff.1 k2).1).trans k2
        obtain ⟨x0, x1, x2, x3, x4⟩ := cells5 k3
        obtain ⟨y0, y1, y2, y3, y4⟩ := cells5 k4
        have hbw := hb1.trans (hb2.mono (by omega))
        clear k1 k2 k3 k4
        cases us
        · have Hq : Hid (q = false) := Lib.hid (by rw [HD.out]; rfl)
          go_wp2_with fail
          go_ret
          exact ⟨ret_bool Hq.out.symm, hbw⟩
        · by_cases h4 : nl = nm
          · have Hq : Hid (q = true) := Lib.hid (by rw [HD.out, decide_eq_true h4]; rfl)
            subst h4
            go_wp2_with fail
            go_ret
            exact ⟨ret_bool Hq.out.symm, hbw⟩
          · have Hq : Hid (q = false) := Lib.hid (by rw [HD.out, decide_eq_false h4]; rfl)
            have h5 : ¬ (nl : Int) = (nm : Int) := by omega
            have h6 : ((nl : Int) == (nm : Int)) = false := beq_eq_false_iff_ne.2 h5
            go_wp2_with fail
            go_ret
            exact ⟨ret_bool Hq.out.symm, hbw⟩
    · have Hq : Hid (q = false) := Lib.hid (by rw [HD.out, decide_eq_false h2, Bool.and_false]; rfl)
      have h6 : (a.n == b.n) = false := beq_eq_false_iff_ne.2 h2
      go_wp2_with fail
      go_ret
      exact ⟨ret_bool Hq.out.symm, hb1⟩
  · have Hq : Hid (q = false) := Lib.hid (by rw [HD.out, decide_eq_false h1]; rfl)
    have h6 : (a.op == b.op) = false := beq_eq_false_iff_ne.2 h1
    go_wp2_with fail
    go_ret
    exact ⟨ret_bool Hq.out.symm, hb1⟩
end Go.Proofs.YtdhbfkbkgjmniaaGreatDoor
