/-
  The law TermCompares.
-/
import Derived.Test.YtdhbfkbkgjmniaaGreatDoorTmSa
import Derived.Test.YtdhbfkbkgjmniaaGreatDoorTmAk
namespace Go.Proofs.YtdhbfkbkgjmniaaGreatDoor
open Go Go.RowKit

set_option maxRecDepth 100000 in
set_option maxHeartbeats 8000000 in
theorem compares_any (a b : Tm) (a0 a1 a2 a3 a4 b0 b1 b2 b3 b4 : Value) (w : World) (ha : TmAt w w.heap.size a0 a1 a2 a3 a4 a) (hb : TmAt w w.heap.size b0 b1 b2 b3 b4 b) (hS : Shp w) (hPw : PowT w) :
    Calls Tryz.prog 4 #[.agg #[a0, a1, a2, a3, a4], .agg #[b0, b1, b2, b3, b4]] w fun e w' => e = .returned (.bool true) ∧ Below w.heap.size w w' := by
  have HT : Hid (∀ W, Below w.heap.size w W → TmAt W W.heap.size a0 a1 a2 a3 a4 a ∧ TmAt W W.heap.size b0 b1 b2 b3 b4 b ∧ Shp W ∧ PowT W) := Lib.hid fun W h => ⟨ha.lift h, hb.lift h, hS.lift h, hPw.below h (.inl (Nat.le_refl _))⟩
  obtain ⟨U, nu, cu, L, nl, cl, rfl, rfl, rfl, rfl, rfl, _⟩ := ha.inv
  obtain ⟨V, nv, cv, M, nm, cm, rfl, rfl, rfl, rfl, rfl, _⟩ := hb.inv
  clear ha hb hS hPw
  have X := Lib.hid (tbox (w := w) (a0 := .int .i64 a.op) (a1 := .int .i64 a.n) (a2 := .string a.s) (a3 := .slice U nu cu) (a4 := .slice L nl cl) (b0 := .int .i64 b.op) (b1 := .int .i64 b.n) (b2 := .string b.s) (b3 := .slice V nv cv) (b4 := .slice M nm cm) (ty := 25) (Below.refl _ _))
  go_enter Tryz.func4, Tryz.ntmps4
  go_upto_region 1 with fail
  generalize (w.alloc (.cells #[.int .i64 a.op, .int .i64 a.n, .string a.s, .slice U nu cu, .slice L nl cl] 25)).alloc (.cells #[.int .i64 b.op, .int .i64 b.n, .string b.s, .slice V nv cv, .slice M nm cm] 25) = W1 at X ⊢
  obtain ⟨k1, k2, hs1, hb1⟩ := X.out
  clear X
  obtain ⟨x0, x1, x2, x3, x4⟩ := cells5 k1
  obtain ⟨y0, y1, y2, y3, y4⟩ := cells5 k2
  have HH : Hid (Calls Tryz.prog 14 #[.slice (some ⟨W1.heap.size, 0, none⟩) 2 2] (W1.alloc (.cells #[.int .i64 a.op, .int .i64 a.n, .string a.s, .slice U nu cu, .slice L nl cl, .int .i64 b.op, .int .i64 b.n, .string b.s, .slice V nv cv, .slice M nm cm] 25)) fun e w' => HvP (Light [a, b]) e ∧ Below (W1.heap.size + 1) (W1.alloc (.cells #[.int .i64 a.op, .int .i64 a.n, .string a.s, .slice U nu cu, .slice L nl cl, .int .i64 b.op, .int .i64 b.n, .string b.s, .slice V nv cv, .slice M nm cm] 25)) w') := by
    have hbz : Below w.heap.size w (W1.alloc (.cells #[.int .i64 a.op, .int .i64 a.n, .string a.s, .slice U nu cu, .slice L nl cl, .int .i64 b.op, .int .i64 b.n, .string b.s, .slice V nv cv, .slice M nm cm] 25)) := hb1.alloc (by omega) _
    have k0 : (W1.alloc (.cells #[.int .i64 a.op, .int .i64 a.n, .string a.s, .slice U nu cu, .slice L nl cl, .int .i64 b.op, .int .i64 b.n, .string b.s, .slice V nv cv, .slice M nm cm] 25)).heap[W1.heap.size]? = some (.cells #[.int .i64 a.op, .int .i64 a.n, .string a.s, .slice U nu cu, .slice L nl cl, .int .i64 b.op, .int .i64 b.n, .string b.s, .slice V nv cv, .slice M nm cm] 25) := heap_alloc_new W1 _
    obtain ⟨hA, hB, _⟩ := HT.out _ hbz
    have hz : (W1.alloc (.cells #[.int .i64 a.op, .int .i64 a.n, .string a.s, .slice U nu cu, .slice L nl cl, .int .i64 b.op, .int .i64 b.n, .string b.s, .slice V nv cv, .slice M nm cm] 25)).heap.size = W1.heap.size + 1 := by simp
    generalize W1.alloc (.cells #[.int .i64 a.op, .int .i64 a.n, .string a.s, .slice U nu cu, .slice L nl cl, .int .i64 b.op, .int .i64 b.n, .string b.s, .slice V nv cv, .slice M nm cm] 25) = W2 at k0 hA hB hz ⊢
    rw [← hz]
    exact Lib.hid (heavyL_any _ 2 2 [a, b] W2 ⟨rfl, fun _ => ⟨W1.heap.size, 0, rfl, by omega, fun j t hj => by
      match j, hj with
      | 0, hj =>
        obtain rfl := (Option.some.inj hj).symm
        exact ⟨_, _, _, _, _, hA, (cell_heap k0).trans rfl, (cell_heap k0).trans rfl, (cell_heap k0).trans rfl, (cell_heap k0).trans rfl, (cell_heap k0).trans rfl⟩
      | 1, hj =>
        obtain rfl := (Option.some.inj hj).symm
        exact ⟨_, _, _, _, _, hB, (cell_heap k0).trans rfl, (cell_heap k0).trans rfl, (cell_heap k0).trans rfl, (cell_heap k0).trans rfl, (cell_heap k0).trans rfl⟩
      | j + 2, hj => simp at hj⟩⟩ (Nat.le_refl _) (by omega))
  go_wp2_with fail
  refine HH.out.mono ?_
  clear HH x0 x1 x2 x3 x4 y0 y1 y2 y3 y4
  rintro e W3 ⟨⟨v, rfl, _⟩, hb3⟩
  have hb13 : Below W1.heap.size W1 W3 := ((Below.refl _ _).alloc (Nat.le_refl _) _).trans (hb3.mono (Nat.le_succ _))
  clear hb3
  have hbw := hb1.trans (hb13.mono (by omega))
  have hs3 := hb13.size
  have k3 := (hb13.block _ (Array.getElem?_eq_some_iff.1 k1).1).trans k1
  have k4 := (hb13.block _ (Array.getElem?_eq_some_iff.1 k2).1).trans k2
  clear k1 k2
  cases v
  · have HK : Hid (∀ W, Below W3.heap.size W3 W → W.heap[w.heap.size]? = some (.cells #[.int .i64 a.op, .int .i64 a.n, .string a.s, .slice U nu cu, .slice L nl cl] 25) ∧ W.heap[w.heap.size + 1]? = some (.cells #[.int .i64 b.op, .int .i64 b.n, .string b.s, .slice V nv cv, .slice M nm cm] 25) ∧ Below w.heap.size w W) := Lib.hid fun W hW => ⟨(hW.block _ (Array.getElem?_eq_some_iff.1 k3).1).trans k3, (hW.block _ (Array.getElem?_eq_some_iff.1 k4).1).trans k4, hbw.trans (hW.mono (by omega))⟩
    clear k3 k4
    have rK := fun p : Bel W3.heap.size W3 => HK.out p.v p.h
    have rT := fun p : Bel W3.heap.size W3 => HT.out p.v (rK p).2.2
    have r0 := fun p => (cells5 (rK p).1).1
    have r1 := fun p => (cells5 (rK p).1).2.1
    have r2 := fun p => (cells5 (rK p).1).2.2.1
    have r3 := fun p => (cells5 (rK p).1).2.2.2.1
    have r4 := fun p => (cells5 (rK p).1).2.2.2.2
    have q0 := fun p => (cells5 (rK p).2.1).1
    have q1 := fun p => (cells5 (rK p).2.1).2.1
    have q2 := fun p => (cells5 (rK p).2.1).2.2.1
    have q3 := fun p => (cells5 (rK p).2.1).2.2.2.1
    have q4 := fun p => (cells5 (rK p).2.1).2.2.2.2
    have s1 := fun p => sameP_any a b _ _ _ _ _ _ _ _ _ _ p.v (rT p).1 (rT p).2.1
    have s2 := fun p => sameR_any a b _ _ _ _ _ _ _ _ _ _ p.v (rT p).1 (rT p).2.1
    have s3 := fun p => alikeP_any a b _ _ _ _ _ _ _ _ _ _ p.v (rT p).1 (rT p).2.1
    have s4 := fun p => alikeR_any a b _ _ _ _ _ _ _ _ _ _ p.v (rT p).1 (rT p).2.1
    have s5 := fun p => awake_any p.v (rT p).2.2.1 (rT p).2.2.2
    have Fin := Lib.hid fun p => (rK p).2.2
    clear rK rT
    generalize agr skN a b = z1 at s1 s2
    generalize agr pfB a b = z2 at s3 s4
    have H1 := Lib.hid s1
    have H2 := Lib.hid s2
    have H3 := Lib.hid s3
    have H4 := Lib.hid s4
    have H5 := Lib.hid s5
    clear s1 s2 s3 s4 s5
    go_wp2_with fail
    cases z1 <;> cases z2
    all_goals
      refine wp_region_bel W3.heap.size W3 (by kernel_rfl) (by kernel_rfl) (Below.refl _ _) ?_
      repeat (go_big_quiet_step (first | (go_at_call 22; with_reducible exact Calls.bel_of (by simp) (H1.out _)) | (go_at_call 23; with_reducible exact Calls.bel_of (by simp) (H2.out _)) | (go_at_call 24; with_reducible exact Calls.bel_of (by simp) (H3.out _)) | (go_at_call 25; with_reducible exact Calls.bel_of (by simp) (H4.out _)) | (go_at_call 21; with_reducible exact Calls.bel_of (by simp) (H5.out _))))
      refine wpQuiet_nil ?_
      rintro _ ⟨pq, rfl⟩
      have hbq := Fin.out pq
      generalize pq.v = W4 at hbq ⊢
      go_wp2_with fail
      go_ret
      exact ⟨rfl, hbq⟩
  · go_wp2_with fail
    go_ret
    exact ⟨rfl, hbw⟩
end Go.Proofs.YtdhbfkbkgjmniaaGreatDoor
