/-
  The law GraphFollows.
-/
import Derived.Test.YtolilmodihgaiaaGFolP
import Derived.Test.YtolilmodihgaiaaGHeavy
namespace Go.Proofs.Ytolilmodihgaiaa
open Go Go.RowKit

/-- a new row of one constraint -/
theorem cl_new (w : World) (c : LCn) (A1 : Option Addr) (n1 c1 : Nat) (A2 : Option Addr) (n2 c2 : Nat) (ty : TypeId) {q : Nat} (hq : q = w.heap.size) (p1 : PL w w.heap.size A1 n1 c.1.2) (p2 : PL w w.heap.size A2 n2 c.2.2) (q1 : n1 ≤ c1) (r1 : c1 ≤ 9223372036854775807) (q2 : n2 ≤ c2) (r2 : c2 ≤ 9223372036854775807) :
    CL (w.alloc (.cells #[.int .i64 c.1.1, .slice A1 n1 c1, .int .i64 c.2.1, .slice A2 n2 c2] ty)) (w.alloc (.cells #[.int .i64 c.1.1, .slice A1 n1 c1, .int .i64 c.2.1, .slice A2 n2 c2] ty)).heap.size (some ⟨q, 0, none⟩) 1 [c] := by
  subst hq
  have hb : Below w.heap.size w (w.alloc (.cells #[.int .i64 c.1.1, .slice A1 n1 c1, .int .i64 c.2.1, .slice A2 n2 c2] ty)) := (Below.refl _ w).alloc (Nat.le_refl _) _
  refine ⟨rfl, fun _ => ⟨w.heap.size, 0, rfl, by simp, fun j e he => ?_⟩⟩
  match j, he with
  | 0, he =>
    simp at he
    subst he
    exact ⟨.slice A1 n1 c1, .slice A2 n2 c2, by simp, by simp, by simp, by simp, ⟨A1, n1, c1, rfl, (p1.below hb).more hb.size, q1, r1⟩, ⟨A2, n2, c2, rfl, (p2.below hb).more hb.size, q2, r2⟩⟩
  | j + 1, he => simp at he
theorem heavyB_len {v most : Int} {cs : List LCn} (h : heavyB v most cs = false) : (cs.length : Int) ≤ most := by
  unfold heavyB at h
  rw [Bool.or_eq_false_iff, Bool.or_eq_false_iff] at h
  have := of_decide_eq_false h.1.2
  omega

set_option maxRecDepth 100000 in
set_option maxHeartbeats 4000000 in
theorem lawFollows_any (v : Int) (A : Option Addr) (K cap : Nat) (cs : List LCn) (c : LCn) (A1 : Option Addr) (n1 c1 : Nat) (A2 : Option Addr) (n2 c2 : Nat) (w : World) (h : CL w w.heap.size A K cs) (hK : K ≤ 9223372036854775807)
    (p1 : PL w w.heap.size A1 n1 c.1.2) (p2 : PL w w.heap.size A2 n2 c.2.2) (q1 : n1 ≤ c1) (r1 : c1 ≤ 9223372036854775807) (q2 : n2 ≤ c2) (r2 : c2 ≤ 9223372036854775807) :
    Calls Try.prog 4 #[.int .i64 v, .slice A K cap, .agg #[.int .i64 c.1.1, .slice A1 n1 c1, .int .i64 c.2.1, .slice A2 n2 c2]] w fun e w' => e = .returned (.bool true) ∧ Below w.heap.size w w' := by
  have hX : Below (w.heap.size + 1) (w.alloc (.cells #[.int .i64 c.1.1, .slice A1 n1 c1, .int .i64 c.2.1, .slice A2 n2 c2] 37)) (w.alloc (.cells #[.int .i64 c.1.1, .slice A1 n1 c1, .int .i64 c.2.1, .slice A2 n2 c2] 37)) := Below.refl _ _
  obtain ⟨g0, g1, g2, g3, hX0⟩ := box4 hX
  have hsX : (w.alloc (.cells #[.int .i64 c.1.1, .slice A1 n1 c1, .int .i64 c.2.1, .slice A2 n2 c2] 37)).heap.size = w.heap.size + 1 := by simp
  have hh := heavy_any v 60 A K cap cs _ ((h.below hX0).more hX0.size) hK
  have hh2 := heavy_any 0 60 (some ⟨w.heap.size + 1, 0, none⟩) 1 1 [c] _ (cl_new (w.alloc (.cells #[.int .i64 c.1.1, .slice A1 n1 c1, .int .i64 c.2.1, .slice A2 n2 c2] 37)) c A1 n1 c1 A2 n2 c2 37 hsX.symm ((p1.below hX0).more hX0.size) ((p2.below hX0).more hX0.size) q1 r1 q2 r2) (by omega)
  cases hb : heavyB v 60 cs
  · have hl := heavyB_len hb
    rw [hb] at hh
    have hK2 : K ≤ 60 := by have := h.1; omega
    have Hh := Lib.hid hh
    clear hh hl hb
    cases hb2 : heavyB 0 60 [c]
    · rw [hb2] at hh2
      have Hh2 := Lib.hid hh2
      have hB2 : Below (w.heap.size + 1) (w.alloc (.cells #[.int .i64 c.1.1, .slice A1 n1 c1, .int .i64 c.2.1, .slice A2 n2 c2] 37)) ((w.alloc (.cells #[.int .i64 c.1.1, .slice A1 n1 c1, .int .i64 c.2.1, .slice A2 n2 c2] 37)).alloc (.cells #[.int .i64 c.1.1, .slice A1 n1 c1, .int .i64 c.2.1, .slice A2 n2 c2] 37)) := hX.alloc (by simp) _
      have HB2 := Lib.hid hB2
      have HF := Lib.hid (fun W (hW : Below w.heap.size w W) => follows_any v A K cap cs c A1 n1 c1 A2 n2 c2 W ((h.below hW).more hW.size) (by omega) ((p1.below hW).more hW.size) ((p2.below hW).more hW.size) q1 r1 q2 r2)
      have HR := Lib.hid (fun W (hW : Below w.heap.size w W) => rFollows_any v A K cap cs c A1 n1 c1 A2 n2 c2 W ((h.below hW).more hW.size) (by omega) ((p1.below hW).more hW.size) ((p2.below hW).more hW.size) q1 r1 q2 r2)
      clear hh2 hb2 hB2
      go_enter Try.func4, Try.ntmps4
      go_wp2_with fail
      refine Hh.out.mono ?_
      rintro e w1 ⟨rfl, rfl⟩
      go_wp2_with fail
      with_reducible refine Hh2.out.mono ?_
      rintro e w1 ⟨rfl, rfl⟩
      clear g0 g1 g2 g3
      obtain ⟨g0, g1, g2, g3, hX1⟩ := box4 HB2.out
      go_wp2_with fail
      refine (HF.out _ hX1).mono ?_
      rintro e w2 ⟨rfl, hb2⟩
      have hB3 := HB2.out.trans (hb2.mono (by simp))
      clear g0 g1 g2 g3
      obtain ⟨g0, g1, g2, g3, hX2⟩ := box4 hB3
      go_wp2_with fail
      refine (HR.out _ hX2).mono ?_
      rintro e w3 ⟨rfl, hb3⟩
      have hvv : (folV v cs c == folV v cs c) = true := by simp
      have hX3 := hX2.trans (hb3.mono hX2.size)
      go_wp2_with fail
      refine (awake_any _).mono ?_
      rintro e w4 ⟨rfl, hb4⟩
      go_wp2_with fail
      go_ret
      exact ⟨rfl, hX3.trans (hb4.mono hX3.size)⟩
    · rw [hb2] at hh2
      have Hh2 := Lib.hid hh2
      clear hh2 hb2
      go_enter Try.func4, Try.ntmps4
      go_wp2_with fail
      refine Hh.out.mono ?_
      rintro e w1 ⟨rfl, rfl⟩
      go_wp2_with fail
      with_reducible refine Hh2.out.mono ?_
      rintro e w1 ⟨rfl, rfl⟩
      go_wp2_with fail
      refine (awake_any _).mono ?_
      rintro e w2 ⟨rfl, hb2⟩
      go_wp2_with fail
      go_ret
      exact ⟨rfl, (hX0.alloc (by simp) _).trans (hb2.mono (by simp; omega))⟩
  · rw [hb] at hh
    have Hh := Lib.hid hh
    clear hh hh2
    go_enter Try.func4, Try.ntmps4
    go_wp2_with fail
    refine Hh.out.mono ?_
    rintro e w1 ⟨rfl, rfl⟩
    go_wp2_with fail
    refine (awake_any _).mono ?_
    rintro e w2 ⟨rfl, hb2⟩
    go_wp2_with fail
    go_ret
    exact ⟨rfl, hX0.trans (hb2.mono (by simp))⟩
end Go.Proofs.Ytolilmodihgaiaa
