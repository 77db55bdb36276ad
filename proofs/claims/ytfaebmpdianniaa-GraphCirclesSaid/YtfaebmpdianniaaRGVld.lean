/-
  'Constraint' and 'Valid' of the reference of package graph.
-/
import Derived.Test.YtfaebmpdianniaaGVld
namespace Go.Proofs.Ytfaebmpdianniaa
open Go Go.RowKit

set_option maxRecDepth 100000 in
set_option maxHeartbeats 4000000 in
theorem constraint_any (v : Int) (c : LCn) (A1 : Option Addr) (n1 c1 : Nat) (A2 : Option Addr) (n2 c2 : Nat) (w : World) (p1 : PL w w.heap.size A1 n1 c.1.2) (p2 : PL w w.heap.size A2 n2 c.2.2) (q1 : n1 ≤ c1) (r1 : c1 ≤ 9223372036854775807) (q2 : n2 ≤ c2) (r2 : c2 ≤ 9223372036854775807) :
    Calls Try.prog 47 #[.int .i64 v, .agg #[.int .i64 c.1.1, .slice A1 n1 c1, .int .i64 c.2.1, .slice A2 n2 c2]] w fun e w' => e = .returned (.bool (conB v c)) ∧ Below w.heap.size w w' := by
  have hX : Below w.heap.size w (w.alloc (.cells #[.int .i64 c.1.1, .slice A1 n1 c1, .int .i64 c.2.1, .slice A2 n2 c2] 40)) := (Below.refl _ _).alloc (Nat.le_refl _) _
  have hV1 := Lib.hid (fun W (hW : Below w.heap.size w W) => refValid_any c.1.1 A1 n1 c1 c.1.2 W (p1.lift hW) q1 r1)
  have hV2 := Lib.hid (fun W (hW : Below w.heap.size w W) => refValid_any c.2.1 A2 n2 c2 c.2.2 W (p2.lift hW) q2 r2)
  have hB1 := Lib.hid (fun W (hW : Below w.heap.size w W) => refBelow_any v c.1.1 A1 n1 c1 c.1.2 W (p1.lift hW) (by omega))
  have hB2 := Lib.hid (fun W (hW : Below w.heap.size w W) => refBelow_any v c.2.1 A2 n2 c2 c.2.2 W (p2.lift hW) (by omega))
  have HC : Hid (conB v c = ((vld c.1.1 c.1.2 && !(gev c.1.2 v)) && (vld c.2.1 c.2.2 && !(gev c.2.2 v)) && rightB c.2)) := rfl
  have hl2 : c.2.2.length = n2 := p2.1
  have HR : Hid (rightB c.2 = !(decide (1 < n2) || (n2 == 1 && c.2.1 != 0))) := by rw [Hid, ← hl2]; rfl
  have hup : ∀ {W : World}, Below (w.heap.size + 1) (w.alloc (.cells #[.int .i64 c.1.1, .slice A1 n1 c1, .int .i64 c.2.1, .slice A2 n2 c2] 40)) W → w.heap.size + 1 ≤ W.heap.size := fun hb => by have := hb.size; simpa using this
  clear p1 p2 hl2
  cases v1 : vld c.1.1 c.1.2
  · have Hf : Hid (conB v c = false) := by rw [Hid, HC.out, v1]; rfl
    rw [v1] at hV1
    clear v1
    go_enter Try.func47, Try.ntmps47
    go_wp2_with fail
    refine (hV1.out _ hX).mono ?_
    rintro e w1 ⟨rfl, hb1⟩
    go_wp2_with fail
    go_ret
    exact ⟨ret_bool Hf.out.symm, hX.trans (hb1.mono hX.size)⟩
  rw [v1] at hV1
  cases v2 : vld c.2.1 c.2.2
  · have Hf : Hid (conB v c = false) := by rw [Hid, HC.out, v1, v2]; simp
    rw [v2] at hV2
    clear v1 v2
    go_enter Try.func47, Try.ntmps47
    go_wp2_with fail
    refine (hV1.out _ hX).mono ?_
    rintro e w1 ⟨rfl, hb1⟩
    obtain ⟨g0, g1, g2, g3, hX1⟩ := box4 (hb1.mono (by simp))
    go_wp2_with fail
    refine (hV2.out _ hX1).mono ?_
    rintro e w2 ⟨rfl, hb2⟩
    go_wp2_with fail
    go_ret
    exact ⟨ret_bool Hf.out.symm, hX1.trans (hb2.mono hX1.size)⟩
  rw [v2] at hV2
  cases e1 : gev c.1.2 v
  case true =>
    have Hf : Hid (conB v c = false) := by rw [Hid, HC.out, e1]; simp
    rw [e1] at hB1
    clear v1 v2 e1
    go_enter Try.func47, Try.ntmps47
    go_wp2_with fail
    refine (hV1.out _ hX).mono ?_
    rintro e w1 ⟨rfl, hb1⟩
    have hc1 := hb1.mono (B' := w.heap.size + 1) (by simp)
    obtain ⟨g0, g1, g2, g3, hX1⟩ := box4 hc1
    go_wp2_with fail
    refine (hV2.out _ hX1).mono ?_
    rintro e w2 ⟨rfl, hb2⟩
    have hc2 := hc1.trans (hb2.mono (hup hc1))
    clear g0 g1 g2 g3
    obtain ⟨g0, g1, g2, g3, hX2⟩ := box4 hc2
    go_wp2_with fail
    refine (hB1.out _ hX2).mono ?_
    rintro e w3 ⟨rfl, hb3⟩
    go_wp2_with fail
    go_ret
    exact ⟨ret_bool Hf.out.symm, hX2.trans (hb3.mono hX2.size)⟩
  rw [e1] at hB1
  cases e2 : gev c.2.2 v
  case true =>
    have Hf : Hid (conB v c = false) := by rw [Hid, HC.out, e2]; simp
    rw [e2] at hB2
    clear v1 v2 e1 e2
    go_enter Try.func47, Try.ntmps47
    go_wp2_with fail
    refine (hV1.out _ hX).mono ?_
    rintro e w1 ⟨rfl, hb1⟩
    have hc1 := hb1.mono (B' := w.heap.size + 1) (by simp)
    obtain ⟨g0, g1, g2, g3, hX1⟩ := box4 hc1
    go_wp2_with fail
    refine (hV2.out _ hX1).mono ?_
    rintro e w2 ⟨rfl, hb2⟩
    have hc2 := hc1.trans (hb2.mono (hup hc1))
    clear g0 g1 g2 g3
    obtain ⟨g0, g1, g2, g3, hX2⟩ := box4 hc2
    go_wp2_with fail
    refine (hB1.out _ hX2).mono ?_
    rintro e w3 ⟨rfl, hb3⟩
    have hc3 := hc2.trans (hb3.mono (hup hc2))
    clear g0 g1 g2 g3
    obtain ⟨g0, g1, g2, g3, hX3⟩ := box4 hc3
    go_wp2_with fail
    refine (hB2.out _ hX3).mono ?_
    rintro e w4 ⟨rfl, hb4⟩
    go_wp2_with fail
    go_ret
    exact ⟨ret_bool Hf.out.symm, hX3.trans (hb4.mono hX3.size)⟩
  rw [e2] at hB2
  have HC2 : Hid (conB v c = rightB c.2) := by rw [Hid, HC.out, v1, v2, e1, e2]; rfl
  clear v1 v2 e1 e2
  go_enter Try.func47, Try.ntmps47
  go_wp2_with fail
  refine (hV1.out _ hX).mono ?_
  rintro e w1 ⟨rfl, hb1⟩
  have hc1 := hb1.mono (B' := w.heap.size + 1) (by simp)
  obtain ⟨g0, g1, g2, g3, hX1⟩ := box4 hc1
  go_wp2_with fail
  refine (hV2.out _ hX1).mono ?_
  rintro e w2 ⟨rfl, hb2⟩
  have hc2 := hc1.trans (hb2.mono (hup hc1))
  clear g0 g1 g2 g3
  obtain ⟨g0, g1, g2, g3, hX2⟩ := box4 hc2
  go_wp2_with fail
  refine (hB1.out _ hX2).mono ?_
  rintro e w3 ⟨rfl, hb3⟩
  have hc3 := hc2.trans (hb3.mono (hup hc2))
  clear g0 g1 g2 g3
  obtain ⟨g0, g1, g2, g3, hX3⟩ := box4 hc3
  go_wp2_with fail
  refine (hB2.out _ hX3).mono ?_
  rintro e w4 ⟨rfl, hb4⟩
  have hc4 := hc3.trans (hb4.mono (hup hc3))
  clear g0 g1 g2 g3
  obtain ⟨g0, g1, g2, g3, hX4⟩ := box4 hc4
  by_cases hn0 : n2 = 0
  · have hi1 : ((n2 : Int) == 0) = true := by simp [hn0]
    have Hr : Hid (conB v c = true) := by rw [Hid, HC2.out, HR.out, hn0]; rfl
    clear hn0
    go_wp2_with fail
    go_ret
    exact ⟨ret_bool Hr.out.symm, hX4⟩
  · have hi1 : ((n2 : Int) == 0) = false := by simp; omega
    by_cases hn1 : n2 = 1
    · have hi2 : ((n2 : Int) == 1) = true := by simp [hn1]
      have Hr : Hid (conB v c = (c.2.1 == 0)) := by
        rw [Hid, HC2.out, HR.out, hn1]
        cases hz : (c.2.1 == 0) <;> simp [bne, hz]
      clear hn0 hn1
      go_wp2_with fail
      go_ret
      exact ⟨ret_bool Hr.out.symm, hX4⟩
    · have hi2 : ((n2 : Int) == 1) = false := by simp; omega
      have Hr : Hid (conB v c = false) := by rw [Hid, HC2.out, HR.out, decide_eq_true (show 1 < n2 by omega)]; rfl
      clear hn0 hn1
      go_wp2_with fail
      go_ret
      exact ⟨ret_bool Hr.out.symm, hX4⟩

set_option maxRecDepth 100000 in
set_option maxHeartbeats 2000000 in
theorem refGvalid_any (v : Int) (A : Option Addr) (n cap : Nat) (cs : List LCn) (w : World) (h : CL w w.heap.size A n cs) (hn : n ≤ 9223372036854775807) :
    Calls Try.prog 28 #[.int .i64 v, .slice A n cap] w fun e w' => e = .returned (.bool (gvld v cs)) ∧ Below w.heap.size w w' := by
  have hl : cs.length = n := h.1
  by_cases h0 : v < 0
  · have Hr : Hid (gvld v cs = false) := by rw [Hid, gvld, decide_eq_false (by omega), Bool.false_and]
    go_enter Try.func28, Try.ntmps28
    go_wp2_with fail
    go_ret
    exact ⟨ret_bool Hr.out.symm, Below.refl _ _⟩
  by_cases h1 : (1200 : Int) < v
  · have Hr : Hid (gvld v cs = false) := by rw [Hid, gvld, decide_eq_false (by omega), Bool.false_and]
    go_enter Try.func28, Try.ntmps28
    go_wp2_with fail
    go_ret
    exact ⟨ret_bool Hr.out.symm, Below.refl _ _⟩
  by_cases h2 : (3000 : Int) < (n : Int)
  · have Hr : Hid (gvld v cs = false) := by rw [Hid, gvld, decide_eq_false (by omega), Bool.false_and]
    go_enter Try.func28, Try.ntmps28
    go_wp2_with fail
    go_ret
    exact ⟨ret_bool Hr.out.symm, Below.refl _ _⟩
  have Hr : Hid (gvld v cs = fitB v cs) := by rw [Hid, gvld, decide_eq_true ⟨by omega, by omega, by omega⟩, Bool.true_and]
  go_enter Try.func28, Try.ntmps28
  go_wp2_with fail
  go_loopw [5] (fun i wr => ∃ k : Nat, k ≤ n ∧ i = .int .i64 k ∧ fitB v (cs.take k) = true ∧ Below w.heap.size w wr) (fun i _ => n - (intOf i).toNat)
  case atStart => exact ⟨0, Nat.zero_le _, rfl, rfl, Below.refl _ _⟩
  case round =>
    obtain ⟨k, hk, rfl, hok, hb⟩ := hrel
    have Hok := Lib.hid hok; clear hok
    by_cases hlt : k < n
    · obtain ⟨b, off, c, A1, n1, c1, A2, n2, c2, rfl, hbl, hc, z0, z1, z2, z3, p1, p2, q1, r1, q2, r2⟩ := (h.lift hb).at_ hlt
      have hA := Lib.hid (constraint_any v c A1 n1 c1 A2 n2 c2 wr p1 p2 q1 r1 q2 r2)
      have Hno := Lib.hid (fun h => fitB_not (n := v) hc h)
      have Hst : Hid (fitB v (cs.take (k + 1)) = conB v c) := by rw [Hid, take_snoc hc, fitB_snoc, Hok.out]; rfl
      clear hc p1 p2
      cases hva : conB v c
      · rw [hva] at hA
        have Hf : Hid (gvld v cs = false) := by rw [Hid, Hr.out, Hno.out hva]
        clear hva
        go_wp2_with fail
        refine hA.out.mono ?_
        rintro e w1 ⟨rfl, hb1⟩
        go_wp2_with fail
        go_ret
        exact ⟨ret_bool Hf.out.symm, hb.trans (hb1.mono hb.size)⟩
      · rw [hva] at hA Hst
        clear hva
        go_wp2_with fail
        refine hA.out.mono ?_
        rintro e w1 ⟨rfl, hb1⟩
        go_wp2_with fail
        go_roundw
        case rel => exact ⟨k + 1, by omega, by go_num, Hst.out, hb.trans (hb1.mono hb.size)⟩
        case measure => simp [intOf]; omega
    · have Hn : Hid (gvld v cs = true) := by
        have := Hok.out
        rw [List.take_of_length_le (by have := h.1; omega)] at this
        rw [Hid, Hr.out, this]
      go_wp2_with fail
      go_ret
      exact ⟨ret_bool Hn.out.symm, hb⟩
end Go.Proofs.Ytfaebmpdianniaa
