/-
  'Max' of package level: what it returns for every two levels.
-/
import Derived.Test.YtpahgbnfgnmlaaaDoorBoth
namespace Go.Proofs.YtpahgbnfgnmlaaaDoor
open Go Go.RowKit

noncomputable def mErr (ca : Int) (la : List (Int × Int)) (cb : Int) (lb : List (Int × Int)) : Int := if vld ca la = true ∧ vld cb lb = true then cErr (max ca cb) (la ++ lb) else 4
noncomputable def mConst (ca : Int) (la : List (Int × Int)) (cb : Int) (lb : List (Int × Int)) : Int := if vld ca la = true ∧ vld cb lb = true then cConst (max ca cb) (la ++ lb) else 0
noncomputable def mVars (ca : Int) (la : List (Int × Int)) (cb : Int) (lb : List (Int × Int)) : List (Int × Int) := if vld ca la = true ∧ vld cb lb = true then cVars (max ca cb) (la ++ lb) else []
theorem m_not {ca cb : Int} {la lb : List (Int × Int)} (h : ¬ (vld ca la = true ∧ vld cb lb = true)) : mErr ca la cb lb = 4 ∧ mConst ca la cb lb = 0 ∧ mVars ca la cb lb = [] := ⟨by rw [mErr, if_neg h], by rw [mConst, if_neg h], by rw [mVars, if_neg h]⟩
theorem m_yes {ca cb : Int} {la lb : List (Int × Int)} (h : vld ca la = true ∧ vld cb lb = true) : mErr ca la cb lb = cErr (max ca cb) (la ++ lb) ∧ mConst ca la cb lb = cConst (max ca cb) (la ++ lb) ∧ mVars ca la cb lb = cVars (max ca cb) (la ++ lb) := ⟨by rw [mErr, if_pos h], by rw [mConst, if_pos h], by rw [mVars, if_pos h]⟩

set_option maxRecDepth 100000 in
set_option maxHeartbeats 4000000 in
theorem max_any (ca : Int) (A : Option Addr) (n capA : Nat) (la : List (Int × Int)) (cb : Int) (B : Option Addr) (m capB : Nat) (lb : List (Int × Int)) (w : World)
    (ha : PL w w.heap.size A n la) (hn : n ≤ capA) (hca : capA ≤ 9223372036854775807) (hA : A = none → capA = 0) (hb : PL w w.heap.size B m lb) (hm : m ≤ capB) (hcb : capB ≤ 9223372036854775807) (hB : B = none → capB = 0) :
    Calls Tryd.prog 25 #[.agg #[.int .i64 ca, .slice A n capA], .agg #[.int .i64 cb, .slice B m capB]] w fun e w' => ∃ v, e = .returned (.tuple #[v, .int .i64 (mErr ca la cb lb)]) ∧ LvRes w.heap.size w' v (mConst ca la cb lb) (mVars ca la cb lb) ∧ Below w.heap.size w w' := by
  have h3 := B3.start w ca A n capA cb B m capB
  have hv := valid_any ca A n capA la _ (ha.lift h3.bel) hn hca
  have hv2 := fun X (hX : Below w.heap.size w X) => valid_any cb B m capB lb X (hb.lift hX) hm hcb
  cases hv1 : vld ca la
  · obtain ⟨e1, e2, e3⟩ := m_not (ca := ca) (cb := cb) (la := la) (lb := lb) (fun h => by simp [hv1] at h)
    have Hr := Lib.hid e1; have Hcc := Lib.hid e2; have Hcv := Lib.hid e3; clear e1 e2 e3 hv2
    rw [hv1] at hv
    have Hv := Lib.hid hv; clear hv hv1
    go_enter Tryd.func25, Tryd.ntmps25
    go_wp2_with fail
    refine Hv.out.mono ?_
    rintro e w1 ⟨rfl, hb1⟩
    have hbx := h3.go hb1
    obtain ⟨z0, z1, z2⟩ := hbx.put 0 (.slice none 0 0)
    have r0 := hbx.r0
    have r1 := hbx.r1
    have r2 := hbx.r2
    have r3 := hbx.r3
    go_wp2_with fail
    refine bodyPost_ret (v := .tuple #[.agg #[.int .i64 0, .slice none 0 0], .int .i64 4]) (by simp [results, Tryd.results25, go_sem, z0, z1]) rfl ?_
    exact ⟨.agg #[.int .i64 0, .slice none 0 0], by rw [Hr.out], ⟨none, 0, 0, by rw [Hcc.out], by rw [Hcv.out]; exact PL.nil_ _, Nat.le_refl _, Nat.zero_le _, fun _ _ e => by cases e⟩, z2⟩
  cases hvb : vld cb lb
  · obtain ⟨e1, e2, e3⟩ := m_not (ca := ca) (cb := cb) (la := la) (lb := lb) (fun h => by simp [hvb] at h)
    have Hr := Lib.hid e1; have Hcc := Lib.hid e2; have Hcv := Lib.hid e3; clear e1 e2 e3
    rw [hv1] at hv
    rw [hvb] at hv2
    have Hv := Lib.hid hv; have Hv2 := Lib.hid hv2; clear hv hv1 hv2 hvb
    go_enter Tryd.func25, Tryd.ntmps25
    go_wp2_with fail
    refine Hv.out.mono ?_
    rintro e w1 ⟨rfl, hb1⟩
    have hbx := h3.go hb1
    have b0 := hbx.b0
    have b1 := hbx.b1
    go_wp2_with fail
    refine (Hv2.out _ hbx.bel).mono ?_
    rintro e w2 ⟨rfl, hb2⟩
    have hby := hbx.go hb2
    clear b0 b1
    obtain ⟨z0, z1, z2⟩ := hby.put 0 (.slice none 0 0)
    have r0 := hby.r0
    have r1 := hby.r1
    have r2 := hby.r2
    have r3 := hby.r3
    go_wp2_with fail
    refine bodyPost_ret (v := .tuple #[.agg #[.int .i64 0, .slice none 0 0], .int .i64 4]) (by simp [results, Tryd.results25, go_sem, z0, z1]) rfl ?_
    exact ⟨.agg #[.int .i64 0, .slice none 0 0], by rw [Hr.out], ⟨none, 0, 0, by rw [Hcc.out], by rw [Hcv.out]; exact PL.nil_ _, Nat.le_refl _, Nat.zero_le _, fun _ _ e => by cases e⟩, z2⟩
  · obtain ⟨e1, e2, e3⟩ := m_yes (ca := ca) (cb := cb) (la := la) (lb := lb) ⟨hv1, hvb⟩
    have Hr := Lib.hid e1; have Hcc := Lib.hid e2; have Hcv := Lib.hid e3; clear e1 e2 e3
    have hln : n ≤ 8 := by have := (vld_iff.1 hv1).len; have := ha.1; omega
    have hlm : m ≤ 8 := by have := (vld_iff.1 hvb).len; have := hb.1; omega
    rw [hv1] at hv
    rw [hvb] at hv2
    have Hv := Lib.hid hv; have Hv2 := Lib.hid hv2; clear hv hv1 hv2 hvb
    go_enter Tryd.func25, Tryd.ntmps25
    go_wp2_with fail
    refine Hv.out.mono ?_
    rintro e w1 ⟨rfl, hb1⟩
    have hbx := h3.go hb1
    have b0 := hbx.b0
    have b1 := hbx.b1
    go_wp2_with fail
    refine (Hv2.out _ hbx.bel).mono ?_
    rintro e w2 ⟨rfl, hb2⟩
    have hby := hbx.go hb2
    clear b0 b1
    have a0 := hby.a0
    have a1 := hby.a1
    have b0 := hby.b0
    have b1 := hby.b1
    have hbo := Lib.hid (both_any ca A n capA la cb B m capB lb w2 (ha.lift hby.bel) (hb.lift hby.bel) (by omega) (by omega) hA hB)
    have hlq : (la ++ lb).length ≤ 1000000 := by have := ha.1; have := hb.1; rw [List.length_append]; omega
    generalize la ++ lb = q at *
    go_wp2_with fail
    refine hbo.out.mono ?_
    rintro e w3 ⟨v, rfl, ⟨A2, m2, c2, rfl, hP2, hm2, hc2, hA2⟩, hb3⟩
    have hbz := hby.go hb3
    clear a0 a1 b0 b1 hbo
    have hcan := Lib.hid (canonical_any (max ca cb) A2 m2 c2 q w3 hP2 (by have := hP2.1; omega))
    generalize max ca cb = d at *
    go_wp2_with fail
    refine hcan.out.mono ?_
    rintro e w4 ⟨v, rfl, ⟨C, k2, k, rfl, hPC, hmk, hk, hC⟩, hb4⟩
    have hbt := hbz.go hb4
    obtain ⟨z0, z1, z2⟩ := hbt.put (cConst d q) (.slice C k2 k)
    have r0 := hbt.r0
    have r1 := hbt.r1
    have r2 := hbt.r2
    have r3 := hbt.r3
    clear hcan
    go_wp2_with fail
    refine bodyPost_ret (v := .tuple #[.agg #[.int .i64 (cConst d q), .slice C k2 k], .int .i64 (cErr d q)]) (by simp [results, Tryd.results25, go_sem, z0, z1]) rfl ?_
    have hs1 := hbz.size
    refine ⟨.agg #[.int .i64 (cConst d q), .slice C k2 k], by rw [Hr.out], ⟨C, k2, k, by rw [Hcc.out], ?_, hmk, hk, fun b off e => by have := hC b off e; omega⟩, z2⟩
    rw [Hcv.out]
    exact hPC.set2 _ _ (fun b off e => by have := hC b off e; omega) (by simp)
end Go.Proofs.YtpahgbnfgnmlaaaDoor
