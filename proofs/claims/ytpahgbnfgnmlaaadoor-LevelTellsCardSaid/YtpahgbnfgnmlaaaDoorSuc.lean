/-
  'Suc' of package level: what it returns for every level.
-/
import Derived.Test.YtpahgbnfgnmlaaaDoorRaised
namespace Go.Proofs.YtpahgbnfgnmlaaaDoor
open Go Go.RowKit

noncomputable def sErr (c : Int) (l : List (Int × Int)) : Int := if vld c l = true then cErr (c + 1) (rl 1 l) else 4
noncomputable def sConst (c : Int) (l : List (Int × Int)) : Int := if vld c l = true then cConst (c + 1) (rl 1 l) else 0
noncomputable def sVars (c : Int) (l : List (Int × Int)) : List (Int × Int) := if vld c l = true then cVars (c + 1) (rl 1 l) else []
theorem vld_plus {c : Int} {l : List (Int × Int)} (h : vld c l = true) (k : Nat) (x : Int × Int) (hx : l[k]? = some x) : 0 ≤ x.2 ∧ x.2 ≤ 1000 := by
  have := (vld_iff.1 h).ok k x (List.getElem?_eq_some_iff.1 hx).1 hx
  exact this.2.1

set_option maxRecDepth 100000 in
set_option maxHeartbeats 4000000 in
theorem suc_any (c : Int) (A : Option Addr) (n cap : Nat) (l : List (Int × Int)) (w : World) (h : PL w w.heap.size A n l) (hn : n ≤ cap) (hm : cap ≤ 9223372036854775807) :
    Calls Tryd.prog 23 #[.agg #[.int .i64 c, .slice A n cap]] w fun e w' => ∃ v, e = .returned (.tuple #[v, .int .i64 (sErr c l)]) ∧ LvRes w.heap.size w' v (sConst c l) (sVars c l) ∧ Below w.heap.size w w' := by
  have hb2 := B2.start w c A n cap
  have hv := valid_any c A n cap l _ (h.lift hb2.bel) hn hm
  cases hvl : vld c l
  · have Hr : Hid (sErr c l = 4) := by rw [Hid, sErr, hvl]; rfl
    have Hcc : Hid (sConst c l = 0) := by rw [Hid, sConst, hvl]; rfl
    have Hcv : Hid (sVars c l = []) := by rw [Hid, sVars, hvl]; rfl
    rw [hvl] at hv
    have Hv := Lib.hid hv; clear hv hvl
    go_enter Tryd.func23, Tryd.ntmps23
    go_wp2_with fail
    refine Hv.out.mono ?_
    rintro e w1 ⟨rfl, hb1⟩
    have hbx := hb2.go hb1
    obtain ⟨z0, z1, z2⟩ := hbx.put 0 (.slice none 0 0)
    have r0 := hbx.r0
    have r1 := hbx.r1
    have r2 := hbx.r2
    have r3 := hbx.r3
    go_wp2_with fail
    refine bodyPost_ret (v := .tuple #[.agg #[.int .i64 0, .slice none 0 0], .int .i64 4]) (by simp [results, Tryd.results23, go_sem, z0, z1]) rfl ?_
    exact ⟨.agg #[.int .i64 0, .slice none 0 0], by rw [Hr.out], ⟨none, 0, 0, by rw [Hcc.out], by rw [Hcv.out]; exact PL.nil_ _, Nat.le_refl _, Nat.zero_le _, fun _ _ e => by cases e⟩, z2⟩
  · have Hr : Hid (sErr c l = cErr (c + 1) (rl 1 l)) := by rw [Hid, sErr, hvl]; rfl
    have Hcc : Hid (sConst c l = cConst (c + 1) (rl 1 l)) := by rw [Hid, sConst, hvl]; rfl
    have Hcv : Hid (sVars c l = cVars (c + 1) (rl 1 l)) := by rw [Hid, sVars, hvl]; rfl
    have hlen : n ≤ 8 := by have := (vld_iff.1 hvl).len; have := h.1; omega
    have hc0 := vld_c hvl
    have hxs := vld_plus hvl
    rw [hvl] at hv
    have Hv := Lib.hid hv; clear hv hvl
    go_enter Tryd.func23, Tryd.ntmps23
    go_wp2_with fail
    refine Hv.out.mono ?_
    rintro e w1 ⟨rfl, hb1⟩
    have hbx := hb2.go hb1
    have a0 := hbx.a0
    have a1 := hbx.a1
    have hrai := Lib.hid (raised_any c A n cap l 1 w1 (h.lift hbx.bel) (by omega) hc0.1 hc0.2 (by omega) (by omega) hxs)
    clear hxs
    go_wp2_with fail
    refine hrai.out.mono ?_
    rintro e w2 ⟨v, rfl, ⟨A2, m2, c2, rfl, hP2, hm2, hc2, hA2⟩, hb3⟩
    have hby := hbx.go hb3
    have hm8 : m2 ≤ 1000000 := by have := hP2.1; have := rl_len 1 l; have := h.1; omega
    clear a0 a1 hrai
    have hcan := Lib.hid (canonical_any (c + 1) A2 m2 c2 (rl 1 l) w2 hP2 hm8)
    generalize rl 1 l = q at *
    go_wp2_with fail
    refine hcan.out.mono ?_
    rintro e w3 ⟨v, rfl, ⟨C, m, k, rfl, hPC, hmk, hk, hC⟩, hb4⟩
    have hbz := hby.go hb4
    obtain ⟨z0, z1, z2⟩ := hbz.put (cConst (c + 1) q) (.slice C m k)
    have r0 := hbz.r0
    have r1 := hbz.r1
    have r2 := hbz.r2
    have r3 := hbz.r3
    clear hcan
    go_wp2_with fail
    refine bodyPost_ret (v := .tuple #[.agg #[.int .i64 (cConst (c + 1) q), .slice C m k], .int .i64 (cErr (c + 1) q)]) (by simp [results, Tryd.results23, go_sem, z0, z1]) rfl ?_
    have hs1 := hby.size
    refine ⟨.agg #[.int .i64 (cConst (c + 1) q), .slice C m k], by rw [Hr.out], ⟨C, m, k, by rw [Hcc.out], ?_, hmk, hk, fun b off e => by have := hC b off e; omega⟩, z2⟩
    rw [Hcv.out]
    exact hPC.set2 _ _ (fun b off e => by have := hC b off e; omega) (by simp)
end Go.Proofs.YtpahgbnfgnmlaaaDoor
