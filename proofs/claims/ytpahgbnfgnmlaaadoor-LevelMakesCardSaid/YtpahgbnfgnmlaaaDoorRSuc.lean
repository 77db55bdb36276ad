/-
  'Suc' of the reference: the same level and the same error as package level's, for every level.
-/
import Derived.Test.YtpahgbnfgnmlaaaDoorMore
import Derived.Test.YtpahgbnfgnmlaaaDoorSuc
import Derived.Deep.RegionHeld3
namespace Go.Proofs.YtpahgbnfgnmlaaaDoor
open Go Go.RowKit

set_option maxRecDepth 100000 in
set_option maxHeartbeats 4000000 in
theorem refSuc_any (c : Int) (A : Option Addr) (n cap : Nat) (l : List (Int × Int)) (w : World) (h : PL w w.heap.size A n l) (hn : n ≤ cap) (hm : cap ≤ 9223372036854775807) :
    Calls Tryd.prog 24 #[.agg #[.int .i64 c, .slice A n cap]] w fun e w' => ∃ v, e = .returned (.tuple #[v, .int .i64 (sErr c l)]) ∧ LvRes w.heap.size w' v (sConst c l) (sVars c l) ∧ Below w.heap.size w w' := by
  have hb2 := B2.start w c A n cap
  have hv := refValid_any c A n cap l _ (h.lift hb2.bel) hn hm
  cases hvl : vld c l
  · have Hr : Hid (sErr c l = 4) := by rw [Hid, sErr, hvl]; rfl
    have Hcc : Hid (sConst c l = 0) := by rw [Hid, sConst, hvl]; rfl
    have Hcv : Hid (sVars c l = []) := by rw [Hid, sVars, hvl]; rfl
    rw [hvl] at hv
    have Hv := Lib.hid hv; clear hv hvl
    go_enter Tryd.func24, Tryd.ntmps24
    go_wp2_with fail
    refine Hv.out.mono ?_
    rintro e w1 ⟨rfl, hb1⟩
    have hbx := hb2.go hb1
    obtain ⟨z0, z1, z2⟩ := hbx.put 0 (.slice none 0 0)
    have r0 := hbx.r0
    have r1 := hbx.r1
    have r2 := hbx.r2
    have r3 := hbx.r3
    go_wp2_with fail
    refine bodyPost_ret (v := .tuple #[.agg #[.int .i64 0, .slice none 0 0], .int .i64 4]) (by simp [results, Tryd.results24, go_sem, z0, z1]) rfl ?_
    exact ⟨.agg #[.int .i64 0, .slice none 0 0], by rw [Hr.out], ⟨none, 0, 0, by rw [Hcc.out], by rw [Hcv.out]; exact PL.nil_ _, Nat.le_refl _, Nat.zero_le _, fun _ _ e => by cases e⟩, z2⟩
  · have Hr : Hid (sErr c l = cErr (c + 1) (rl 1 l)) := by rw [Hid, sErr, hvl]; rfl
    have Hcc : Hid (sConst c l = cConst (c + 1) (rl 1 l)) := by rw [Hid, sConst, hvl]; rfl
    have Hcv : Hid (sVars c l = cVars (c + 1) (rl 1 l)) := by rw [Hid, sVars, hvl]; rfl
    have hlen : n ≤ 8 := by have := (vld_iff.1 hvl).len; have := h.1; omega
    have hc0 := vld_c hvl
    have hxs := Lib.hid (vld_plus hvl)
    rw [hvl] at hv
    have Hv := Lib.hid hv; clear hv hvl
    have hwr : Hid (IntKind.i64.wrap (c + 1) = c + 1) := IntWalk.i64_in _ (by omega)
    go_enter Tryd.func24, Tryd.ntmps24
    go_wp2_with fail
    refine Hv.out.mono ?_
    rintro e w1 ⟨rfl, hb1⟩
    have hbx := hb2.go hb1
    clear hb2 hb1 Hv
    go_upto_region 3 with fail
    have hq8 : (rl 1 l).length ≤ 8 := by rw [rl_len]; have := h.1; omega
    have hmore : ∀ X, Below w1.heap.size w1 X → Calls Tryd.prog 46 #[.agg #[.int .i64 c, .slice A n cap], .int .i64 1] X fun e w' =>
        ∃ C k, e = .returned (.slice C (rl 1 l).length k) ∧ PL w' w'.heap.size C (rl 1 l).length (rl 1 l) ∧ Below w1.heap.size w1 w' := fun X hX =>
      (more_any c A n cap l 1 X (h.lift (hbx.bel.trans (hX.mono hbx.bel.size))) (by omega) (by omega) (by omega) hxs.out).mono fun e w' ⟨v, he, hown, hb⟩ => by
        obtain ⟨C, k, rfl, _, _, hP, _⟩ := PL.of_own hown
        exact ⟨C, k, he, hP, hX.trans (hb.mono hX.size)⟩
    have hcan : ∀ X C k, Below w1.heap.size w1 X → PL X X.heap.size C (rl 1 l).length (rl 1 l) → Calls Tryd.prog 37 #[.int .i64 (c + 1), .slice C (rl 1 l).length k] X fun e w' =>
        ∃ D m j, e = .returned (.agg #[.int .i64 (if c + 1 ≤ gplus (canonV (rl 1 l)) then 0 else c + 1), .slice D m j]) ∧ PL w' w'.heap.size D m (canonV (rl 1 l)) ∧ m ≤ j ∧ j ≤ 9223372036854775807 ∧ (∀ b off, D = some ⟨b, off, none⟩ → w1.heap.size ≤ b) ∧ Below w1.heap.size w1 w' := fun X C k hX hP =>
      (refCanonical_any (c + 1) C _ k (rl 1 l) X hP (by omega) (by omega)).mono fun e w' ⟨v, he, ⟨D, m, j, hv, hPD, h1, h2, h3⟩, hb⟩ => ⟨D, m, j, by rw [he, hv], hPD, h1, h2, fun b off e => Nat.le_trans hX.size (h3 b off e), hX.trans (hb.mono hX.size)⟩
    have hfit : ∀ X D m j, Below w1.heap.size w1 X → PL X X.heap.size D m (canonV (rl 1 l)) → m ≤ j → j ≤ 9223372036854775807 → (∀ b off, D = some ⟨b, off, none⟩ → w1.heap.size ≤ b) → Calls Tryd.prog 36 #[.agg #[.int .i64 (if c + 1 ≤ gplus (canonV (rl 1 l)) then 0 else c + 1), .slice D m j]] X fun e w' =>
        ∃ C m k, e = .returned (.tuple #[.agg #[.int .i64 (cConst (c + 1) (rl 1 l)), .slice C m k], .int .i64 (cErr (c + 1) (rl 1 l))]) ∧ PL w' w'.heap.size C m (cVars (c + 1) (rl 1 l)) ∧ m ≤ k ∧ k ≤ 9223372036854775807 ∧ (∀ b off, C = some ⟨b, off, none⟩ → w1.heap.size ≤ b) ∧ Below w1.heap.size w1 w' := fun X D m j hX hP h1 h2 h3 =>
      (fits_any _ D m j (canonV (rl 1 l)) X hP (by have := hP.1; have := canonV_len (rl 1 l); omega)).mono fun e w' ⟨he, hb⟩ => by
        obtain ⟨C, m', k, hfv, hPC, hmk, hk, hC⟩ := fits_lv (c := c + 1) (l := rl 1 l) (B := w1.heap.size) (hP.lift hb) h1 h2 h3
        rw [hfv, (fits_canon (c := c + 1) (l := rl 1 l) D m j).1] at he
        exact ⟨C, m', k, he, hPC, hmk, hk, hC, hX.trans (hb.mono hX.size)⟩
    generalize (if c + 1 ≤ gplus (canonV (rl 1 l)) then 0 else c + 1) = d at hcan hfit
    generalize cConst (c + 1) (rl 1 l) = d2 at *
    generalize cErr (c + 1) (rl 1 l) = er at *
    generalize cVars (c + 1) (rl 1 l) = cv at *
    generalize canonV (rl 1 l) = q2 at hcan hfit
    generalize (rl 1 l).length = ql at *
    generalize rl 1 l = q at *
    have Hmore := Lib.hid hmore; have Hcan := Lib.hid hcan; have Hfit := Lib.hid hfit
    clear hmore hcan hfit
    have hS : ∀ w', Below w1.heap.size w1 w' → (w'.cell? ⟨w.heap.size, 0, none⟩ = some (.int .i64 c) ∧ w'.cell? ⟨w.heap.size, 1, none⟩ = some (.slice A n cap)) := fun w' hb => ⟨(hbx.go hb).a0, (hbx.go hb).a1⟩
    have HS := Lib.hid hS; clear hS
    have HB := Lib.hid hbx
    have hsz := hbx.size
    have hz0 : Below w1.heap.size w1 w1.drew := (Below.refl _ _).drew
    clear hbx
    go_region_held3 (fun w' => w'.cell? ⟨w.heap.size, 0, none⟩ = some (.int .i64 c) ∧ w'.cell? ⟨w.heap.size, 1, none⟩ = some (.slice A n cap))
      (first | exact HS.out _ (by assumption) | exact ⟨keep_set (by omega) (keep_set (by omega) f1), keep_set (by omega) (keep_set (by omega) f2)⟩)
      (first | (go_at_call 46; refine (Hmore.out _ (by assumption)).mono ?_; rintro e w5 ⟨C1, k1, rfl, hP1, hz⟩) | (go_at_call 37; (try rw [hwr.out]); refine (Hcan.out _ _ _ hz hP1).mono ?_; rintro e w5 ⟨D1, m1, j1, rfl, hPD, hd1, hd2, hd3, hz⟩) | (go_at_call 36; refine (Hfit.out _ _ _ _ hz hPD hd1 hd2 hd3).mono ?_; rintro e w5 ⟨C, m, k, rfl, hPC, hmk, hk, hC, hz⟩; obtain ⟨f1, f2⟩ := HS.out _ hz; have y0 := (HB.out.go hz).r0; have y1 := (HB.out.go hz).r1; have y2 := (HB.out.go hz).r2; have y3 := (HB.out.go hz).r3))
    all_goals
      obtain ⟨z0, z1, z2⟩ := (HB.out.go hz).put d2 (.slice C m k)
      go_wp2_with fail
      refine bodyPost_ret (v := .tuple #[.agg #[.int .i64 d2, .slice C m k], .int .i64 er]) (by simp [results, Tryd.results24, go_sem, z0, z1]) rfl ?_
      refine ⟨.agg #[.int .i64 d2, .slice C m k], by rw [Hr.out], ⟨C, m, k, by rw [Hcc.out], ?_, hmk, hk, fun b off e => by have := hC b off e; omega⟩, z2⟩
      rw [Hcv.out]
      exact hPC.set2 _ _ (fun b off e => by have := hC b off e; omega) (by simp)
end Go.Proofs.YtpahgbnfgnmlaaaDoor
