/-
  'Normal' of the reference: the same level and the same error as package level's, for every level; levels that are equal are found equal.
-/
import Derived.Test.YtgbbmcfhakliiaaGreatDoorFits
namespace Go.Proofs.YtgbbmcfhakliiaaGreatDoor
open Go Go.RowKit

theorem PL.of_lv {B : Nat} {w : World} {v : Value} {c : Int} {l : List (Int × Int)} (h : LvRes B w v c l) : ∃ A m cap, v = .agg #[.int .i64 c, .slice A m cap] ∧ PL w w.heap.size A m l ∧ m ≤ cap ∧ cap ≤ 9223372036854775807 := by
  obtain ⟨A, m, cap, rfl, h1, h2, h3, _⟩ := h
  exact ⟨A, m, cap, rfl, h1, h2, h3⟩

/-- what 'fits' behind 'canonical' gives -/
theorem fits_canon {c : Int} {l : List (Int × Int)} (A : Option Addr) (n cap : Nat) : fE (if c ≤ gplus (canonV l) then 0 else c) (canonV l) = cErr c l ∧
    fV (if c ≤ gplus (canonV l) then 0 else c) A n cap (canonV l) = if cErr c l = 0 then .agg #[.int .i64 (cConst c l), .slice A n cap] else .agg #[.int .i64 0, .slice none 0 0] := by
  have e : fE (if c ≤ gplus (canonV l) then 0 else c) (canonV l) = cErr c l := by rw [fE_eq, cErr]
  refine ⟨e, ?_⟩
  rw [fV, e]
  by_cases h : cErr c l = 0
  · rw [if_pos h, if_pos h, cConst, if_pos h]
  · rw [if_neg h, if_neg h]
theorem fits_lv {c : Int} {l : List (Int × Int)} {A : Option Addr} {n cap B : Nat} {w : World} (h : PL w w.heap.size A n (canonV l)) (hn : n ≤ cap) (hm : cap ≤ 9223372036854775807) (hB : ∀ b off, A = some ⟨b, off, none⟩ → B ≤ b) :
    ∃ C m k, fV (if c ≤ gplus (canonV l) then 0 else c) A n cap (canonV l) = .agg #[.int .i64 (cConst c l), .slice C m k] ∧ PL w w.heap.size C m (cVars c l) ∧ m ≤ k ∧ k ≤ 9223372036854775807 ∧ ∀ b off, C = some ⟨b, off, none⟩ → B ≤ b := by
  rw [(fits_canon (c := c) (l := l) A n cap).2]
  by_cases he : cErr c l = 0
  · rw [if_pos he]
    exact ⟨A, n, cap, rfl, by rw [cVars, if_pos he]; exact h, hn, hm, hB⟩
  · rw [if_neg he]
    exact ⟨none, 0, 0, by rw [cConst, if_neg he], by rw [cVars, if_neg he]; exact PL.nil_ _, Nat.le_refl _, Nat.zero_le _, fun _ _ e => by cases e⟩

set_option maxRecDepth 100000 in
set_option maxHeartbeats 4000000 in
theorem refNormal_any (c : Int) (A : Option Addr) (n cap : Nat) (l : List (Int × Int)) (w : World) (h : PL w w.heap.size A n l) (hn : n ≤ cap) (hm : cap ≤ 9223372036854775807) :
    Calls Tryz.prog 10 #[.agg #[.int .i64 c, .slice A n cap]] w fun e w' => ∃ v, e = .returned (.tuple #[v, .int .i64 (nErr c l)]) ∧ LvRes w.heap.size w' v (nConst c l) (nVars c l) ∧ Below w.heap.size w w' := by
  have hb2 := B2.start w c A n cap
  have hv := refValid_any c A n cap l _ (h.lift hb2.bel) hn hm
  cases hvl : vld c l
  · have Hr : Hid (nErr c l = 4) := by rw [Hid, nErr, hvl]; rfl
    have Hcc : Hid (nConst c l = 0) := by rw [Hid, nConst, hvl]; rfl
    have Hcv : Hid (nVars c l = []) := by rw [Hid, nVars, hvl]; rfl
    rw [hvl] at hv
    have Hv := Lib.hid hv; clear hv hvl
    go_enter Tryz.func10, Tryz.ntmps10
    go_wp2_with fail
    refine Hv.out.mono ?_
    rintro e w1 ⟨rfl, hb1⟩
    have hbx := hb2.go hb1
    obtain ⟨z0, z1, z2⟩ := hbx.put 0 (.slice none 0 0)
    have r0 := hbx.r0
    have r1 := hbx.r1
    have r2 := hbx.r2
    have r3 := hbx.r3
    go_wp2_with fail
    refine bodyPost_ret (v := .tuple #[.agg #[.int .i64 0, .slice none 0 0], .int .i64 4]) (by simp [results, Tryz.results10, go_sem, z0, z1]) rfl ?_
    exact ⟨.agg #[.int .i64 0, .slice none 0 0], by rw [Hr.out], ⟨none, 0, 0, by rw [Hcc.out], by rw [Hcv.out]; exact PL.nil_ _, Nat.le_refl _, Nat.zero_le _, fun _ _ e => by cases e⟩, z2⟩
  · have Hr : Hid (nErr c l = cErr c l) := by rw [Hid, nErr, hvl]; rfl
    have Hcc : Hid (nConst c l = cConst c l) := by rw [Hid, nConst, hvl]; rfl
    have Hcv : Hid (nVars c l = cVars c l) := by rw [Hid, nVars, hvl]; rfl
    have hlen : n ≤ 8 := by have := (vld_iff.1 hvl).len; have := h.1; omega
    have hc0 := (vld_c hvl).1
    rw [hvl] at hv
    have Hv := Lib.hid hv; clear hv hvl
    go_enter Tryz.func10, Tryz.ntmps10
    go_wp2_with fail
    refine Hv.out.mono ?_
    rintro e w1 ⟨rfl, hb1⟩
    have hbx := hb2.go hb1
    have a0 := hbx.a0
    have a1 := hbx.a1
    have hcan := Lib.hid (refCanonical_any c A n cap l w1 (h.lift hbx.bel) (by omega) hc0)
    go_wp2_with fail
    refine hcan.out.mono ?_
    rintro e w2 ⟨v, rfl, ⟨A2, m2, c2, rfl, hP2, hm2, hc2, hA2⟩, hb3⟩
    have hby := hbx.go hb3
    have hm8 : m2 ≤ 1000000 := by have := hP2.1; have := canonV_len l; have := h.1; omega
    have hfit := Lib.hid (fits_any (if c ≤ gplus (canonV l) then 0 else c) A2 m2 c2 (canonV l) w2 hP2 hm8)
    have hfl := fun w3 (hb : Below w2.heap.size w2 w3) => fits_lv (c := c) (l := l) (A := A2) (n := m2) (cap := c2) (B := w1.heap.size) (hP2.lift hb) hm2 hc2 hA2
    have Hfl := Lib.hid hfl
    have Hfe := Lib.hid (fits_canon (c := c) (l := l) A2 m2 c2).1
    clear a0 a1 hcan hfl
    generalize (if c ≤ gplus (canonV l) then 0 else c) = d at hfit Hfl Hfe ⊢
    go_wp2_with fail
    refine hfit.out.mono ?_
    rintro e w3 ⟨rfl, hb4⟩
    obtain ⟨C, m, k, hfv, hPC, hmk, hk, hC⟩ := Hfl.out w3 hb4
    have hbz := hby.go hb4
    rw [hfv, Hfe.out]
    clear hfit Hfl Hfe hfv
    obtain ⟨z0, z1, z2⟩ := hbz.put (cConst c l) (.slice C m k)
    have r0 := hbz.r0
    have r1 := hbz.r1
    have r2 := hbz.r2
    have r3 := hbz.r3
    go_wp2_with fail
    refine bodyPost_ret (v := .tuple #[.agg #[.int .i64 (cConst c l), .slice C m k], .int .i64 (cErr c l)]) (by simp [results, Tryz.results10, go_sem, z0, z1]) rfl ?_
    have hs1 := hbx.size
    refine ⟨.agg #[.int .i64 (cConst c l), .slice C m k], by rw [Hr.out], ⟨C, m, k, by rw [Hcc.out], ?_, hmk, hk, fun b off e => by have := hC b off e; omega⟩, z2⟩
    rw [Hcv.out]
    exact hPC.set2 _ _ (fun b off e => by have := hC b off e; omega) (by simp)
end Go.Proofs.YtgbbmcfhakliiaaGreatDoor
