/-
  'Parse' of the reference, at every text.
-/
import Derived.Test.YtgbbmcfhakliiaaGreatDoorPParse
import Derived.Test.YtgbbmcfhakliiaaGreatDoorRFmt
import Derived.Test.YtgbbmcfhakliiaaGreatDoorRVld
import Derived.Test.YtgbbmcfhakliiaaGreatDoorTxtQ
namespace Go.Proofs.YtgbbmcfhakliiaaGreatDoor
open Go Go.RowKit Go.Shelf

theorem drop_nil {s : ByteArray} {k : Nat} (hk : k ≤ s.size) : s.data.toList.drop k = [] ↔ k = s.size := by
  rw [List.drop_eq_nil_iff, ← Lib.size_eq]
  omega

set_option maxRecDepth 100000 in
set_option maxHeartbeats 4000000 in
theorem refParse_any (s : ByteArray) (w : World) (hs : s.size ≤ 1000000) (hP : Pow w) :
    Calls Tryz.prog 12 #[.string s] w fun e w' => ∃ v, e = .returned (.tuple #[v, .int .i64 (pErr (parseF s.data.toList))]) ∧ LvRes w.heap.size w' v (pLev (parseF s.data.toList)).1 (pLev (parseF s.data.toList)).2 ∧ Below w.heap.size w w' := by
  have h0 := RZ.start w
  have hsz : s.size ≤ 9223372036854775807 := by omega
  have hr := read_any s 0 (w.alloc (.cells #[.int .i64 0, .slice none 0 0] 24)) hs (Nat.zero_le _)
  rw [show ((0 : Nat) : Int) = 0 from rfl, List.drop_zero] at hr
  have Hr := Lib.hid hr
  clear hr
  rw [← parse_same]
  have HF : Hid (∀ o, refParseF s.data.toList = o → pErr (refParseF s.data.toList) = pErr o ∧ pLev (refParseF s.data.toList) = pLev o) := fun o h => by rw [h]; exact ⟨rfl, rfl⟩
  have HD : Hid (refParseF s.data.toList = match readR s.data.toList with
    | some (a, []) => if nErr a.1 a.2 = 0 ∧ fText (nConst a.1 a.2) (nVars a.1 a.2) = s.data.toList then some (nConst a.1 a.2, nVars a.1 a.2) else none
    | _ => none) := rfl
  generalize pErr (refParseF s.data.toList) = PE at HF ⊢
  generalize pLev (refParseF s.data.toList) = PV at HF ⊢
  generalize readR s.data.toList = RF at HD Hr
  go_enter Tryz.func12, Tryz.ntmps12
  go_wp2_with fail
  refine Hr.out.mono ?_
  rintro e w2 ⟨k, c, l, A, n, cap, hk, rfl, hown, hb2, hy⟩
  have hB2 : w.heap.size + 1 ≤ w2.heap.size := (h0.then hb2).size
  have h2 := (h0.then hb2).then (w' := w2.alloc (.cells #[.int .i64 c, .slice A n cap] 24)) ((Below.refl _ _).alloc (Nat.le_refl _) _)
  have r0 := h2.r0
  have r1 := h2.r1
  have r2 := h2.r2
  have r3 := h2.r3
  cases RF with
  | none =>
    obtain ⟨E1, E2⟩ := HF.out none HD.out
    have e := h2.ret 0 (.slice none 0 0)
    clear hy hown hb2
    have HE1 := Lib.hid E1
    have HE2 := Lib.hid E2
    clear E1 E2
    go_wp2_with fail
    refine bodyPost_ret (v := .tuple #[.agg #[.int .i64 0, .slice none 0 0], .int .i64 10]) (by simp [results, Tryz.results12, go_sem, e.1, e.2.1]) rfl ?_
    exact ⟨_, by rw [HE1.out]; rfl, by rw [HE2.out]; exact lv_zero _ _, e.2.2⟩
  | some y =>
    obtain rfl : y = ((c, l), s.data.toList.drop k) := hy y rfl
    by_cases hks : k = s.size
    · have hnil : s.data.toList.drop k = [] := (drop_nil hk).2 hks
      rw [hnil] at HD
      obtain ⟨A', cap', e', hlc, hcm, hPL, hfar⟩ := PL.of_own hown
      injection e' with e1 e2 e3
      subst e1 e2 e3
      have hlm : cap ≤ 9223372036854775807 := by unfold maxLen at hcm; omega
      have hP3 := hPL.lift (wi := w2.alloc (.cells #[.int .i64 c, .slice A l.length cap] 24)) ((Below.refl _ _).alloc (Nat.le_refl _) _)
      have hV := refValid_any c A l.length cap l _ hP3 hlc hlm
      have hN := fun W (hW : Below w2.heap.size w2 W) => refNormal_any c A l.length cap l W (hPL.lift hW) hlc hlm
      have HD2 : Hid (refParseF s.data.toList = if nErr c l = 0 ∧ fText (nConst c l) (nVars c l) = s.data.toList then some (nConst c l, nVars c l) else none) := HD.out
      have Hself : Hid (nErr c l = 0 → nErr (nConst c l) (nVars c l) = 0) := fun h => (norm_self h).1
      have Hvn : Hid (vld c l = false → ¬ nErr c l = 0) := fun h e => by rw [nErr, h] at e; simp at e
      clear hy hown hb2 hfar HD hP3 hPL hnil
      generalize vld c l = vl at hV Hvn
      generalize nErr c l = er at hN HD2 Hself Hvn
      generalize nConst c l = cc at hN HD2 Hself
      generalize nVars c l = cv at hN HD2 Hself
      have HN := Lib.hid hN
      have HV := Lib.hid hV
      clear hN hV
      subst hks
      cases vl with
      | false =>
        obtain ⟨E1, E2⟩ := HF.out _ (HD2.out.trans (if_neg fun h => Hvn.out rfl h.1))
        have HE1 := Lib.hid E1
        have HE2 := Lib.hid E2
        clear E1 E2
        go_wp2_with fail
        refine HV.out.mono ?_
        rintro e w3 ⟨rfl, hb3⟩
        have h3 := h2.then hb3
        clear r0 r1 r2 r3
        have r0 := h3.r0
        have r1 := h3.r1
        have r2 := h3.r2
        have r3 := h3.r3
        have e := h3.ret 0 (.slice none 0 0)
        go_wp2_with fail
        refine bodyPost_ret (v := .tuple #[.agg #[.int .i64 0, .slice none 0 0], .int .i64 10]) (by simp [results, Tryz.results12, go_sem, e.1, e.2.1]) rfl ?_
        exact ⟨_, by rw [HE1.out]; rfl, by rw [HE2.out]; exact lv_zero _ _, e.2.2⟩
      | true =>
        go_wp2_with fail
        refine HV.out.mono ?_
        rintro e w3 ⟨rfl, hb3⟩
        have h3 := h2.then hb3
        have hb23 : Below w2.heap.size w2 w3 := ((Below.refl _ w2).alloc (Nat.le_refl _) _).trans (hb3.mono (by simp))
        have x0 : w3.cell? ⟨w2.heap.size, 0, none⟩ = some (.int .i64 c) := (hb3.cell (p := ⟨w2.heap.size, 0, none⟩) (by simp)).trans (by simp)
        have x1 : w3.cell? ⟨w2.heap.size, 1, none⟩ = some (.slice A l.length cap) := (hb3.cell (p := ⟨w2.heap.size, 1, none⟩) (by simp)).trans (by simp)
        clear r0 r1 r2 r3
        have r0 := h3.r0
        have r1 := h3.r1
        have r2 := h3.r2
        have r3 := h3.r3
        have hN3 := HN.out w3 hb23
        have HN3 := Lib.hid hN3
        clear hN3
        by_cases he : er = 0
        · have hq1 : (er == 0) = true := by simp [he]
          have hq2 : (er != 0) = false := by simp [he]
          have hself := Hself.out he
          have He := Lib.hid he; clear he
          go_wp2_with fail
          refine HN3.out.mono ?_
          rintro e w4 ⟨v, rfl, ⟨A2, m2, c2, rfl, hP2, hm2, hc2, hf2⟩, hb4⟩
          have h4 := (h3.then hb4).then (w' := w4.alloc (.cells #[.int .i64 cc, .slice A2 m2 c2] 24)) ((Below.refl _ _).alloc (Nat.le_refl _) _)
          have hP4 := hP2.lift (wi := w4.alloc (.cells #[.int .i64 cc, .slice A2 m2 c2] 24)) ((Below.refl _ _).alloc (Nat.le_refl _) _)
          have hF := refFormat_any cc A2 m2 c2 cv _ hP4 hm2 hc2 (hP.below h4.bel (.inl (Nat.le_refl _)))
          rw [hself] at hF
          have HFm := Lib.hid hF
          have hR2 : w2.heap.size + 1 ≤ w3.heap.size := by have := hb3.size; simpa using this
          have hR3 := hb4.size
          clear hF r0 r1 r2 r3 x0 x1 hself
          go_wp2_with fail
          refine HFm.out.mono ?_
          rintro e w5 ⟨rfl, hb5⟩
          have h5 := h4.then hb5
          have r0 := h5.r0
          have r1 := h5.r1
          have r2 := h5.r2
          have r3 := h5.r3
          have y0 : w5.cell? ⟨w4.heap.size, 0, none⟩ = some (.int .i64 cc) := (hb5.cell (p := ⟨w4.heap.size, 0, none⟩) (by simp)).trans (by simp)
          have y1 : w5.cell? ⟨w4.heap.size, 1, none⟩ = some (.slice A2 m2 c2) := (hb5.cell (p := ⟨w4.heap.size, 1, none⟩) (by simp)).trans (by simp)
          have hP5 := hP4.below hb5
          by_cases ht : fText cc cv = s.data.toList
          · obtain ⟨E1, E2⟩ := HF.out _ (HD2.out.trans (if_pos ⟨He.out, ht⟩))
            have hbs : bs (fText cc cv) = s := by rw [ht]; exact bs_self s
            have HE1 := Lib.hid E1
            have HE2 := Lib.hid E2
            clear E1 E2 ht
            rw [hbs]
            have e := h5.ret cc (.slice A2 m2 c2)
            go_wp2_with fail
            refine bodyPost_ret (v := .tuple #[.agg #[.int .i64 cc, .slice A2 m2 c2], .int .i64 0]) (by simp [results, Tryz.results12, go_sem, e.1, e.2.1]) rfl ?_
            refine ⟨_, by rw [HE1.out]; rfl, ?_, e.2.2⟩
            rw [HE2.out]
            exact ⟨A2, m2, c2, rfl, hP5.set2 _ _ (fun b off e => by have h7 := hf2 b off e; omega) (by have h7 := hb5.size; simp at h7 ⊢; omega), hm2, hc2, fun b off e => by have h7 := hf2 b off e; omega⟩
          · obtain ⟨E1, E2⟩ := HF.out _ (HD2.out.trans (if_neg fun h => ht h.2))
            have hbs : ((bs (fText cc cv)).toList == s.toList) = false := by rw [str_eq, bs_data]; simp [ht]
            have HE1 := Lib.hid E1
            have HE2 := Lib.hid E2
            clear E1 E2 ht
            generalize bs (fText cc cv) = tt at hbs ⊢
            have e := h5.ret 0 (.slice none 0 0)
            go_wp2_with fail
            refine bodyPost_ret (v := .tuple #[.agg #[.int .i64 0, .slice none 0 0], .int .i64 10]) (by simp [results, Tryz.results12, go_sem, e.1, e.2.1]) rfl ?_
            exact ⟨_, by rw [HE1.out]; rfl, by rw [HE2.out]; exact lv_zero _ _, e.2.2⟩
        · have hq1 : (er == 0) = false := by simp [he]
          have hq2 : (er != 0) = true := by simp [he]
          obtain ⟨E1, E2⟩ := HF.out _ (HD2.out.trans (if_neg fun h => he h.1))
          have HE1 := Lib.hid E1
          have HE2 := Lib.hid E2
          clear E1 E2 he
          go_wp2_with fail
          refine HN3.out.mono ?_
          rintro e w4 ⟨v, rfl, ⟨A2, m2, c2, rfl, hP2, hm2, hc2, hf2⟩, hb4⟩
          have h4 := (h3.then hb4).then (w' := w4.alloc (.cells #[.int .i64 cc, .slice A2 m2 c2] 24)) ((Below.refl _ _).alloc (Nat.le_refl _) _)
          clear r0 r1 r2 r3
          have r0 := h4.r0
          have r1 := h4.r1
          have r2 := h4.r2
          have r3 := h4.r3
          have e := h4.ret 0 (.slice none 0 0)
          go_wp2_with fail
          refine bodyPost_ret (v := .tuple #[.agg #[.int .i64 0, .slice none 0 0], .int .i64 10]) (by simp [results, Tryz.results12, go_sem, e.1, e.2.1]) rfl ?_
          exact ⟨_, by rw [HE1.out]; rfl, by rw [HE2.out]; exact lv_zero _ _, e.2.2⟩
    · have hne : s.data.toList.drop k ≠ [] := fun e => hks ((drop_nil hk).1 e)
      have HN : refParseF s.data.toList = none := by
        have h := HD.out
        cases hd : s.data.toList.drop k with
        | nil => exact absurd hd hne
        | cons b r => rw [hd] at h; exact h
      obtain ⟨E1, E2⟩ := HF.out none HN
      have hki : ((k : Int) == (s.size : Int)) = false := by simp; omega
      have hki2 : ((k : Int) != (s.size : Int)) = true := by simp; omega
      have e := h2.ret 0 (.slice none 0 0)
      clear hy hown hb2 hne HN HD
      have HE1 := Lib.hid E1
      have HE2 := Lib.hid E2
      clear E1 E2
      go_wp2_with fail
      refine bodyPost_ret (v := .tuple #[.agg #[.int .i64 0, .slice none 0 0], .int .i64 10]) (by simp [results, Tryz.results12, go_sem, e.1, e.2.1]) rfl ?_
      exact ⟨_, by rw [HE1.out]; rfl, by rw [HE2.out]; exact lv_zero _ _, e.2.2⟩
end Go.Proofs.YtgbbmcfhakliiaaGreatDoor
