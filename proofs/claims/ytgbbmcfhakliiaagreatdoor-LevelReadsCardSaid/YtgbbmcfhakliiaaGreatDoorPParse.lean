/-
  'Parse' of package level, at every text.
-/
import Derived.Test.YtgbbmcfhakliiaaGreatDoorPRead
import Derived.Test.YtgbbmcfhakliiaaGreatDoorFormat
import Derived.Test.YtgbbmcfhakliiaaGreatDoorTxtP
namespace Go.Proofs.YtgbbmcfhakliiaaGreatDoor
open Go Go.RowKit Go.Shelf

def pErr (o : Option (Int × List (Int × Int))) : Int := if o.isSome = true then 0 else 10
def pLev (o : Option (Int × List (Int × Int))) : Int × List (Int × Int) := o.getD (0, [])
/-- box R: the result, still zero -/
structure RZ (R : Nat) (a w : World) : Prop where
  bel : Below R a w
  size : R + 1 ≤ w.heap.size
  r0 : w.cell? ⟨R, 0, none⟩ = some (.int .i64 0)
  r1 : w.cell? ⟨R, 1, none⟩ = some (.slice none 0 0)
  r2 : w.frozen? ⟨R, 0, none⟩ = false
  r3 : w.frozen? ⟨R, 1, none⟩ = false
theorem RZ.start (w : World) : RZ w.heap.size w (w.alloc (.cells #[.int .i64 0, .slice none 0 0] 24)) :=
  ⟨(Below.refl _ _).alloc (Nat.le_refl _) _, by simp, by simp, by simp, by simp, by simp⟩
theorem RZ.then {R : Nat} {a w w' : World} (h : RZ R a w) (hb : Below w.heap.size w w') : RZ R a w' := by
  have hs := h.size
  exact ⟨h.bel.trans (hb.mono (by omega)), Nat.le_trans hs hb.size, (hb.cell (p := ⟨R, 0, none⟩) (show R < _ by omega)).trans h.r0, (hb.cell (p := ⟨R, 1, none⟩) (show R < _ by omega)).trans h.r1,
    (hb.frozen (p := ⟨R, 0, none⟩) (show R < _ by omega)).trans h.r2, (hb.frozen (p := ⟨R, 1, none⟩) (show R < _ by omega)).trans h.r3⟩
theorem RZ.ret {R : Nat} {a w : World} (h : RZ R a w) (c' : Int) (v' : Value) : ((w.setCell ⟨R, 0, none⟩ (.int .i64 c')).setCell ⟨R, 1, none⟩ v').cell? ⟨R, 0, none⟩ = some (.int .i64 c') ∧ ((w.setCell ⟨R, 0, none⟩ (.int .i64 c')).setCell ⟨R, 1, none⟩ v').cell? ⟨R, 1, none⟩ = some v' ∧ Below R a ((w.setCell ⟨R, 0, none⟩ (.int .i64 c')).setCell ⟨R, 1, none⟩ v') :=
  ⟨keep_off (by decide) (World.cell?_setCell_same _ _ _ h.r0), World.cell?_setCell_same _ _ _ (keep_off (by decide) h.r1), (h.bel.setCell (Nat.le_refl _) _).setCell (Nat.le_refl _) _⟩
theorem lv_zero (B : Nat) (w : World) : LvRes B w (.agg #[.int .i64 0, .slice none 0 0]) 0 [] := ⟨none, 0, 0, rfl, PL.nil_ _, Nat.le_refl _, by omega, fun b off e => by cases e⟩
theorem str_eq (t s : ByteArray) : (t.toList == s.toList) = decide (t.data.toList = s.data.toList) := by
  rw [ByteArray.toList_eq, ByteArray.toList_eq]
  by_cases h : t.data.toList = s.data.toList
  · simp [h]
  · rw [decide_eq_false h]
    simpa using h

set_option maxRecDepth 100000 in
set_option maxHeartbeats 4000000 in
theorem pparse_any (s : ByteArray) (w : World) (hs : s.size ≤ 1000000) (hE : ∀ w1, Below w.heap.size w w1 → w1.ShapedOpen Tryz.prog ∧ Errs w1) (hP : Pow w) :
    Calls Tryz.prog 9 #[.string s] w fun e w' => ∃ v, e = .returned (.tuple #[v, .int .i64 (pErr (parseF s.data.toList))]) ∧ LvRes w.heap.size w' v (pLev (parseF s.data.toList)).1 (pLev (parseF s.data.toList)).2 ∧ Below w.heap.size w w' := by
  have h0 := RZ.start w
  have hr := pread_any s _ hs (fun w1 h1 => hE w1 (h0.bel.trans (h1.mono (by simp))))
  have Hr := Lib.hid hr
  clear hr
  have HF : Hid (∀ o, parseF s.data.toList = o → pErr (parseF s.data.toList) = pErr o ∧ pLev (parseF s.data.toList) = pLev o) := fun o h => by rw [h]; exact ⟨rfl, rfl⟩
  have HD : Hid (parseF s.data.toList = match readF (partsF s.data.toList) 0 [] with | none => none | some a => if nErr a.1 a.2 = 0 ∧ fText (nConst a.1 a.2) (nVars a.1 a.2) = s.data.toList then some (nConst a.1 a.2, nVars a.1 a.2) else none) := rfl
  generalize pErr (parseF s.data.toList) = PE at HF ⊢
  generalize pLev (parseF s.data.toList) = PV at HF ⊢
  generalize readF (partsF s.data.toList) 0 [] = RF at HD Hr
  go_enter Tryz.func9, Tryz.ntmps9
  go_wp2_with fail
  refine Hr.out.mono ?_
  rintro e w2 ⟨c, l, A, n, cap, rfl, hown, hb2, hy⟩
  have hB2 : w.heap.size + 1 ≤ w2.heap.size := (h0.then hb2).size
  have h2 := (h0.then hb2).then (w' := w2.alloc (.cells #[.int .i64 c, .slice A n cap] 24)) ((Below.refl _ _).alloc (Nat.le_refl _) _)
  have r0 := h2.r0
  have r1 := h2.r1
  have r2 := h2.r2
  have r3 := h2.r3
  cases RF with
  | none =>
    obtain ⟨E1, E2⟩ := HF.out none HD.out
    have e := h2.ret 0 (.slice none 0 0)
    clear hy hown hb2
    have HE1 := Lib.hid E1
    have HE2 := Lib.hid E2
    clear E1 E2
    go_wp2_with fail
    refine bodyPost_ret (v := .tuple #[.agg #[.int .i64 0, .slice none 0 0], .int .i64 10]) (by simp [results, Tryz.results9, go_sem, e.1, e.2.1]) rfl ?_
    exact ⟨_, by rw [HE1.out]; rfl, by rw [HE2.out]; exact lv_zero _ _, e.2.2⟩
  | some y =>
    obtain rfl : y = (c, l) := hy y rfl
    obtain ⟨A', cap', e', hlc, hcm, hPL, hfar⟩ := PL.of_own hown
    injection e' with e1 e2 e3
    subst e1 e2 e3
    have hP3 := hPL.lift (wi := w2.alloc (.cells #[.int .i64 c, .slice A l.length cap] 24)) ((Below.refl _ _).alloc (Nat.le_refl _) _)
    have hN := normal_any c A l.length cap l _ hP3 hlc (by unfold maxLen at hcm; omega)
    have HD2 : Hid (parseF s.data.toList = if nErr c l = 0 ∧ fText (nConst c l) (nVars c l) = s.data.toList then some (nConst c l, nVars c l) else none) := HD.out
    clear hy hown hb2 hfar HD hP3 hPL
    generalize nErr c l = er at hN HD2
    generalize nConst c l = cc at hN HD2
    generalize nVars c l = cv at hN HD2
    have HN := Lib.hid hN
    clear hN
    by_cases he : er = 0
    · have hq1 : (er == 0) = true := by simp [he]
      have hq2 : (er != 0) = false := by simp [he]
      have He := Lib.hid he; clear he
      go_wp2_with fail
      refine HN.out.mono ?_
      rintro e w4 ⟨v, rfl, ⟨A2, m2, c2, rfl, hP2, hm2, hc2, hf2⟩, hb4⟩
      have h4 := (h2.then hb4).then (w' := w4.alloc (.cells #[.int .i64 cc, .slice A2 m2 c2] 24)) ((Below.refl _ _).alloc (Nat.le_refl _) _)
      have hP4 := hP2.lift (wi := w4.alloc (.cells #[.int .i64 cc, .slice A2 m2 c2] 24)) ((Below.refl _ _).alloc (Nat.le_refl _) _)
      have hF := format_any cc A2 m2 c2 cv _ hP4 hm2 hc2 (hP.below h4.bel (.inl (Nat.le_refl _)))
      have HFm := Lib.hid hF
      have hR2 : w2.heap.size + 1 ≤ w4.heap.size := by have := hb4.size; simpa using this
      clear hF r0 r1 r2 r3
      go_wp2_with fail
      refine HFm.out.mono ?_
      rintro e w5 ⟨rfl, hb5⟩
      have h5 := h4.then hb5
      have r0 := h5.r0
      have r1 := h5.r1
      have r2 := h5.r2
      have r3 := h5.r3
      have y0 : w5.cell? ⟨w4.heap.size, 0, none⟩ = some (.int .i64 cc) := (hb5.cell (p := ⟨w4.heap.size, 0, none⟩) (by simp)).trans (by simp)
      have y1 : w5.cell? ⟨w4.heap.size, 1, none⟩ = some (.slice A2 m2 c2) := (hb5.cell (p := ⟨w4.heap.size, 1, none⟩) (by simp)).trans (by simp)
      have hP5 := hP4.below hb5
      by_cases ht : fText cc cv = s.data.toList
      · obtain ⟨E1, E2⟩ := HF.out _ (HD2.out.trans (if_pos ⟨He.out, ht⟩))
        have hbs : bs (fText cc cv) = s := by rw [ht]; exact bs_self s
        have HE1 := Lib.hid E1
        have HE2 := Lib.hid E2
        clear E1 E2 ht
        rw [hbs]
        have e := h5.ret cc (.slice A2 m2 c2)
        go_wp2_with fail
        refine bodyPost_ret (v := .tuple #[.agg #[.int .i64 cc, .slice A2 m2 c2], .int .i64 0]) (by simp [results, Tryz.results9, go_sem, e.1, e.2.1]) rfl ?_
        refine ⟨_, by rw [HE1.out]; rfl, ?_, e.2.2⟩
        rw [HE2.out]
        exact ⟨A2, m2, c2, rfl, hP5.set2 _ _ (fun b off e => by have h7 := hf2 b off e; simp at h7; omega) (by have h7 := hb5.size; simp at h7 ⊢; omega), hm2, hc2, fun b off e => by have h7 := hf2 b off e; simp at h7; omega⟩
      · obtain ⟨E1, E2⟩ := HF.out _ (HD2.out.trans (if_neg fun h => ht h.2))
        have hbs : ((bs (fText cc cv)).toList == s.toList) = false := by rw [str_eq, bs_data]; simp [ht]
        have HE1 := Lib.hid E1
        have HE2 := Lib.hid E2
        clear E1 E2 ht
        generalize bs (fText cc cv) = tt at hbs ⊢
        have e := h5.ret 0 (.slice none 0 0)
        go_wp2_with fail
        refine bodyPost_ret (v := .tuple #[.agg #[.int .i64 0, .slice none 0 0], .int .i64 10]) (by simp [results, Tryz.results9, go_sem, e.1, e.2.1]) rfl ?_
        exact ⟨_, by rw [HE1.out]; rfl, by rw [HE2.out]; exact lv_zero _ _, e.2.2⟩
    · have hq1 : (er == 0) = false := by simp [he]
      have hq2 : (er != 0) = true := by simp [he]
      obtain ⟨E1, E2⟩ := HF.out _ (HD2.out.trans (if_neg fun h => he h.1))
      have HE1 := Lib.hid E1
      have HE2 := Lib.hid E2
      clear E1 E2 he
      go_wp2_with fail
      refine HN.out.mono ?_
      rintro e w4 ⟨v, rfl, ⟨A2, m2, c2, rfl, hP2, hm2, hc2, hf2⟩, hb4⟩
      have h4 := (h2.then hb4).then (w' := w4.alloc (.cells #[.int .i64 cc, .slice A2 m2 c2] 24)) ((Below.refl _ _).alloc (Nat.le_refl _) _)
      clear r0 r1 r2 r3
      have r0 := h4.r0
      have r1 := h4.r1
      have r2 := h4.r2
      have r3 := h4.r3
      have e := h4.ret 0 (.slice none 0 0)
      go_wp2_with fail
      refine bodyPost_ret (v := .tuple #[.agg #[.int .i64 0, .slice none 0 0], .int .i64 10]) (by simp [results, Tryz.results9, go_sem, e.1, e.2.1]) rfl ?_
      exact ⟨_, by rw [HE1.out]; rfl, by rw [HE2.out]; exact lv_zero _ _, e.2.2⟩
end Go.Proofs.YtgbbmcfhakliiaaGreatDoor
