/-
  The walks of LevelTexts and LevelReads: they return true for every level, for every text.
-/
import Derived.Test.YtgbbmcfhakliiaaGreatDoorRParse
import Derived.Test.YtgbbmcfhakliiaaGreatDoorSame
import Derived.Test.YtgbbmcfhakliiaaGreatDoorAwake
import Derived.Test.YtgbbmcfhakliiaaGreatDoorEq
namespace Go.Proofs.YtgbbmcfhakliiaaGreatDoor
open Go Go.RowKit Go.Shelf

theorem lv_lift {B : Nat} {w w' : World} {v : Value} {c : Int} {l : List (Int × Int)} (h : LvRes B w v c l) (hb : Below w.heap.size w w') : LvRes B w' v c l := by
  obtain ⟨A, m, cap, e, h1, h2, h3, h4⟩ := h
  exact ⟨A, m, cap, e, h1.lift hb, h2, h3, h4⟩
theorem boxz {w wi : World} {x0 x1 : Value} {t : TypeId} (hb : Below (w.heap.size + 1) (w.alloc (.cells #[x0, x1] t)) wi) :
    wi.cell? ⟨w.heap.size, 0, none⟩ = some x0 ∧ wi.cell? ⟨w.heap.size, 1, none⟩ = some x1 ∧ Below w.heap.size w wi :=
  ⟨(hb.cell (p := ⟨w.heap.size, 0, none⟩) (by simp)).trans (by simp), (hb.cell (p := ⟨w.heap.size, 1, none⟩) (by simp)).trans (by simp), ((Below.refl _ w).alloc (Nat.le_refl _) _).trans (hb.mono (by omega))⟩
theorem lrowz {w : World} {c : Int} {A : Option Addr} {n cap : Nat} {t : TypeId} : LRow (w.alloc (.cells #[.int .i64 c, .slice A n cap] t)) (w.alloc (.cells #[.int .i64 c, .slice A n cap] t)).heap.size (some ⟨w.heap.size, 0, none⟩) 1 [n] :=
  ⟨rfl, fun _ => ⟨w.heap.size, 0, rfl, by simp, fun j k hk => by
    have hj : j = 0 := by have := (List.getElem?_eq_some_iff.1 hk).1; simp at this; exact this
    subst hj
    simp at hk; subst hk
    exact ⟨A, cap, by simp⟩⟩⟩
theorem fText_len (c : Int) (l : List (Int × Int)) : (fText c l).length ≤ 1000 := by
  unfold fText
  split
  · rename_i h
    obtain ⟨hs, h8, h0, h1⟩ := nvars_small h
    have hp := parts_len (c := nConst c l) hs h0 (by omega)
    have hj := join_len hp
    have hc := parts_count (nConst c l) (nVars c l)
    have h3 : (partsB (nConst c l) (nVars c l)).length * (44 + 1) ≤ 9 * 45 := Nat.mul_le_mul (by omega) (Nat.le_refl _)
    generalize partsB (nConst c l) (nVars c l) = ps at *
    unfold wholeB
    split
    · have := hp _ (List.mem_singleton.2 rfl); omega
    · simp; omega
  · simp

set_option maxRecDepth 100000 in
set_option maxHeartbeats 8000000 in
theorem texts_any (c : Int) (A : Option Addr) (n cap : Nat) (l : List (Int × Int)) (w : World)
    (h : PL w w.heap.size A n l) (hn : n ≤ cap) (hm : cap ≤ 9223372036854775807) (hP : Pow w) (hE : ∀ w1, Below w.heap.size w w1 → w1.ShapedOpen Tryz.prog ∧ Errs w1) :
    Calls Tryz.prog 3 #[.agg #[.int .i64 c, .slice A n cap]] w fun e w' => e = .returned (.bool true) ∧ Below w.heap.size w w' := by
  have hw := wide_any (some ⟨w.heap.size + 1, 0, none⟩) 1 1 [n] ((w.alloc (.cells #[.int .i64 c, .slice A n cap] 24)).alloc (.cells #[.int .i64 c, .slice A n cap] 24)) (by simpa using lrowz (w := w.alloc (.cells #[.int .i64 c, .slice A n cap] 24)) (t := 24)) (by omega) (fun k hk => by simp at hk; omega)
  have hb1 : Below (w.heap.size + 1) (w.alloc (.cells #[.int .i64 c, .slice A n cap] 24)) ((w.alloc (.cells #[.int .i64 c, .slice A n cap] 24)).alloc (.cells #[.int .i64 c, .slice A n cap] 24)) := (Below.refl _ _).alloc (by simp) _
  have Hb1 := Lib.hid hb1; clear hb1
  cases hwb : wideB [n]
  case true =>
    rw [hwb] at hw
    have Hw := Lib.hid hw; clear hw hwb
    go_enter Tryz.func3, Tryz.ntmps3
    go_wp2_with fail
    refine Hw.out.mono ?_
    rintro e w1 ⟨rfl, rfl⟩
    go_wp2_with fail
    go_ret
    exact ⟨rfl, (boxz Hb1.out).2.2⟩
  case false =>
  rw [hwb] at hw
  have Hw := Lib.hid hw; clear hw hwb
  have Hlen := Lib.hid (fText_len c l)
  have Hpt := Lib.hid (@parse_text c l)
  have Hnl := Lib.hid (@nvars_small c l)
  go_enter Tryz.func3, Tryz.ntmps3
  go_wp2_with fail
  refine Hw.out.mono ?_
  rintro e w1 ⟨rfl, rfl⟩
  have hbA := (boxz Hb1.out).2.2
  go_wp2_with fail
  have hF := format_any c A n cap l _ (h.lift hbA) hn hm (hP.below hbA (.inl (Nat.le_refl _)))
  refine hF.mono ?_
  rintro e w2 ⟨rfl, hb2⟩
  have hL2 : Below (w.heap.size + 1) (w.alloc (.cells #[.int .i64 c, .slice A n cap] 24)) w2 := Hb1.out.trans (hb2.mono (by simp))
  obtain ⟨f0, f1, hbw2⟩ := boxz hL2
  have hs2 : w.heap.size + 1 ≤ w2.heap.size := by simpa using hL2.size
  clear hF
  go_wp2_with fail
  refine (refFormat_any c A n cap l _ (h.lift hbw2) hn hm (hP.below hbw2 (.inl (Nat.le_refl _)))).mono ?_
  rintro e w3 ⟨rfl, hb3⟩
  have hL3 : Below (w.heap.size + 1) (w.alloc (.cells #[.int .i64 c, .slice A n cap] 24)) w3 := hL2.trans (hb3.mono hs2)
  clear f0 f1
  obtain ⟨f0, f1, hbw3⟩ := boxz hL3
  have hs3 : w.heap.size + 1 ≤ w3.heap.size := by simpa using hL3.size
  have htz : (bs (fText c l)).size ≤ 1000 := by rw [bs_size]; exact Hlen.out
  have htd : (bs (fText c l)).data.toList = fText c l := bs_data _
  have Htd := Lib.hid htd
  clear htd
  have hrN := fun W (hW : Below w.heap.size w W) => refNormal_any c A n cap l W (h.lift hW) hn hm
  generalize hft : fText c l = ft at Htd Hpt htz
  generalize bs ft = t at htz Htd ⊢
  generalize nErr c l = er at hrN Hpt Hnl
  generalize nConst c l = cc at hrN Hpt Hnl
  generalize nVars c l = cv at hrN Hpt Hnl
  have HrN := Lib.hid hrN
  clear hrN hft
  by_cases he : er = 0
  · have hq1 : (er == 0) = true := by simp [he]
    have hq2 : (er != 0) = false := by simp [he]
    have hpt := Hpt.out he
    have hcv := (Hnl.out he).2.1
    have He := Lib.hid he; clear he
    have hpp := pparse_any t w3 (by omega) (fun w1 hw1 => hE w1 (hbw3.trans (hw1.mono hbw3.size))) (hP.below hbw3 (.inl (Nat.le_refl _)))
    rw [Htd.out, hpt] at hpp
    have Hpp := Lib.hid hpp
    clear hpp hpt
    go_wp2_with fail
    refine Hpp.out.mono ?_
    rintro e w4 ⟨v4, rfl, hlv4, hb4⟩
    obtain ⟨A4, m4, k4, rfl, hP4, hm4, hk4, hf4⟩ := hlv4
    have hL4 : Below (w.heap.size + 1) (w.alloc (.cells #[.int .i64 c, .slice A n cap] 24)) w4 := hL3.trans (hb4.mono hs3)
    clear f0 f1
    have hs4 : w.heap.size + 1 ≤ w4.heap.size := by simpa using hL4.size
    have hL5 : Below (w.heap.size + 1) (w.alloc (.cells #[.int .i64 c, .slice A n cap] 24)) (w4.alloc (.cells #[.int .i64 (pLev (some (cc, cv))).1, .slice A4 m4 k4] 24)) := hL4.alloc hs4 _
    obtain ⟨f0, f1, hbw5⟩ := boxz hL5
    have hne : w.heap.size ≠ w4.heap.size := by omega
    go_wp2_with fail
    refine (HrN.out _ hbw5).mono ?_
    rintro e w6 ⟨v6, rfl, ⟨A6, m6, k6, rfl, hP6, hm6, hk6, hf6⟩, hb6⟩
    have hB4 : Below (w4.heap.size + 1) (w4.alloc (.cells #[.int .i64 (pLev (some (cc, cv))).1, .slice A4 m4 k4] 24)) w6 := hb6.mono (by simp)
    have hs6 : w4.heap.size + 1 ≤ w6.heap.size := by simpa using hB4.size
    have hB7 : Below (w4.heap.size + 1) (w4.alloc (.cells #[.int .i64 (pLev (some (cc, cv))).1, .slice A4 m4 k4] 24)) (w6.alloc (.cells #[.int .i64 cc, .slice A6 m6 k6] 24)) := hB4.alloc hs6 _
    obtain ⟨g0, g1, hbw7⟩ := boxz hB7
    have hne6 : w4.heap.size ≠ w6.heap.size := by omega
    have hla : LvRes 0 (w6.alloc (.cells #[.int .i64 cc, .slice A6 m6 k6] 24)) (.agg #[.int .i64 cc, .slice A4 m4 k4]) cc cv := ⟨A4, m4, k4, rfl, hP4.lift hbw7, hm4, hk4, fun _ _ _ => Nat.zero_le _⟩
    have hlb : LvRes 0 (w6.alloc (.cells #[.int .i64 cc, .slice A6 m6 k6] 24)) (.agg #[.int .i64 cc, .slice A6 m6 k6]) cc cv := ⟨A6, m6, k6, rfl, hP6.lift ((Below.refl _ _).alloc (Nat.le_refl _) _), hm6, hk6, fun _ _ _ => Nat.zero_le _⟩
    have hsm := Lib.hid (same_lv (q := 0) hla hlb (by omega))
    have hw7 : Below w.heap.size w (w6.alloc (.cells #[.int .i64 cc, .slice A6 m6 k6] 24)) := (hbw3.trans (hb4.mono hbw3.size)).trans (hbw7.mono (by omega))
    have hc4 : (pLev (some (cc, cv))).1 = cc := rfl
    have hp4 : pErr (some (cc, cv)) = 0 := rfl
    rw [hc4] at g0
    clear hla hlb f0 f1
    go_wp2_with fail
    refine hsm.out.mono ?_
    rintro e w8 ⟨rfl, hb8⟩
    have hw8 := hw7.trans (hb8.mono hw7.size)
    go_wp2_with fail
    refine (awake_any w8 (hP.below hw8 (.inl (Nat.le_refl _)))).mono ?_
    rintro e w9 ⟨rfl, hb9⟩
    go_wp2_with fail
    go_ret
    exact ⟨rfl, hw8.trans (hb9.mono hw8.size)⟩
  · have hq1 : (er == 0) = false := by simp [he]
    have hq2 : (er != 0) = true := by simp [he]
    clear he
    go_wp2_with fail
    refine (awake_any w3 (hP.below hbw3 (.inl (Nat.le_refl _)))).mono ?_
    rintro e w9 ⟨rfl, hb9⟩
    go_wp2_with fail
    go_ret
    exact ⟨rfl, hbw3.trans (hb9.mono hbw3.size)⟩

set_option maxRecDepth 100000 in
set_option maxHeartbeats 8000000 in
theorem reads_any (s : ByteArray) (hz : s.size ≤ 9223372036854775807) (w : World) (hP : Pow w) (hE : ∀ w1, Below w.heap.size w w1 → w1.ShapedOpen Tryz.prog ∧ Errs w1) :
    Calls Tryz.prog 4 #[.string s] w fun e w' => e = .returned (.bool true) ∧ Below w.heap.size w w' := by
  by_cases h400 : 400 < s.size
  · have h4 : (400 : Int) < (s.size : Int) := by omega
    go_enter Tryz.func4, Tryz.ntmps4
    go_wp2_with fail
    go_ret
    exact ⟨rfl, Below.refl _ _⟩
  · have h4 : ¬ (400 : Int) < (s.size : Int) := by omega
    have hp := pparse_any s w (by omega) hE hP
    have hr := fun W (hW : Below w.heap.size w W) => refParse_any s W (by omega) (hP.below hW (.inl (Nat.le_refl _)))
    have Hit : Hid (∀ c l, parseF s.data.toList = some (c, l) → IsText s.data.toList c l) := fun c l h => parse_iff.1 h
    generalize parseF s.data.toList = o at hp hr Hit
    have Hlz : Hid ((pLev o).2.length ≤ 1000) := by
      cases o with
      | none => exact Nat.zero_le _
      | some y =>
        obtain ⟨h1, h2, h3, _⟩ := Hit.out y.1 y.2 rfl
        have := (nvars_small h1).2.1
        rw [h3] at this
        exact Nat.le_trans this (by omega)
    have HE : Hid (pErr o = if o.isSome = true then 0 else 10) := rfl
    have HV : Hid (∀ y, o = some y → pLev o = y) := fun y h => by rw [h]; rfl
    generalize pErr o = er at hp hr HE
    generalize pLev o = lv at hp hr HV Hlz
    obtain ⟨cc, cv⟩ := lv
    have hlz : cv.length ≤ 1000 := Hlz.out
    clear Hlz
    dsimp only at hp hr
    have Hp := Lib.hid hp
    have Hr := Lib.hid hr
    clear hp hr
    go_enter Tryz.func4, Tryz.ntmps4
    go_wp2_with fail
    refine Hp.out.mono ?_
    rintro e w2 ⟨v, rfl, ⟨A2, m2, k2, rfl, hP2, hm2, hk2, hf2⟩, hb2⟩
    have hw3 : Below w.heap.size w (w2.alloc (.cells #[.int .i64 cc, .slice A2 m2 k2] 24)) := hb2.alloc hb2.size _
    go_wp2_with fail
    refine (Hr.out _ hw3).mono ?_
    rintro e w4 ⟨v, rfl, ⟨A4, m4, k4, rfl, hP4, hm4, hk4, hf4⟩, hb4⟩
    have hB4 : Below (w2.heap.size + 1) (w2.alloc (.cells #[.int .i64 cc, .slice A2 m2 k2] 24)) w4 := hb4.mono (by simp)
    have hs4 : w2.heap.size + 1 ≤ w4.heap.size := by simpa using hB4.size
    have hB5 : Below (w2.heap.size + 1) (w2.alloc (.cells #[.int .i64 cc, .slice A2 m2 k2] 24)) (w4.alloc (.cells #[.int .i64 cc, .slice A4 m4 k4] 24)) := hB4.alloc hs4 _
    obtain ⟨g0, g1, hbw5⟩ := boxz hB5
    have hne : w2.heap.size ≠ w4.heap.size := by omega
    have hw5 : Below w.heap.size w (w4.alloc (.cells #[.int .i64 cc, .slice A4 m4 k4] 24)) := hb2.trans (hbw5.mono hb2.size)
    have hla : LvRes 0 (w4.alloc (.cells #[.int .i64 cc, .slice A4 m4 k4] 24)) (.agg #[.int .i64 cc, .slice A2 m2 k2]) cc cv := ⟨A2, m2, k2, rfl, hP2.lift hbw5, hm2, hk2, fun _ _ _ => Nat.zero_le _⟩
    have hlb : LvRes 0 (w4.alloc (.cells #[.int .i64 cc, .slice A4 m4 k4] 24)) (.agg #[.int .i64 cc, .slice A4 m4 k4]) cc cv := ⟨A4, m4, k4, rfl, hP4.lift ((Below.refl _ _).alloc (Nat.le_refl _) _), hm4, hk4, fun _ _ _ => Nat.zero_le _⟩
    have hsm := Lib.hid (same_lv (q := er) hla hlb (by omega))
    clear hla hlb
    go_wp2_with fail
    refine hsm.out.mono ?_
    rintro e w6 ⟨rfl, hb6⟩
    have hw6 := hw5.trans (hb6.mono hw5.size)
    have g2 : w6.cell? ⟨w2.heap.size, 0, none⟩ = some (.int .i64 cc) := (hb6.cell (p := ⟨w2.heap.size, 0, none⟩) (by simp; omega)).trans g0
    have g3 : w6.cell? ⟨w2.heap.size, 1, none⟩ = some (.slice A2 m2 k2) := (hb6.cell (p := ⟨w2.heap.size, 1, none⟩) (by simp; omega)).trans g1
    have hP6 := (hP2.lift hbw5).lift hb6
    clear g0 g1
    cases ho : o with
    | none =>
      have he : er = 10 := by rw [HE.out, ho]; rfl
      subst he
      go_wp2_with fail
      refine (awake_any w6 (hP.below hw6 (.inl (Nat.le_refl _)))).mono ?_
      rintro e w9 ⟨rfl, hb9⟩
      go_wp2_with fail
      go_ret
      exact ⟨rfl, hw6.trans (hb9.mono hw6.size)⟩
    | some y =>
      have he : er = 0 := by rw [HE.out, ho]; rfl
      obtain rfl : (cc, cv) = y := HV.out y ho
      subst he
      obtain ⟨h1, h2, h3, h4'⟩ := Hit.out cc cv ho
      have hF := format_any cc A2 m2 k2 cv _ hP6 hm2 hk2 (hP.below hw6 (.inl (Nat.le_refl _)))
      rw [h1, ← h4', bs_self] at hF
      have HF := Lib.hid hF
      clear hF h1 h2 h3 h4' ho
      go_wp2_with fail
      refine HF.out.mono ?_
      rintro e w7 ⟨rfl, hb7⟩
      have hw7 := hw6.trans (hb7.mono hw6.size)
      go_wp2_with fail
      refine (awake_any w7 (hP.below hw7 (.inl (Nat.le_refl _)))).mono ?_
      rintro e w9 ⟨rfl, hb9⟩
      go_wp2_with fail
      go_ret
      exact ⟨rfl, hw7.trans (hb9.mono hw7.size)⟩
end Go.Proofs.YtgbbmcfhakliiaaGreatDoor
