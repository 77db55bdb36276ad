/-
  The walk of LevelForms: it returns true for every level.
-/
import Derived.Test.YtpahgbnfgnmlaaaDoorCopy
import Derived.Test.YtpahgbnfgnmlaaaDoorRVars
import Derived.Test.YtpahgbnfgnmlaaaDoorSame
import Derived.Test.YtpahgbnfgnmlaaaDoorEvals
import Derived.Deep.RegionHeld3
namespace Go.Proofs.YtpahgbnfgnmlaaaDoor
open Go Go.RowKit

theorem box1 {w wi : World} {x0 x1 : Value} {t : TypeId} (hb : Below (w.heap.size + 1) (w.alloc (.cells #[x0, x1] t)) wi) :
    wi.cell? ⟨w.heap.size, 0, none⟩ = some x0 ∧ wi.cell? ⟨w.heap.size, 1, none⟩ = some x1 ∧ Below w.heap.size w wi :=
  ⟨(hb.cell (p := ⟨w.heap.size, 0, none⟩) (by simp)).trans (by simp), (hb.cell (p := ⟨w.heap.size, 1, none⟩) (by simp)).trans (by simp), back0 hb⟩

set_option maxRecDepth 100000 in
set_option maxHeartbeats 8000000 in
theorem forms_any (c : Int) (A : Option Addr) (n cap : Nat) (l : List (Int × Int)) (w : World)
    (h : PL w w.heap.size A n l) (hn : n ≤ cap) (hm : cap ≤ 9223372036854775807) (hP : Pow w) :
    Calls Tryd.prog 3 #[.agg #[.int .i64 c, .slice A n cap]] w fun e w' => e = .returned (.bool true) ∧ Below w.heap.size w w' := by
  have hw := wide_any (some ⟨w.heap.size + 1, 0, none⟩) 1 1 [n] ((w.alloc (.cells #[.int .i64 c, .slice A n cap] 24)).alloc (.cells #[.int .i64 c, .slice A n cap] 24)) (by simpa using lrow1 (w := w.alloc (.cells #[.int .i64 c, .slice A n cap] 24)) (t := 24)) (by omega) (fun k hk => by simp at hk; omega)
  have hb1 : Below (w.heap.size + 1) (w.alloc (.cells #[.int .i64 c, .slice A n cap] 24)) ((w.alloc (.cells #[.int .i64 c, .slice A n cap] 24)).alloc (.cells #[.int .i64 c, .slice A n cap] 24)) := (Below.refl _ _).alloc (by simp) _
  have Hb1 := Lib.hid hb1; clear hb1
  cases hwb : wideB [n]
  case true =>
    rw [hwb] at hw
    have Hw := Lib.hid hw; clear hw hwb
    go_enter Tryd.func3, Tryd.ntmps3
    go_wp2_with fail
    refine Hw.out.mono ?_
    rintro e w1 ⟨rfl, rfl⟩
    go_wp2_with fail
    go_ret
    exact ⟨rfl, back0 Hb1.out⟩
  case false =>
  have hn40 : n ≤ 40 := by simpa [wideB] using hwb
  rw [hwb] at hw
  have Hw := Lib.hid hw; clear hw hwb
  go_enter Tryd.func3, Tryd.ntmps3
  go_wp2_with fail
  refine Hw.out.mono ?_
  rintro e w1 ⟨rfl, rfl⟩
  have hbA := back0 Hb1.out
  go_wp2_with fail
  refine (copy_any c A n cap l _ (h.lift hbA) (by omega)).mono ?_
  rintro e w2 ⟨v, rfl, ⟨A0, m0, k0, rfl, hP0, hm0, hk0, _⟩, hb2⟩
  have hL2 : Below (w.heap.size + 1) (w.alloc (.cells #[.int .i64 c, .slice A n cap] 24)) w2 := Hb1.out.trans (hb2.mono (by simp))
  obtain ⟨f0, f1, hbw2⟩ := box1 hL2
  have hs2 : w.heap.size + 1 ≤ w2.heap.size := by simpa using hL2.size
  have hl2 : w.heap.size < w2.heap.size := by omega
  have hn2 : w.heap.size ≠ w2.heap.size := by omega
  go_wp2_with fail
  have hd2 : Below w2.heap.size w2 (w2.alloc (.cells #[.int .i64 c, .slice A0 m0 k0] 24)) := (Below.refl _ _).alloc (Nat.le_refl _) _
  refine (normal_any c A n cap l _ (h.lift (hbw2.trans (hd2.mono hbw2.size))) hn hm).mono ?_
  rintro e w3 ⟨v, rfl, ⟨A1, m1, k1, rfl, hP1, hm1, hk1, _⟩, hb3⟩
  have hL3 : Below (w.heap.size + 1) (w.alloc (.cells #[.int .i64 c, .slice A n cap] 24)) w3 := (hL2.alloc hs2 _).trans (hb3.mono (by simp; omega))
  have hC3 : Below (w2.heap.size + 1) (w2.alloc (.cells #[.int .i64 c, .slice A0 m0 k0] 24)) w3 := hb3.mono (by simp)
  clear f0 f1
  obtain ⟨f0, f1, hbw3⟩ := box1 hL3
  have hs3 : w2.heap.size + 1 ≤ w3.heap.size := by simpa using hC3.size
  have hl3 : w.heap.size < w3.heap.size := by omega
  have hn3 : w.heap.size ≠ w3.heap.size := by omega
  go_wp2_with fail
  have hd3 : Below w3.heap.size w3 (w3.alloc (.cells #[.int .i64 (nConst c l), .slice A1 m1 k1] 24)) := (Below.refl _ _).alloc (Nat.le_refl _) _
  refine (refNormal_any c A n cap l _ (h.lift (hbw3.trans (hd3.mono hbw3.size))) hn hm).mono ?_
  rintro e w4 ⟨v, rfl, ⟨A2, m2, k2, rfl, hP2, hm2, hk2, _⟩, hb4⟩
  have hL4 : Below (w.heap.size + 1) (w.alloc (.cells #[.int .i64 c, .slice A n cap] 24)) w4 := (hL3.alloc (by omega) _).trans (hb4.mono (by simp; omega))
  have hC4 : Below (w2.heap.size + 1) (w2.alloc (.cells #[.int .i64 c, .slice A0 m0 k0] 24)) w4 := (hC3.alloc hs3 _).trans (hb4.mono (by simp; omega))
  have hN4 : Below (w3.heap.size + 1) (w3.alloc (.cells #[.int .i64 (nConst c l), .slice A1 m1 k1] 24)) w4 := hb4.mono (by simp)
  have hs4 : w3.heap.size + 1 ≤ w4.heap.size := by simpa using hN4.size
  clear f0 f1
  go_upto_region 6 with fail
  have hL := box1 (hL4.alloc (by omega) (.cells #[.int .i64 (nConst c l), .slice A2 m2 k2] 24))
  have hC := box1 (hC4.alloc (by omega) (.cells #[.int .i64 (nConst c l), .slice A2 m2 k2] 24))
  have hN := box1 (hN4.alloc hs4 (.cells #[.int .i64 (nConst c l), .slice A2 m2 k2] 24))
  have hM := box1 (Below.refl (w4.heap.size + 1) (w4.alloc (.cells #[.int .i64 (nConst c l), .slice A2 m2 k2] 24)))
  have hlt : w.heap.size < (w4.alloc (.cells #[.int .i64 (nConst c l), .slice A2 m2 k2] 24)).heap.size ∧ w2.heap.size < (w4.alloc (.cells #[.int .i64 (nConst c l), .slice A2 m2 k2] 24)).heap.size ∧ w3.heap.size < (w4.alloc (.cells #[.int .i64 (nConst c l), .slice A2 m2 k2] 24)).heap.size ∧ w4.heap.size < (w4.alloc (.cells #[.int .i64 (nConst c l), .slice A2 m2 k2] 24)).heap.size := by simp; omega
  generalize w4.alloc (.cells #[.int .i64 (nConst c l), .slice A2 m2 k2] 24) = W6 at *
  obtain ⟨a0, a1, hbW⟩ := hL
  obtain ⟨c0, c1, hbC⟩ := hC
  obtain ⟨n0, n1, hbN⟩ := hN
  obtain ⟨r0, r1, hbM⟩ := hM
  have hl := h.lift hbW
  have hlC := hP0.lift hbC
  have hlN := hP1.lift hbN
  have hlM := hP2.lift hbM
  have hPW : Pow W6 := hP.below hbW (.inl (Nat.le_refl _))
  obtain rfl : n = m0 := hl.1.symm.trans hlC.1
  obtain rfl : m1 = m2 := hlN.1.symm.trans hlM.1
  have hm1' : m1 ≤ 1000000 := by
    have h1 := hlN.1
    have h2 : (nVars c l).length ≤ l.length := by
      unfold nVars cVars
      split
      · split
        · exact canonV_len l
        · simp
      · simp
    have h3 := hl.1
    omega
  have hvn : (varsV l).length ≤ 1000000 := by
    have h1 := canonV_len (l.map fun x => (x.1, (0 : Int)))
    have h3 := hl.1
    rw [List.length_map] at h1
    unfold varsV
    rw [List.length_map]
    omega
  have kV : ∀ W, Below W6.heap.size W6 W → Calls Tryd.prog 15 #[.agg #[.int .i64 c, .slice A n cap]] W fun e w' => e = .returned (.bool (vld c l)) ∧ Below W6.heap.size W6 w' := fun W hW => (valid_any c A n cap l W (hl.lift hW) hn hm).mono fun e w' ⟨he, hb⟩ => ⟨he, hW.trans (hb.mono hW.size)⟩
  have kV := Lib.hid kV
  have kR : ∀ W, Below W6.heap.size W6 W → Calls Tryd.prog 16 #[.agg #[.int .i64 c, .slice A n cap]] W fun e w' => e = .returned (.bool (vld c l)) ∧ Below W6.heap.size W6 w' := fun W hW => (refValid_any c A n cap l W (hl.lift hW) hn hm).mono fun e w' ⟨he, hb⟩ => ⟨he, hW.trans (hb.mono hW.size)⟩
  have kR := Lib.hid kR
  have kS : ∀ W, Below W6.heap.size W6 W → Calls Tryd.prog 17 #[.agg #[.int .i64 (nConst c l), .slice A1 m1 k1], .agg #[.int .i64 (nConst c l), .slice A2 m1 k2], .int .i64 (nErr c l), .int .i64 (nErr c l)] W fun e w' => e = .returned (.bool true) ∧ Below W6.heap.size W6 w' := fun W hW => (same_true (nConst c l) A1 m1 k1 A2 k2 (nVars c l) (nErr c l) W (hlN.lift hW) (hlM.lift hW) hm1').mono fun e w' ⟨he, hb⟩ => ⟨he, hW.trans (hb.mono hW.size)⟩
  have kS := Lib.hid kS
  have kX : ∀ W, Below W6.heap.size W6 W → Calls Tryd.prog 19 #[.agg #[.int .i64 c, .slice A n cap]] W fun e w' => ∃ B k, e = .returned (.slice B (varsV l).length k) ∧ IL w' w'.heap.size B (varsV l).length (varsV l) ∧ Below W.heap.size W w' ∧ Below W6.heap.size W6 w' := fun W hW => (vars_any c A n cap l W (hl.lift hW) (by omega)).mono fun e w' ⟨B, k, he, hI, hb⟩ => ⟨B, k, he, hI, hb, hW.trans (hb.mono hW.size)⟩
  have kX := Lib.hid kX
  have kY : ∀ W, Below W6.heap.size W6 W → Calls Tryd.prog 20 #[.agg #[.int .i64 c, .slice A n cap]] W fun e w' => ∃ B k, e = .returned (.slice B (varsV l).length k) ∧ IL w' w'.heap.size B (varsV l).length (varsV l) ∧ Below W.heap.size W w' ∧ Below W6.heap.size W6 w' := fun W hW => (refVars_any c A n cap l W (hl.lift hW) (by omega)).mono fun e w' ⟨B, k, he, hI, hb⟩ => ⟨B, k, he, hI, hb, hW.trans (hb.mono hW.size)⟩
  have kY := Lib.hid kY
  have kI : ∀ W, Below W6.heap.size W6 W → ∀ (B : Option Addr) (k : Nat) (B' : Option Addr) (k' : Nat), IL W W.heap.size B (varsV l).length (varsV l) → IL W W.heap.size B' (varsV l).length (varsV l) → Calls Tryd.prog 18 #[.slice B (varsV l).length k, .slice B' (varsV l).length k'] W fun e w' => e = .returned (.bool true) ∧ Below W6.heap.size W6 w' := fun W hW B k B' k' hB hB' => (eqInts_true B (varsV l).length k B' k' (varsV l) W hB hB' hvn).mono fun e w' ⟨he, hb⟩ => ⟨he, hW.trans (hb.mono hW.size)⟩
  have kI := Lib.hid kI
  have kE : ∀ W, Below W6.heap.size W6 W → Calls Tryd.prog 21 #[.agg #[.int .i64 c, .slice A n cap], .agg #[.int .i64 c, .slice A0 n k0]] W fun e w' => e = .returned (.bool true) ∧ Below W6.heap.size W6 w' := fun W hW => (eqLevel_true c A n cap A0 k0 l W (hl.lift hW) (hlC.lift hW) (by omega)).mono fun e w' ⟨he, hb⟩ => ⟨he, hW.trans (hb.mono hW.size)⟩
  have kE := Lib.hid kE
  have kA : ∀ W, Below W6.heap.size W6 W → Calls Tryd.prog 22 #[] W fun e w' => e = .returned (.bool true) ∧ Below W6.heap.size W6 w' := fun W hW => (awake_any W (hPW.below hW (.inl (Nat.le_refl _)))).mono fun e w' ⟨he, hb⟩ => ⟨he, hW.trans (hb.mono hW.size)⟩
  have kA := Lib.hid kA
  have hS : ∀ w', Below W6.heap.size W6 w' → (w'.cell? ⟨w.heap.size, 0, none⟩ = some (.int .i64 c) ∧ w'.cell? ⟨w.heap.size, 1, none⟩ = some (.slice A n cap) ∧ w'.cell? ⟨w2.heap.size, 0, none⟩ = some (.int .i64 c) ∧ w'.cell? ⟨w2.heap.size, 1, none⟩ = some (.slice A0 n k0) ∧ w'.cell? ⟨w3.heap.size, 0, none⟩ = some (.int .i64 (nConst c l)) ∧ w'.cell? ⟨w3.heap.size, 1, none⟩ = some (.slice A1 m1 k1) ∧ w'.cell? ⟨w4.heap.size, 0, none⟩ = some (.int .i64 (nConst c l)) ∧ w'.cell? ⟨w4.heap.size, 1, none⟩ = some (.slice A2 m1 k2)) := fun w' hb =>
    ⟨(hb.cell (p := ⟨w.heap.size, 0, none⟩) hlt.1).trans a0, (hb.cell (p := ⟨w.heap.size, 1, none⟩) hlt.1).trans a1, (hb.cell (p := ⟨w2.heap.size, 0, none⟩) hlt.2.1).trans c0, (hb.cell (p := ⟨w2.heap.size, 1, none⟩) hlt.2.1).trans c1, (hb.cell (p := ⟨w3.heap.size, 0, none⟩) hlt.2.2.1).trans n0, (hb.cell (p := ⟨w3.heap.size, 1, none⟩) hlt.2.2.1).trans n1, (hb.cell (p := ⟨w4.heap.size, 0, none⟩) hlt.2.2.2).trans r0, (hb.cell (p := ⟨w4.heap.size, 1, none⟩) hlt.2.2.2).trans r1⟩
  have HS := Lib.hid hS; clear hS
  have hz0 : Below W6.heap.size W6 W6.drew := (Below.refl _ _).drew
  clear hl hlC hlN hlM hPW hP0 hP1 hP2 hb2 hb3 hb4 hL2 hL3 hL4 hC3 hC4 hN4 hd2 hd3 hbw2 hbw3 hbC hbN hbM hs2 hs3 hs4 hlt h hP hbA Hb1 Hw a0 a1 c0 c1 n0 n1 r0 r1 hm1' hvn hm0 hm1 hm2 hk0 hk1 hk2
  generalize nConst c l = d at *
  generalize nErr c l = er at *
  generalize vld c l = bv at *
  generalize (varsV l).length = vn at *
  generalize varsV l = vs at *
  generalize nVars c l = nv at *
  clear nv
  go_region_held3 (fun w' => w'.cell? ⟨w.heap.size, 0, none⟩ = some (.int .i64 c) ∧ w'.cell? ⟨w.heap.size, 1, none⟩ = some (.slice A n cap) ∧ w'.cell? ⟨w2.heap.size, 0, none⟩ = some (.int .i64 c) ∧ w'.cell? ⟨w2.heap.size, 1, none⟩ = some (.slice A0 n k0) ∧ w'.cell? ⟨w3.heap.size, 0, none⟩ = some (.int .i64 d) ∧ w'.cell? ⟨w3.heap.size, 1, none⟩ = some (.slice A1 m1 k1) ∧ w'.cell? ⟨w4.heap.size, 0, none⟩ = some (.int .i64 d) ∧ w'.cell? ⟨w4.heap.size, 1, none⟩ = some (.slice A2 m1 k2))
    (first | exact HS.out _ (by assumption))
    (first | (go_at_call 15; refine (kV.out _ (by assumption)).mono ?_; rintro e w5 ⟨rfl, hz⟩) | (go_at_call 16; refine (kR.out _ (by assumption)).mono ?_; rintro e w5 ⟨rfl, hz⟩) | (go_at_call 17; refine (kS.out _ (by assumption)).mono ?_; rintro e w5 ⟨rfl, hz⟩) | (go_at_call 19; refine (kX.out _ (by assumption)).mono ?_; rintro e w5 ⟨B1, k1, rfl, hV1, hst, hz⟩; (try have hV2 := hV2.lift hst)) | (go_at_call 20; refine (kY.out _ (by assumption)).mono ?_; rintro e w5 ⟨B2, k2, rfl, hV2, hst, hz⟩; (try have hV1 := hV1.lift hst)) | (go_at_call 18; refine (kI.out _ (by assumption) _ _ _ _ (by assumption) (by assumption)).mono ?_; rintro e w5 ⟨rfl, hz⟩) | (go_at_call 21; refine (kE.out _ (by assumption)).mono ?_; rintro e w5 ⟨rfl, hz⟩) | (go_at_call 22; refine (kA.out _ (by assumption)).mono ?_; rintro e w5 ⟨rfl, hz⟩))
  all_goals go_wp2_with fail
  all_goals go_ret
  all_goals exact ⟨rfl, hbW.trans (Below.mono (by assumption) hbW.size)⟩
end Go.Proofs.YtpahgbnfgnmlaaaDoor
