/-
  The walk of LevelPuts: it returns true for every two levels, every list of levels and every list of numbers.
-/
import Derived.Test.YtpahgbnfgnmlaaaDoorPutM
import Derived.Test.YtpahgbnfgnmlaaaDoorArr
import Derived.Test.YtpahgbnfgnmlaaaDoorSubst
import Derived.Test.YtpahgbnfgnmlaaaDoorREval
import Derived.Test.YtpahgbnfgnmlaaaDoorAwake
import Derived.Deep.DeepCutAuto
namespace Go.Proofs.YtpahgbnfgnmlaaaDoor
open Go Go.RowKit

set_option maxRecDepth 100000 in
set_option maxHeartbeats 8000000 in
theorem puts_any (ca : Int) (A : Option Addr) (n capA : Nat) (la : List (Int × Int)) (cb : Int) (B : Option Addr) (m capB : Nat) (lb : List (Int × Int)) (D : Option Addr) (p capD : Nat) (ls : List (Int × List (Int × Int))) (V : Option Addr) (q capV : Nat) (vs : List Int) (w : World)
    (ha : PL w w.heap.size A n la) (hn : n ≤ capA) (hca : capA ≤ 9223372036854775807) (hb : PL w w.heap.size B m lb) (hm : m ≤ capB) (hcb : capB ≤ 9223372036854775807)
    (hD : LvL w w.heap.size D p ls) (hp : p ≤ 9223372036854775807) (hV : UL w w.heap.size V q vs) (hq : q ≤ 9223372036854775807) (hP : Pow w) :
    Calls Tryd.prog 10 #[.agg #[.int .i64 ca, .slice A n capA], .agg #[.int .i64 cb, .slice B m capB], .slice D p capD, .slice V q capV] w fun e w' => e = .returned (.bool true) ∧ Below w.heap.size w w' := by
  have h0 : Below (w.heap.size + 2) ((w.alloc (.cells #[.int .i64 ca, .slice A n capA] 24)).alloc (.cells #[.int .i64 cb, .slice B m capB] 24)) ((w.alloc (.cells #[.int .i64 ca, .slice A n capA] 24)).alloc (.cells #[.int .i64 cb, .slice B m capB] 24)) := Below.refl _ _
  obtain ⟨W, hW⟩ : ∃ W, W = (w.alloc (.cells #[.int .i64 ca, .slice A n capA] 24)).alloc (.cells #[.int .i64 cb, .slice B m capB] 24) := ⟨_, rfl⟩
  have h2 : ∀ X, Below (w.heap.size + 2) W X → (X.cell? ⟨w.heap.size, 0, none⟩ = some (.int .i64 ca) ∧ X.cell? ⟨w.heap.size, 1, none⟩ = some (.slice A n capA) ∧ X.cell? ⟨w.heap.size + 1, 0, none⟩ = some (.int .i64 cb) ∧ X.cell? ⟨w.heap.size + 1, 1, none⟩ = some (.slice B m capB)) ∧ w.heap.size + 2 ≤ X.heap.size ∧ Below w.heap.size w X := fun X hX => box2 (by rw [← hW]; exact hX)
  rw [← hW] at h0
  have hva : ∀ X, Below (w.heap.size + 2) W X → Calls Tryd.prog 16 #[.agg #[.int .i64 ca, .slice A n capA]] X fun e w' => e = .returned (.bool (vld ca la)) ∧ Below (w.heap.size + 2) W w' := fun X hX =>
    (refValid_any ca A n capA la X (ha.lift (h2 X hX).2.2) hn hca).mono fun e w' ⟨he, hb⟩ => ⟨he, hX.trans (hb.mono (h2 X hX).2.1)⟩
  have hvb : ∀ X, Below (w.heap.size + 2) W X → Calls Tryd.prog 16 #[.agg #[.int .i64 cb, .slice B m capB]] X fun e w' => e = .returned (.bool (vld cb lb)) ∧ Below (w.heap.size + 2) W w' := fun X hX =>
    (refValid_any cb B m capB lb X (hb.lift (h2 X hX).2.2) hm hcb).mono fun e w' ⟨he, hb⟩ => ⟨he, hX.trans (hb.mono (h2 X hX).2.1)⟩
  have haw : ∀ X, Below (w.heap.size + 2) W X → Calls Tryd.prog 22 #[] X fun e w' => e = .returned (.bool true) ∧ Below (w.heap.size + 2) W w' := fun X hX =>
    (awake_any X (hP.below (h2 X hX).2.2 (.inl (Nat.le_refl _)))).mono fun e w' ⟨he, hb⟩ => ⟨he, hX.trans (hb.mono (h2 X hX).2.1)⟩
  have H2 := Lib.hid h2; have Hva := Lib.hid hva; have Hvb := Lib.hid hvb; have Haw := Lib.hid haw; have HW := Lib.hid hW; have H0 := Lib.hid h0
  have HA := Lib.hid ha; have HBB := Lib.hid hb; have HD := Lib.hid hD; have HV := Lib.hid hV
  clear h2 hva hvb haw hW h0 ha hb hD hV hP
  go_enter Tryd.func10, Tryd.ntmps10
  go_upto_region 1 with fail
  rw [show (w.alloc (.cells #[.int .i64 ca, .slice A n capA] 24)).alloc (.cells #[.int .i64 cb, .slice B m capB] 24) = W from HW.out.symm]
  clear HW
  go_cut [38] (fun c wx => Below (w.heap.size + 2) W wx ∧ (c = .bool true ∨ (c = .bool false ∧ vld ca la = true ∧ vld cb lb = true ∧ p ≤ 12 ∧ q ≤ 12)))
  case first =>
    have h0 := H0.out
    obtain ⟨⟨f0, f1, f2, f3⟩, _, _⟩ := H2.out _ h0
    have hva := Hva.out; have hvb := Hvb.out
    clear Hva Hvb
    cases va : vld ca la
    · rw [va] at hva
      have Hva := Lib.hid hva
      clear hva hvb va
      go_wp2_with fail
      refine (Hva.out _ h0).mono ?_
      rintro e w1 ⟨rfl, hz⟩
      go_wp2_with fail
      go_meet
      exact ⟨hz, .inl rfl⟩
    have va' := va
    rw [va] at hva
    have Hva := Lib.hid hva
    clear hva va
    go_wp2_with fail
    refine (Hva.out _ h0).mono ?_
    rintro e w1 ⟨rfl, hz⟩
    clear f0 f1 f2 f3
    obtain ⟨⟨f0, f1, f2, f3⟩, _, _⟩ := H2.out _ hz
    cases vb : vld cb lb
    · rw [vb] at hvb
      have Hvb := Lib.hid hvb
      clear hvb vb
      go_wp2_with fail
      refine (Hvb.out _ hz).mono ?_
      rintro e w2 ⟨rfl, hz2⟩
      go_wp2_with fail
      go_meet
      exact ⟨hz2, .inl rfl⟩
    have vb' := vb
    rw [vb] at hvb
    have Hvb := Lib.hid hvb
    clear hvb vb
    go_wp2_with fail
    refine (Hvb.out _ hz).mono ?_
    rintro e w2 ⟨rfl, hz2⟩
    clear f0 f1 f2 f3
    by_cases h12 : 12 < (p : Int)
    · go_wp2_with fail
      go_meet
      exact ⟨hz2, .inl rfl⟩
    by_cases g12 : 12 < (q : Int)
    · go_wp2_with fail
      go_meet
      exact ⟨hz2, .inl rfl⟩
    · go_wp2_with fail
      go_meet
      exact ⟨hz2, .inr ⟨by rw [show decide (12 < (p : Int)) = false from decide_eq_false (by omega), show decide (12 < (q : Int)) = false from decide_eq_false (by omega)]; rfl, va', vb', by omega, by omega⟩⟩
  case rest =>
    clear Hva Hvb H0
    obtain ⟨hz, hc⟩ := hcut
    rcases hc with rfl | ⟨rfl, va, vb, hp12, hq12⟩
    · go_wp2_with fail
      go_ret
      exact ⟨rfl, (H2.out _ hz).2.2⟩
    have Va := Lib.hid va; have Vb := Lib.hid vb
    clear va vb
    obtain ⟨i0, hi, hi0, hi1, hi2⟩ := info_partsI
    have hs0 := (H2.out _ hz).2.1
    go_wp2_with (refine wpList_make_full _ rfl (.const (.int .i64 1200)) (.const (.int .i64 1200)) 33 rfl (w.heap.size + 2) 3 i0 (.int .i64 0) 1 Tryd.underlying33 hi hi0 hi1 .i64 .i64 1200 1200 1200 rfl rfl rfl rfl (by rw [hi2]; decide) (by decide) hs0 ?_)
    intro w1 hown hgrow
    have hz1 : Below (w.heap.size + 2) W w1 := hz.grown hgrow hs0 (fun j hj => by cases hj)
    have emz : (madeCells #[Value.int .i64 0] 1200).toList = int1 (List.replicate 1200 0) := made_zero 1200
    rw [emz] at hown
    clear hz hgrow hs0 emz
    generalize wc.heap.size = g at *
    have hgl := (own_lt hown).1
    go_wp2_with fail
    go_loopw [10] (fun i wr => ∃ k : Nat, k ≤ q ∧ i = .int .i64 k ∧ ∃ L : List Int, (∀ z ∈ L, 0 ≤ z ∧ z ≤ 1000000) ∧ wr.ownsRow (w.heap.size + 2) 3 1 (.slice (some ⟨g, 0, none⟩) 1200 1200) 1200 (int1 L) ∧ Below (w.heap.size + 2) W wr) (fun i _ => q - (intOf i).toNat)
    case atStart => exact ⟨0, Nat.zero_le _, rfl, _, fun z hz => by rw [List.eq_of_mem_replicate hz]; decide, hown, hz1⟩
    case round =>
      clear hown hz1
      obtain ⟨k, hk, rfl, L, hL, hown, hz⟩ := hrel
      have hLl : L.length = 1200 := by have := hown.1; rw [int1_len] at this; omega
      by_cases hlt : k < q
      · obtain ⟨b, off, x, rfl, hbl, hx, hxc, hx0, hx1⟩ := (HV.out.below (H2.out _ hz).2.2).at_ hlt
        obtain ⟨c0, c1⟩ := own_cell hown (k := k) (List.getElem?_eq_getElem (by omega))
        go_wp2_with fail
        go_roundw
        case rel => exact ⟨k + 1, by omega, by go_num, L.set k (x % 1000001), fun z hz => by
          rcases List.mem_or_eq_of_mem_set hz with h | rfl
          · exact hL z h
          · omega, own_store hown k _, hz.setCell hgl _⟩
        case measure => simp [intOf]; omega
      · have hkq : q ≤ k := by omega
        have hs := (H2.out _ hz).2.1
        go_upto_region 8 with fail
        have hcs : ∀ j u, (int1 L)[j]? = some u → wr.cell? ((⟨g, 0, none⟩ : Addr).add j) = some u := fun j u hu => by
          have hj := (List.getElem?_eq_some_iff.1 hu).1
          rw [int1_len] at hj
          obtain ⟨e1, _⟩ := own_cell hown (List.getElem?_eq_getElem hj)
          rw [Go.WideShapes.add_plain, Nat.zero_add, e1, ← hu, int1_at (List.getElem?_eq_getElem hj)]
        have hb8 : Below wr.heap.size wr (wr.alloc (.cells #[] 3)) := (Below.refl _ _).alloc (Nat.le_refl _) _
        have hgw := (own_lt hown).2
        have hcs8 : ∀ j u, (int1 L)[j]? = some u → (wr.alloc (.cells #[] 3)).cell? ((⟨g, 0, none⟩ : Addr).add j) = some u := fun j u hu => (World.cell?_alloc_lt wr _ _ (World.block_lt_of_cell? wr _ (hcs j u hu))).trans (hcs j u hu)
        have hown0 : (wr.alloc (.cells #[] 3)).ownsRow wr.heap.size 3 1 (.slice (some ⟨wr.heap.size, 0, none⟩) 0 0) 0 [] := World.ownsRow_made wr #[] 0 (Nat.le_refl _) (Nat.zero_le _) rfl
        go_wp2_with (at_builtin; refine wpList_append_own _ rfl _ _ 33 rfl wr.heap.size 3 i0 (.int .i64 0) 1 8 Tryd.underlying33 hi hi0 hi1 hi2 rfl (by decide) _ 0 [] rfl hown0 ⟨g, 0, none⟩ 1200 1200 (int1 L) rfl (by rw [int1_len]; omega) hcs8 (int1_one_cell L) (by decide) (by omega) (by simp) ?_)
        intro v5 w5 hown5 hgrow _
        have hb5 : Below wr.heap.size wr w5 := hb8.grown hgrow (by simp) (fun j hj => (hown0.lt j hj).1)
        have hownl := own_below hown hb5
        have hz5 := hz.trans (hb5.mono hs)
        have hs5 := hb5.size
        obtain ⟨g2, cap2, rfl, hg2⟩ : ∃ g2 cap2, v5 = .slice (some ⟨g2, 0, none⟩) 1200 cap2 ∧ wr.heap.size ≤ g2 := by
          rcases hown5.2 with ⟨_, h⟩ | ⟨g2, cap2, cur, h1, h2, _⟩
          · cases h
          · exact ⟨g2, cap2, h1, h2⟩
        have hgg : g ≠ g2 := by omega
        have hg2l : w.heap.size + 2 ≤ g2 := by omega
        have howni : w5.ownsRow (w.heap.size + 2) 3 1 (.slice (some ⟨g2, 0, none⟩) 1200 cap2) 1200 (int1 (inK ls L 0)) := by rw [inK_zero ls hLl]; exact own_base hown5 hs
        clear hcs hb8 hcs8 hown0 hgrow hown5 hown hz hs hb5 hs5 hgw
        have hL1 : ∀ z ∈ L, z ≤ 1000000 := fun z hz => (hL z hz).2
        go_wp2_with fail
        go_loopw [12] (fun i wr => ∃ k : Nat, k ≤ p ∧ i = .int .i64 k ∧ (∀ j x, j < k → ls[j]? = some x → vld x.1 x.2 = true) ∧ wr.ownsRow (w.heap.size + 2) 3 1 (.slice (some ⟨g, 0, none⟩) 1200 1200) 1200 (int1 L) ∧ wr.ownsRow (w.heap.size + 2) 3 1 (.slice (some ⟨g2, 0, none⟩) 1200 cap2) 1200 (int1 (inK ls L k)) ∧ Below (w.heap.size + 2) W wr) (fun i _ => p - (intOf i).toNat)
        case atStart => exact ⟨0, Nat.zero_le _, rfl, fun j x h => by omega, hownl, howni, hz5⟩
        case round =>
          clear hownl howni hz5
          obtain ⟨k, hk, rfl, hvd, hownl, howni, hz⟩ := hrel
          have hglt := (own_lt hownl).2
          have hg2lt := (own_lt howni).2
          have hs := (H2.out _ hz).2.1
          have hlsp := HD.out.1
          by_cases hlt : k < p
          · obtain ⟨D1, D2, x, A2, m2, c2, rfl, hDl, hx, d0, d1, hPx, hm2, hc2, hN2⟩ := (HD.out.below (H2.out _ hz).2.2).at_ hlt
            obtain ⟨pc, pl⟩ := x
            simp only at d0 d1 hPx
            have hPx2 := hPx.more (show w.heap.size ≤ wr.heap.size by omega)
            have hva := refValid_any pc A2 m2 c2 pl wr hPx2 hm2 hc2
            cases hv2 : vld pc pl
            · rw [hv2] at hva
              have Hv := Lib.hid hva; clear hva hv2
              go_wp2_with fail
              refine Hv.out.mono ?_
              rintro e w6 ⟨rfl, hb6⟩
              go_wp2_with fail
              go_ret
              exact ⟨rfl, (H2.out _ (hz.trans (hb6.mono hs))).2.2⟩
            have Hv2 := Lib.hid hv2
            rw [hv2] at hva
            have Hv := Lib.hid hva; clear hva hv2
            go_wp2_with fail
            refine Hv.out.mono ?_
            rintro e w6 ⟨rfl, hb6⟩
            have hl6 := own_below hownl hb6
            have hi6 := own_below howni hb6
            have hs6 := hb6.size
            have e0 := (hb6.cell (p := ⟨D1, D2 + k * 2, none⟩) (show D1 < wr.heap.size by omega)).trans d0
            have e1 := (hb6.cell (p := ⟨D1, D2 + k * 2 + 1, none⟩) (show D1 < wr.heap.size by omega)).trans d1
            obtain ⟨ev1, ev2⟩ := evV_ok (L := L) Hv2.out (fun z hz => by have := hL1 z hz; omega)
            have hev := refEval_any pc A2 m2 c2 pl (some ⟨g, 0, none⟩) 1200 1200 L w6 (hPx2.lift hb6) hm2 hc2 (own_il hl6 (by omega)) (by decide)
            rw [ev1, ev2] at hev
            have hsv : sVal ls (k : Int) = (pc, pl) := sVal_some hx
            have hstep := inK_step ls L (show k < 1200 by omega)
            rw [hsv] at hstep
            have Hst := Lib.hid hstep
            generalize evMax pc L pl = ez at *
            have Hev := Lib.hid hev
            have hz6 := hz.trans (hb6.mono hs)
            clear hev hstep hsv ev1 ev2 Hv d0 d1 hPx hPx2 hb6 hownl howni hz
            go_wp2_with fail
            refine Hev.out.mono ?_
            rintro e w7 ⟨rfl, hb7⟩
            have hl7 := own_below hl6 hb7
            have hi7 := own_below hi6 hb7
            have hz7 := hz6.trans (hb7.mono (H2.out _ hz6).2.1)
            obtain ⟨c70, c71⟩ := own_cell hi7 (inK_get ls L k (show k < 1200 by omega))
            go_wp2_with fail
            go_roundw
            case rel => exact ⟨k + 1, by omega, by go_num, fun j x hj hx' => by
                by_cases e : j < k
                · exact hvd j x e hx'
                · obtain rfl : j = k := by omega
                  obtain rfl := Option.some.inj (hx.symm.trans hx')
                  exact Hv2.out, ownsRow_setCell_other hl7 (by simp [Value.ownBlock]; exact hgg) _, by rw [← Hst.out]; exact own_store hi7 k _, hz7.setCell hg2l _⟩
            case measure => simp [intOf]; omega
          · have hkp : k = p := by omega
            subst hkp
            have hall : ∀ x ∈ ls, vld x.1 x.2 = true := fun x hx => by
              obtain ⟨j, hj⟩ := List.mem_iff_getElem?.1 hx
              exact hvd j x (by have := (List.getElem?_eq_some_iff.1 hj).1; omega) hj
            have hihi := inK_hi (k := k) (by omega) hvd hL1
            rw [← hlsp] at howni hihi
            have hinn : ∀ v, 0 ≤ v → v ≤ 1199 → asv (inK ls L ls.length) v = evMax (sVal ls v).1 L (sVal ls v).2 := fun v h0 h1 => asv_inK hall hLl h0 h1
            have HPV : Hid (uErr ca la ls = 0 → evMax (uConst ca la ls) L (uVars ca la ls) = evMax ca (inK ls L ls.length) la) := fun he => put_value hall Va.out he hinn
            have HPU : Hid (uErr ca la ls = 0 → vld (uConst ca la ls) (uVars ca la ls) = true) := fun he => u_vld hall Va.out he
            have HPL : Hid (uErr ca la ls = 0 → uErr cb lb ls = 0 → leqv ca la cb lb = true → leqv (uConst ca la ls) (uVars ca la ls) (uConst cb lb ls) (uVars cb lb ls) = true) := fun h1 h2 h3 => put_leq hall Va.out Vb.out h1 h2 h3
            generalize inK ls L ls.length = I at *
            have Hihi := Lib.hid hihi
            clear hihi hinn hvd hlt hk
            obtain ⟨⟨f0, f1, f2, f3⟩, _, hbw⟩ := H2.out _ hz
            -- levels put in for the first one
            go_wp2_with fail
            refine (subst_any ca A n capA la D k capD ls wr (HA.out.lift hbw) hn hca (HD.out.lift hbw) (by omega)).mono ?_
            rintro e w6 ⟨v, rfl, ⟨A6, m6, k6, rfl, hP6, hm6, hk6, _⟩, hb6⟩
            have hz6 := hz.trans (hb6.mono hs)
            have hs6 := hb6.size
            have hbX : Below w6.heap.size w6 (w6.alloc (.cells #[.int .i64 (uConst ca la ls), .slice A6 m6 k6] 24)) := (Below.refl _ _).alloc (Nat.le_refl _) _
            have hcX := cell_new (X := w6) rfl (.int .i64 (uConst ca la ls)) (.slice A6 m6 k6) 24
            have hzX := hz6.trans (hbX.mono (H2.out _ hz6).2.1)
            have hPX := hP6.lift hbX
            have hlX := own_below (own_below hownl hb6) hbX
            have hiX := own_below (own_below howni hb6) hbX
            have hXl : w6.heap.size < (w6.alloc (.cells #[.int .i64 (uConst ca la ls), .slice A6 m6 k6] 24)).heap.size := by simp
            clear f0 f1 f2 f3 hb6 hbX hz6 hownl howni hP6 hz hbw
            go_upto_region 16 with fail
            generalize w6.alloc (.cells #[.int .i64 (uConst ca la ls), .slice A6 m6 k6] 24) = X at *
            obtain ⟨⟨f0, f1, f2, f3⟩, hsX, hbw⟩ := H2.out _ hzX
            -- and for the second one
            go_wp2_with fail
            refine (subst_any cb B m capB lb D k capD ls X (HBB.out.lift hbw) hm hcb (HD.out.lift hbw) (by omega)).mono ?_
            rintro e w7 ⟨v, rfl, ⟨A7, m7, k7, rfl, hP7, hm7, hk7, _⟩, hb7⟩
            have hz7 := hzX.trans (hb7.mono hsX)
            have hbY : Below w7.heap.size w7 (w7.alloc (.cells #[.int .i64 (uConst cb lb ls), .slice A7 m7 k7] 24)) := (Below.refl _ _).alloc (Nat.le_refl _) _
            have hcY := cell_new (X := w7) rfl (.int .i64 (uConst cb lb ls)) (.slice A7 m7 k7) 24
            have hzY := hz7.trans (hbY.mono (H2.out _ hz7).2.1)
            have hPY := hP7.lift hbY
            have hXY := hb7.trans (hbY.mono hb7.size)
            have hPX' := hPX.lift hXY
            have hlY := own_below hlX hXY
            have hiY := own_below hiX hXY
            have c0 := (hXY.cell (p := ⟨w6.heap.size, 0, none⟩) hXl).trans hcX.1
            have c1 := (hXY.cell (p := ⟨w6.heap.size, 1, none⟩) hXl).trans hcX.2
            have hYl : w7.heap.size < (w7.alloc (.cells #[.int .i64 (uConst cb lb ls), .slice A7 m7 k7] 24)).heap.size := by simp
            have hXl7 : w6.heap.size < (w7.alloc (.cells #[.int .i64 (uConst cb lb ls), .slice A7 m7 k7] 24)).heap.size := by have := hXY.size; omega
            clear f0 f1 f2 f3 hb7 hbY hz7 hlX hiX hP7 hcX hPX hXY hzX hsX hbw
            go_upto_if 95 with fail
            generalize w7.alloc (.cells #[.int .i64 (uConst cb lb ls), .slice A7 m7 k7] 24) = Y at *
            have hY : ∀ Z, Below Y.heap.size Y Z → (Z.cell? ⟨w6.heap.size, 0, none⟩ = some (.int .i64 (uConst ca la ls)) ∧ Z.cell? ⟨w6.heap.size, 1, none⟩ = some (.slice A6 m6 k6) ∧ Z.cell? ⟨w7.heap.size, 0, none⟩ = some (.int .i64 (uConst cb lb ls)) ∧ Z.cell? ⟨w7.heap.size, 1, none⟩ = some (.slice A7 m7 k7)) ∧
                PL Z Z.heap.size A6 m6 (uVars ca la ls) ∧ PL Z Z.heap.size A7 m7 (uVars cb lb ls) ∧ IL Z Z.heap.size (some ⟨g, 0, none⟩) 1200 L ∧ IL Z Z.heap.size (some ⟨g2, 0, none⟩) 1200 I ∧ Below (w.heap.size + 2) W Z := fun Z hZ =>
              ⟨⟨(hZ.cell (p := ⟨w6.heap.size, 0, none⟩) hXl7).trans c0, (hZ.cell (p := ⟨w6.heap.size, 1, none⟩) hXl7).trans c1, (hZ.cell (p := ⟨w7.heap.size, 0, none⟩) hYl).trans hcY.1, (hZ.cell (p := ⟨w7.heap.size, 1, none⟩) hYl).trans hcY.2⟩,
                hPX'.lift hZ, hPY.lift hZ, own_il (own_below hlY hZ) (own_lt (own_below hlY hZ)).2, own_il (own_below hiY hZ) (own_lt (own_below hiY hZ)).2, hzY.trans (hZ.mono (H2.out _ hzY).2.1)⟩
            have HY := Lib.hid hY
            clear hY hPX' hPY hlY hiY hcY c0 c1 hzY
            go_cut [14] (fun u wx => u = .int .i64 (uErr ca la ls) ∧ Below Y.heap.size Y wx)
            case first =>
              by_cases he : uErr ca la ls = 0
              · have hpv := HPV.out he
                have hpu := HPU.out he
                obtain ⟨ev1, ev2⟩ := evV_ok (L := L) hpu (fun z hz => by have := hL1 z hz; omega)
                obtain ⟨ev3, ev4⟩ := evV_ok (L := I) Va.out (fun z hz => by have := Hihi.out z hz; omega)
                rw [hpv] at ev1
                obtain ⟨⟨m0, m1, _, _⟩, hp6, _, hl, _, hz⟩ := HY.out _ (Below.refl _ _)
                have hev := Lib.hid (eval_any (uConst ca la ls) A6 m6 k6 (uVars ca la ls) (some ⟨g, 0, none⟩) 1200 1200 L Y hp6 hm6 hk6 hl (by decide))
                rw [ev1, ev2] at hev
                have hev2 := fun Z (hZ : Below Y.heap.size Y Z) => eval_any ca A n capA la (some ⟨g2, 0, none⟩) 1200 cap2 I Z (HA.out.lift (H2.out _ (HY.out Z hZ).2.2.2.2.2).2.2) hn hca (HY.out Z hZ).2.2.2.2.1 (by decide)
                rw [ev3, ev4] at hev2
                have Hev2 := Lib.hid hev2
                rw [he]
                generalize uConst ca la ls = xc at *
                generalize evMax ca I la = ev at *
                clear hev2 ev1 ev2 ev3 ev4 hpv hpu hp6 hl
                go_wp2_with fail
                refine hev.out.mono ?_
                rintro e w8 ⟨rfl, hb8⟩
                obtain ⟨_, _, _, _, _, hz8⟩ := HY.out _ hb8
                obtain ⟨⟨f0, f1, f2, f3⟩, _, _⟩ := H2.out _ hz8
                go_wp2_with fail
                refine (Hev2.out _ hb8).mono ?_
                rintro e w9 ⟨rfl, hb9⟩
                have hb89 := hb8.trans (hb9.mono hb8.size)
                go_wp2_with fail
                go_meet
                exact ⟨by rw [he], hb89⟩
              · have hq' : (uErr ca la ls == 0) = false := by simp [he]
                generalize uErr ca la ls = ue at *
                go_wp2_with fail
                go_meet
                exact ⟨rfl, Below.refl _ _⟩
            case rest =>
            obtain ⟨rfl, hbc⟩ := hcut
            clear HPV HPU
            obtain ⟨⟨m0, m1, m2', m3⟩, hp6, hp7, _, _, hz⟩ := HY.out _ hbc
            by_cases he : uErr ca la ls = 0
            · by_cases hf : uErr cb lb ls = 0
              · have HPL' := Lib.hid (HPL.out he hf)
                rw [he, hf]
                generalize uConst ca la ls = xc at *
                generalize uVars ca la ls = xv at *
                generalize uConst cb lb ls = yc at *
                generalize uVars cb lb ls = yv at *
                clear he hf HPL
                obtain ⟨⟨f0, f1, f2, f3⟩, hs, hbw⟩ := H2.out _ hz
                have hle := leq_any ca A n capA la cb B m capB lb wc (HA.out.lift hbw) hn hca (HBB.out.lift hbw) hm hcb
                cases hl : leqv ca la cb lb
                · rw [hl] at hle
                  have Hle := Lib.hid hle; clear hle hl
                  go_wp2_with fail
                  refine Hle.out.mono ?_
                  rintro e w8 ⟨rfl, hb8⟩
                  clear f0 f1 f2 f3
                  go_wp2_with fail
                  refine (Haw.out _ (hz.trans (hb8.mono hs))).mono ?_
                  rintro e w9 ⟨rfl, hz9⟩
                  go_wp2_with fail
                  go_ret
                  exact ⟨rfl, (H2.out _ hz9).2.2⟩
                · rw [hl] at hle
                  have hxy := HPL'.out hl
                  have Hle := Lib.hid hle; clear hle hl
                  go_wp2_with fail
                  refine Hle.out.mono ?_
                  rintro e w8 ⟨rfl, hb8⟩
                  clear f0 f1 f2 f3 m0 m1 m2' m3
                  obtain ⟨⟨m0, m1, m2', m3⟩, hq6, hq7, _, _, hz8⟩ := HY.out _ (hbc.trans (hb8.mono hbc.size))
                  have hle2 := leq_any xc A6 m6 k6 xv yc A7 m7 k7 yv w8 hq6 hm6 hk6 hq7 hm7 hk7
                  rw [hxy] at hle2
                  have Hle2 := Lib.hid hle2; clear hle2 hxy
                  go_wp2_with fail
                  refine Hle2.out.mono ?_
                  rintro e w9 ⟨rfl, hb9⟩
                  clear m0 m1 m2' m3
                  have hz9 := hz8.trans (hb9.mono (H2.out _ hz8).2.1)
                  go_wp2_with fail
                  refine (Haw.out _ hz9).mono ?_
                  rintro e w10 ⟨rfl, hz10⟩
                  go_wp2_with fail
                  go_ret
                  exact ⟨rfl, (H2.out _ hz10).2.2⟩
              · rw [he]
                have hq' : (uErr cb lb ls == 0) = false := by simp [hf]
                have hq'' : (uErr cb lb ls != 0) = true := by simp [hf]
                generalize uErr cb lb ls = ue at *
                go_wp2_with fail
                refine (Haw.out _ hz).mono ?_
                rintro e w9 ⟨rfl, hz9⟩
                go_wp2_with fail
                go_ret
                exact ⟨rfl, (H2.out _ hz9).2.2⟩
            · have hq' : (uErr ca la ls == 0) = false := by simp [he]
              have hq'' : (uErr ca la ls != 0) = true := by simp [he]
              generalize uErr ca la ls = ue at *
              go_wp2_with fail
              refine (Haw.out _ hz).mono ?_
              rintro e w9 ⟨rfl, hz9⟩
              go_wp2_with fail
              go_ret
              exact ⟨rfl, (H2.out _ hz9).2.2⟩
end Go.Proofs.YtpahgbnfgnmlaaaDoor
