/-
  The walk of LevelTells: it returns true for every two levels and every list of numbers.
-/
import Derived.Test.YtpahgbnfgnmlaaaDoorTelV
import Derived.Test.YtpahgbnfgnmlaaaDoorArr
import Derived.Test.YtpahgbnfgnmlaaaDoorRMax
import Derived.Test.YtpahgbnfgnmlaaaDoorPutM
import Derived.Test.YtpahgbnfgnmlaaaDoorAwake
import Derived.Deep.DeepCutAuto
import Derived.Deep.RegionHeldLaw
namespace Go.Proofs.YtpahgbnfgnmlaaaDoor
open Go Go.RowKit

set_option maxRecDepth 100000 in
set_option maxHeartbeats 8000000 in
theorem tells_any (ca : Int) (A : Option Addr) (n capA : Nat) (la : List (Int × Int)) (cb : Int) (B : Option Addr) (m capB : Nat) (lb : List (Int × Int)) (V : Option Addr) (q capV : Nat) (vs : List Int) (w : World)
    (ha : PL w w.heap.size A n la) (hn : n ≤ capA) (hca : capA ≤ 9223372036854775807) (hA : A = none → capA = 0) (hb : PL w w.heap.size B m lb) (hm : m ≤ capB) (hcb : capB ≤ 9223372036854775807) (hB : B = none → capB = 0)
    (hV : UL w w.heap.size V q vs) (hq : q ≤ 9223372036854775807) (hP : Pow w) :
    Calls Tryd.prog 8 #[.agg #[.int .i64 ca, .slice A n capA], .agg #[.int .i64 cb, .slice B m capB], .slice V q capV] w fun e w' => e = .returned (.bool true) ∧ Below w.heap.size w w' := by
  have h0 : Below (w.heap.size + 2) ((w.alloc (.cells #[.int .i64 ca, .slice A n capA] 24)).alloc (.cells #[.int .i64 cb, .slice B m capB] 24)) ((w.alloc (.cells #[.int .i64 ca, .slice A n capA] 24)).alloc (.cells #[.int .i64 cb, .slice B m capB] 24)) := Below.refl _ _
  obtain ⟨W, hW⟩ : ∃ W, W = (w.alloc (.cells #[.int .i64 ca, .slice A n capA] 24)).alloc (.cells #[.int .i64 cb, .slice B m capB] 24) := ⟨_, rfl⟩
  have h2 : ∀ X, Below (w.heap.size + 2) W X → (X.cell? ⟨w.heap.size, 0, none⟩ = some (.int .i64 ca) ∧ X.cell? ⟨w.heap.size, 1, none⟩ = some (.slice A n capA) ∧ X.cell? ⟨w.heap.size + 1, 0, none⟩ = some (.int .i64 cb) ∧ X.cell? ⟨w.heap.size + 1, 1, none⟩ = some (.slice B m capB)) ∧ w.heap.size + 2 ≤ X.heap.size ∧ Below w.heap.size w X := fun X hX => box2 (by rw [← hW]; exact hX)
  rw [← hW] at h0
  have hva : ∀ X, Below (w.heap.size + 2) W X → Calls Tryd.prog 16 #[.agg #[.int .i64 ca, .slice A n capA]] X fun e w' => e = .returned (.bool (vld ca la)) ∧ Below (w.heap.size + 2) W w' := fun X hX =>
    (refValid_any ca A n capA la X (ha.lift (h2 X hX).2.2) hn hca).mono fun e w' ⟨he, hb⟩ => ⟨he, hX.trans (hb.mono (h2 X hX).2.1)⟩
  have hvb : ∀ X, Below (w.heap.size + 2) W X → Calls Tryd.prog 16 #[.agg #[.int .i64 cb, .slice B m capB]] X fun e w' => e = .returned (.bool (vld cb lb)) ∧ Below (w.heap.size + 2) W w' := fun X hX =>
    (refValid_any cb B m capB lb X (hb.lift (h2 X hX).2.2) hm hcb).mono fun e w' ⟨he, hb⟩ => ⟨he, hX.trans (hb.mono (h2 X hX).2.1)⟩
  have haw : ∀ X, Below (w.heap.size + 2) W X → Calls Tryd.prog 22 #[] X fun e w' => e = .returned (.bool true) ∧ Below (w.heap.size + 2) W w' := fun X hX =>
    (awake_any X (hP.below (h2 X hX).2.2 (.inl (Nat.le_refl _)))).mono fun e w' ⟨he, hb⟩ => ⟨he, hX.trans (hb.mono (h2 X hX).2.1)⟩
  have H2 := Lib.hid h2; have Hva := Lib.hid hva; have Hvb := Lib.hid hvb; have Haw := Lib.hid haw; have HW := Lib.hid hW; have H0 := Lib.hid h0
  have HA := Lib.hid ha; have HBB := Lib.hid hb; have HV := Lib.hid hV
  clear h2 hva hvb haw hW h0 ha hb hV hP
  go_enter Tryd.func8, Tryd.ntmps8
  go_upto_region 1 with fail
  rw [show (w.alloc (.cells #[.int .i64 ca, .slice A n capA] 24)).alloc (.cells #[.int .i64 cb, .slice B m capB] 24) = W from HW.out.symm]
  clear HW
  go_cut [30] (fun c wx => Below (w.heap.size + 2) W wx ∧ (c = .bool true ∨ (c = .bool false ∧ vld ca la = true ∧ vld cb lb = true)))
  case first =>
    have h0 := H0.out
    obtain ⟨⟨f0, f1, f2, f3⟩, _, _⟩ := H2.out _ h0
    have hva := Hva.out; have hvb := Hvb.out
    clear Hva Hvb
    cases va : vld ca la
    · rw [va] at hva
      have Hva := Lib.hid hva
      clear hva hvb va
      go_wp2_with fail
      refine (Hva.out _ h0).mono ?_
      rintro e w1 ⟨rfl, hz⟩
      go_wp2_with fail
      go_meet
      exact ⟨hz, .inl rfl⟩
    have va' := va
    rw [va] at hva
    have Hva := Lib.hid hva
    clear hva va
    go_wp2_with fail
    refine (Hva.out _ h0).mono ?_
    rintro e w1 ⟨rfl, hz⟩
    clear f0 f1 f2 f3
    obtain ⟨⟨f0, f1, f2, f3⟩, _, _⟩ := H2.out _ hz
    cases vb : vld cb lb
    · rw [vb] at hvb
      have Hvb := Lib.hid hvb
      clear hvb vb
      go_wp2_with fail
      refine (Hvb.out _ hz).mono ?_
      rintro e w2 ⟨rfl, hz2⟩
      go_wp2_with fail
      go_meet
      exact ⟨hz2, .inl rfl⟩
    have vb' := vb
    rw [vb] at hvb
    have Hvb := Lib.hid hvb
    clear hvb vb
    go_wp2_with fail
    refine (Hvb.out _ hz).mono ?_
    rintro e w2 ⟨rfl, hz2⟩
    clear f0 f1 f2 f3
    go_wp2_with fail
    go_meet
    exact ⟨hz2, .inr ⟨rfl, va', vb'⟩⟩
  case rest =>
    clear Hva Hvb H0
    obtain ⟨hz, hc⟩ := hcut
    rcases hc with rfl | ⟨rfl, va, vb⟩
    · go_wp2_with fail
      go_ret
      exact ⟨rfl, (H2.out _ hz).2.2⟩
    have hn8 : n ≤ 8 := by have := (vld_iff.1 va).len; have := HA.out.1; omega
    have hm8 : m ≤ 8 := by have := (vld_iff.1 vb).len; have := HBB.out.1; omega
    have Va := Lib.hid va; have Vb := Lib.hid vb
    clear va vb
    obtain ⟨iv, hi, hi0, hi1, hi2⟩ := info_parts infoV
    -- the variables of both
    go_upto_region 3 with fail
    go_cut [7] (fun u wx => ∃ E cE, u = .slice E (varsV (la ++ lb)).length cE ∧ IL wx wx.heap.size E (varsV (la ++ lb)).length (varsV (la ++ lb)) ∧ Below (w.heap.size + 2) W wx)
    case first =>
      have hS : ∀ Y, Below (w.heap.size + 2) W Y → Y.cell? ⟨w.heap.size, 1, none⟩ = some (.slice A n capA) ∧ Y.cell? ⟨w.heap.size + 1, 1, none⟩ = some (.slice B m capB) := fun Y hY => ⟨(H2.out Y hY).1.2.1, (H2.out Y hY).1.2.2.2⟩
      have hs := (H2.out _ hz).2.1
      have HS := Lib.hid hS; clear hS
      have hzd := hz.drew
      have hza := (hz.alloc hs (.cells #[] 50)).drew
      have hown0 : (wc.alloc (.cells #[] 50)).drew.ownsRow (w.heap.size + 2) 50 2 (.slice (some ⟨wc.heap.size, 0, none⟩) 0 0) 0 [] := (World.ownsRow_made wc #[] 0 hs (Nat.zero_le _) rfl).drew
      have hpa : ∀ Y, Below (w.heap.size + 2) W Y → (∀ ad, A = some ad → ∀ j u, (flat2 la)[j]? = some u → Y.cell? (ad.add j) = some u) := fun Y hY ad e => by have := HA.out.lift (H2.out Y hY).2.2; subst e; exact this.cells
      have hpb : ∀ Y, Below (w.heap.size + 2) W Y → (∀ ad, B = some ad → ∀ j u, (flat2 lb)[j]? = some u → Y.cell? (ad.add j) = some u) := fun Y hY ad e => by have := HBB.out.lift (H2.out Y hY).2.2; subst e; exact this.cells
      have hla := Lib.hid HA.out.1
      have hlb := Lib.hid HBB.out.1
      have hA0 : A = none → n = 0 ∧ capA = 0 := fun h => ⟨by have := hA h; omega, hA h⟩
      have hB0 : B = none → m = 0 ∧ capB = 0 := fun h => ⟨by have := hB h; omega, hB h⟩
      have Hpa := Lib.hid hpa; have Hpb := Lib.hid hpb
      clear hpa hpb
      have hql : (la ++ lb).length ≤ 16 := by rw [List.length_append, hla.out, hlb.out]; omega
      have hfl : Hid (flat2 la ++ flat2 lb = flat2 (la ++ lb)) := (flat2_app la lb).symm
      have hll : Hid (0 + n + m = (la ++ lb).length) := by rw [Hid, List.length_append, hla.out, hlb.out]; omega
      have hvars : ∀ Y C k, Below (w.heap.size + 2) W Y → PL Y Y.heap.size C (la ++ lb).length (la ++ lb) → Calls Tryd.prog 20 #[.agg #[.int .i64 0, .slice C (la ++ lb).length k]] Y fun e w' => ∃ E c, e = .returned (.slice E (varsV (la ++ lb)).length c) ∧ IL w' w'.heap.size E (varsV (la ++ lb)).length (varsV (la ++ lb)) ∧ Below (w.heap.size + 2) W w' := fun Y C k hY hC =>
        (refVars_any 0 C _ k (la ++ lb) Y hC (by omega)).mono fun e w' ⟨E, c, he, hI, hb⟩ => ⟨E, c, he, hI, hY.trans (hb.mono (H2.out Y hY).2.1)⟩
      have Hvars := Lib.hid hvars; clear hvars
      generalize la ++ lb = qq at *
      go_region_held_law (fun w' => w'.cell? ⟨w.heap.size, 1, none⟩ = some (.slice A n capA) ∧ w'.cell? ⟨w.heap.size + 1, 1, none⟩ = some (.slice B m capB))
        (first | exact HS.out _ hz8 | exact HS.out _ hz7 | exact HS.out _ hz6 | exact HS.out _ hza | exact HS.out _ hzd)
        (first
          | (refine step_append_any rfl (.tmp 31) (.tmp 33) 22 rfl (w.heap.size + 2) 50 iv (.agg #[.int .i64 0, .int .i64 0]) 2 16 Tryd.underlying22 hi hi0 hi1 hi2 rfl (by decide) (.slice (some ⟨wc.heap.size, 0, none⟩) 0 0) 0 [] rfl hown0 A n capA (flat2 la) rfl hA0 (by rw [flat2_len, hla.out]) (Hpa.out _ hza) (flat2_one_cell la) (by unfold maxLen; omega) (by omega) (H2.out _ hza).2.1 ?_; intro v6 w6 hown6 hgrow6; have hz6 : Below (w.heap.size + 2) W w6 := hza.grown hgrow6 (by have := (H2.out _ hza).2.1; omega) (fun j hj => (hown0.lt j hj).1))
          | (refine step_append_any rfl (.tmp 34) (.tmp 36) 22 rfl (w.heap.size + 2) 50 iv (.agg #[.int .i64 0, .int .i64 0]) 2 16 Tryd.underlying22 hi hi0 hi1 hi2 rfl (by decide) v6 (0 + n) ([] ++ flat2 la) rfl hown6 B m capB (flat2 lb) rfl hB0 (by rw [flat2_len, hlb.out]) (Hpb.out _ hz6) (flat2_one_cell lb) (by unfold maxLen; omega) (by omega) (H2.out _ hz6).2.1 ?_; intro v7 w7 hown7 hgrow7; have hz7 : Below (w.heap.size + 2) W w7 := hz6.grown hgrow7 (H2.out _ hz6).2.1 (fun j hj => (hown6.lt j hj).1); rw [List.nil_append, hfl.out, hll.out] at hown7; obtain ⟨C7, k7, rfl, _, _, hP7, _⟩ := PL.of_own hown7)
          | (go_at_call 20; refine (Hvars.out _ _ _ hz7 hP7).mono ?_; rintro e w8 ⟨E, cE, rfl, hE, hz8⟩))
      go_wp2_with fail
      go_meet
      exact ⟨E, cE, rfl, hE, hz8⟩
    case rest =>
    obtain ⟨E, cE, rfl, hE, hz8⟩ := hcut
    clear hz
    obtain ⟨w8, hw8⟩ : ∃ x, x = wc := ⟨_, rfl⟩
    subst hw8
    generalize hqq : la ++ lb = qq at *
    have Hqq := Lib.hid hqq
    clear hqq
    have hvv : ∀ v ∈ varsV qq, 0 ≤ v ∧ v ≤ 1199 := fun v hv => by
      obtain ⟨x, hx, rfl⟩ := varsV_of hv
      rw [← Hqq.out] at hx
      rcases List.mem_append.1 hx with hx | hx
      · exact (vld_mem Va.out hx).1
      · exact (vld_mem Vb.out hx).1
    have hasc := varsV_asc qq
    have hmem : ∀ x ∈ la ++ lb, x.1 ∈ varsV qq := fun x hx => varsV_mem (by rw [← Hqq.out]; exact hx)
    generalize varsV qq = vv at *
    generalize hnv : vv.length = nv at *
    have hvl := Lib.hid hnv
    clear hnv
    by_cases h5 : 5 < (nv : Int)
    · go_wp2_with fail
      go_ret
      exact ⟨rfl, (H2.out _ hz8).2.2⟩
    by_cases h40 : 40 < (q : Int)
    · go_wp2_with fail
      go_ret
      exact ⟨rfl, (H2.out _ hz8).2.2⟩
    go_upto_if 50 with fail
    go_cut [8] (fun u wx => ∃ top : Nat, u = .int .i64 top ∧ top ≤ 1200 ∧ (∀ v ∈ vv, v < top) ∧ wx = w8)
    case first =>
      by_cases h0 : nv = 0
      · subst h0
        go_wp2_with fail
        go_meet
        exact ⟨0, rfl, by omega, (fun v hv => by
          have := List.eq_nil_of_length_eq_zero hvl.out
          rw [this] at hv; cases hv), rfl⟩
      · obtain ⟨b, off, x, rfl, hbl, hx, hxc⟩ := hE.at_ (show nv - 1 < nv by omega)
        have hxr := hvv x (List.mem_of_getElem? hx)
        have hni : ((nv : Int) - 1) = ((nv - 1 : Nat) : Int) := by omega
        have hpos : (0 : Int) < nv := by omega
        go_wp2_with fail
        go_meet
        exact ⟨(x + 1).toNat, by rw [Int.toNat_of_nonneg (by omega)], by omega, (fun v hv => by have := last_max hasc hx (by have := hvl.out; omega) v hv; omega), rfl⟩
    case rest =>
    obtain ⟨top, rfl, htop, hvt, hwc⟩ := hcut
    subst hwc
    obtain ⟨io, hj, hj0, hj1, hj2⟩ := info_partsI
    have hpw : ∃ pw : Nat, 2 ^ nv = pw ∧ pw ≤ 32 ∧ wrap64 ((2 : Int) ^ nv) = (pw : Int) := by
      have : ∀ i : Fin 6, (2 ^ i.val ≤ 32 ∧ wrap64 ((2 : Int) ^ i.val) = ((2 ^ i.val : Nat) : Int)) := by decide +kernel
      exact ⟨2 ^ nv, rfl, (this ⟨nv, by omega⟩).1, (this ⟨nv, by omega⟩).2⟩
    obtain ⟨pw, hpw, hp32, hwr⟩ := hpw
    have Hwr := Lib.hid hwr; have Hpw := Lib.hid hpw
    clear hwr hpw
    go_wp2_with fail
    go_loopw [10, 9] (fun i al wr => ∃ k : Nat, k ≤ pw ∧ i = .int .i64 k ∧ al = .bool (allP ca la cb lb vv top nv k) ∧ Below wc.heap.size wc wr) (fun i _ _ => pw - (intOf i).toNat)
    case atStart => exact ⟨0, Nat.zero_le _, rfl, rfl, Below.refl _ _⟩
    case round =>
      obtain ⟨k, hk, rfl, rfl, hbr⟩ := hrel
      go_upto_if 62 with fail
      rw [Hwr.out]
      by_cases hlt : k < pw
      · have hlti : (k : Int) < (pw : Int) := by omega
        have hsr := hbr.size
        go_wp2_with (refine wpList_make_full _ rfl (.tmp 65) (.tmp 65) 33 rfl wc.heap.size 3 io (.int .i64 0) 1 Tryd.underlying33 hj hj0 hj1 .i64 .i64 top top top rfl rfl rfl rfl (by rw [hj2]; omega) (by unfold maxLen; omega) hsr ?_)
        intro w1 hown hgrow
        have hz1 : Below wc.heap.size wc w1 := hbr.grown hgrow hsr (fun j hj => by cases hj)
        have emz : (madeCells #[Value.int .i64 0] top).toList = int1 (pkK vv top k 0) := by rw [pkK_zero, ← made_zero, Nat.mul_one]; rfl
        rw [emz] at hown
        clear hbr hgrow hsr emz
        generalize wr.heap.size = g at *
        have hgl := (own_lt hown).1
        go_wp2_with fail
        go_loopw [12] (fun i wr => ∃ j : Nat, j ≤ nv ∧ i = .int .i64 j ∧ wr.ownsRow wc.heap.size 3 1 (.slice (some ⟨g, 0, none⟩) top top) top (int1 (pkK vv top k j)) ∧ Below wc.heap.size wc wr) (fun i _ => nv - (intOf i).toNat)
        case atStart => exact ⟨0, Nat.zero_le _, rfl, hown, hz1⟩
        case round =>
          clear hown hz1
          obtain ⟨j, hj', rfl, hown, hz⟩ := hrel
          by_cases hjt : j < nv
          · obtain ⟨b, off, x, rfl, hbl, hx, hxc⟩ := (hE.below hz).at_ hjt
            have hxr := hvv x (List.mem_of_getElem? hx)
            have hxt := hvt x (List.mem_of_getElem? hx)
            obtain ⟨u, rfl⟩ : ∃ u : Nat, x = u := ⟨x.toNat, by omega⟩
            have hut : u < top := by omega
            obtain ⟨c0, c1⟩ := own_cell hown (pkK_get vv k j hut)
            have hbit : IntKind.i64.wrap (bits BinOp.and IntKind.i64 ((k : Int) / 2 ^ j) 1 * 1001) = bitv k j * 1001 := bit_form (by omega) (by omega)
            have Hbit := Lib.hid hbit
            have Hst := Lib.hid (pkK_step (k := j) (p := k) hasc hx hut)
            clear hbit
            go_upto_region 17 with fail
            go_region_held3 (fun w' => w'.cell? ⟨b, off + j, none⟩ = some (.int .i64 u)) (first | assumption | exact keep_set (by omega) hxc) (fail)
            rw [Hbit.out]
            have hown2 := (own_store hown u (bitv k j * 1001)).drew
            rw [Hst.out] at hown2
            have hz2 := (hz.setCell (show wc.heap.size ≤ g from hgl) (.int .i64 (bitv k j * 1001)) (p := ⟨g, u, none⟩)).drew
            generalize bitv k j * 1001 = bz at *
            go_wp2_with fail
            go_roundw
            case rel => exact ⟨j + 1, by omega, by go_num, hown2, hz2⟩
            case measure => simp [intOf]; omega
          · have hje : j = nv := by omega
            subst hje
            have hgg := (own_lt hown).2
            have hsz := hz.size
            have hzz := hz8.trans (hz.mono (H2.out _ hz8).2.1)
            obtain ⟨⟨f0, f1, f2, f3⟩, hs2, hbw⟩ := H2.out _ hzz
            have hhi := pkK_hi vv top k j
            obtain ⟨ev1, ev2⟩ := evV_ok (L := pkK vv top k j) Va.out (fun z hz => by have := hhi z hz; omega)
            obtain ⟨ev3, ev4⟩ := evV_ok (L := pkK vv top k j) Vb.out (fun z hz => by have := hhi z hz; omega)
            have he1 := eval_any ca A n capA la (some ⟨g, 0, none⟩) top top (pkK vv top k j) wr (HA.out.lift hbw) hn hca (own_il hown hgg) (by omega)
            have he2 := fun X (hX : Below wr.heap.size wr X) => eval_any cb B m capB lb (some ⟨g, 0, none⟩) top top (pkK vv top k j) X (HBB.out.lift (hbw.trans (hX.mono hbw.size))) hm hcb (own_il (own_below hown hX) (own_lt (own_below hown hX)).2) (by omega)
            rw [ev1, ev2] at he1
            rw [ev3, ev4] at he2
            have Hap : Hid (allP ca la cb lb vv top j (k + 1) = (allP ca la cb lb vv top j k && decide (evMax ca (pkK vv top k j) la ≤ evMax cb (pkK vv top k j) lb))) := allP_succ ca la cb lb vv top j k
            generalize evMax ca (pkK vv top k j) la = x1 at *
            generalize evMax cb (pkK vv top k j) lb = x2 at *
            generalize allP ca la cb lb vv top j k = al at *
            have He1 := Lib.hid he1; have He2 := Lib.hid he2
            clear he1 he2 ev1 ev2 ev3 ev4 hhi hown
            go_wp2_with fail
            refine He1.out.mono ?_
            rintro e w5 ⟨rfl, hb5⟩
            have hz5 := hz.trans (hb5.mono hsz)
            have hzz5 := hzz.trans (hb5.mono hs2)
            clear f0 f1 f2 f3
            obtain ⟨⟨f0, f1, f2, f3⟩, hs5, _⟩ := H2.out _ hzz5
            go_wp2_with fail
            refine (He2.out _ hb5).mono ?_
            rintro e w6 ⟨rfl, hb6⟩
            have hz6 := hz5.trans (hb6.mono hz5.size)
            clear f0 f1 f2 f3
            cases al
            · go_wp2_with fail
              go_roundw
              case rel => exact ⟨k + 1, by omega, by go_num, by rw [Hap.out]; rfl, hz6⟩
              case measure => simp [intOf]; omega
            · go_wp2_with fail
              go_roundw
              case rel => exact ⟨k + 1, by omega, by go_num, by rw [Hap.out]; simp, hz6⟩
              case measure => simp [intOf]; omega
      · have hke : k = pw := by omega
        have hnlt : ¬ (k : Int) < (pw : Int) := by omega
        have hal : allP ca la cb lb vv top nv k = leqv ca la cb lb := by rw [hke, ← Hpw.out]; exact allP_leq Va.out Vb.out hasc hvl.out (by omega) (fun x hx => hmem x hx) (fun v hv => ⟨(hvv v hv).1, hvt v hv⟩)
        rw [hal]
        have hzz := hz8.trans (hbr.mono (H2.out _ hz8).2.1)
        obtain ⟨⟨f0, f1, f2, f3⟩, hs2, hbw⟩ := H2.out _ hzz
        have hle := leq_any ca A n capA la cb B m capB lb wr (HA.out.lift hbw) hn hca (HBB.out.lift hbw) hm hcb
        have hsnd : leqv ca la cb lb = true → ∀ vals, evMax ca vals la ≤ evMax cb vals lb := fun h vals => leqv_sound h vals
        clear hal
        generalize leqv ca la cb lb = r at *
        have Hle := Lib.hid hle; have Hsnd := Lib.hid hsnd
        clear hle hsnd
        go_wp2_with fail
        refine Hle.out.mono ?_
        rintro e w5 ⟨rfl, hb5⟩
        have hz5 := hbr.trans (hb5.mono hbr.size)
        have hsr := hz5.size
        have hrr : (r != r) = false := by cases r <;> rfl
        clear f0 f1 f2 f3 hbw hs2 hzz hbr hb5 Hle
        go_wp2_with (refine wpList_make_full _ rfl (.tmp 113) (.tmp 113) 33 rfl wc.heap.size 3 io (.int .i64 0) 1 Tryd.underlying33 hj hj0 hj1 .i64 .i64 top top top rfl rfl rfl rfl (by rw [hj2]; omega) (by unfold maxLen; omega) hsr ?_)
        intro w1 hown hgrow
        have hz1 : Below wc.heap.size wc w1 := hz5.grown hgrow hsr (fun j hj => by cases hj)
        have emz : (madeCells #[Value.int .i64 0] top).toList = int1 (List.replicate top 0) := by rw [← made_zero, Nat.mul_one]; rfl
        rw [emz] at hown
        clear hz5 hgrow hsr emz
        generalize w5.heap.size = g at *
        have hgl := (own_lt hown).1
        go_wp2_with fail
        go_loopw [18] (fun i wr => ∃ j : Nat, j ≤ nv ∧ i = .int .i64 j ∧ ∃ L : List Int, (∀ z ∈ L, 0 ≤ z ∧ z ≤ 2000000000) ∧ wr.ownsRow wc.heap.size 3 1 (.slice (some ⟨g, 0, none⟩) top top) top (int1 L) ∧ Below wc.heap.size wc wr) (fun i _ => nv - (intOf i).toNat)
        case atStart => exact ⟨0, Nat.zero_le _, rfl, _, fun z hz => by rw [List.eq_of_mem_replicate hz]; decide, hown, hz1⟩
        case round =>
          clear hown hz1
          obtain ⟨j, hj', rfl, L, hL, hown, hz⟩ := hrel
          by_cases hin : j < q ∧ j < nv
          · obtain ⟨hjq, hjt⟩ := hin
            obtain ⟨b, off, x, rfl, hbl, hx, hxc⟩ := (hE.below hz).at_ hjt
            have hbw := (H2.out _ (hz8.trans (hz.mono (H2.out _ hz8).2.1))).2.2
            obtain ⟨bv, offv, y, rfl, hbvl, hy, hyc, hy0, hy1⟩ := (HV.out.below hbw).at_ hjq
            have hxr := hvv x (List.mem_of_getElem? hx)
            have hxt := hvt x (List.mem_of_getElem? hx)
            obtain ⟨u, rfl⟩ : ∃ u : Nat, x = u := ⟨x.toNat, by omega⟩
            have hut : u < top := by omega
            have hLl : L.length = top := by have := hown.1; rw [int1_len] at this; omega
            obtain ⟨c0, c1⟩ := own_cell hown (k := u) (List.getElem?_eq_getElem (by omega))
            have hs8 := (H2.out _ hz8).2.1
            have hmod : IntKind.i64.wrap (y.tmod 2000000001) = y % 2000000001 := by rw [Int.tmod_eq_emod_of_nonneg hy0]; exact IntWalk.i64_in _ (by omega)
            have Hmod := Lib.hid hmod
            clear hmod
            go_upto_region 29 with fail
            go_region_held3 (fun w' => w'.cell? ⟨b, off + j, none⟩ = some (.int .i64 u) ∧ w'.cell? ⟨bv, offv + j, none⟩ = some (.int .u32 y)) (first | exact ⟨hxc, hyc⟩ | exact ⟨keep_set (by omega) hxc, keep_set (by omega) hyc⟩) (fail)
            rw [Hmod.out]
            have hown2 := (own_store hown u (y % 2000000001)).drew
            have hz2 := (hz.setCell (show wc.heap.size ≤ g from hgl) (.int .i64 (y % 2000000001)) (p := ⟨g, u, none⟩)).drew
            go_wp2_with fail
            go_roundw
            case rel => exact ⟨j + 1, by omega, by go_num, _, fun z hz => by
              rcases List.mem_or_eq_of_mem_set hz with h | rfl
              · exact hL z h
              · omega, hown2, hz2⟩
            case measure => simp [intOf]; omega
          · by_cases h1 : j < q
            · have h2 : ¬ j < nv := by omega
              have hgg := (own_lt hown).2
              have hsz := hz.size
              have hzz := hz8.trans (hz.mono (H2.out _ hz8).2.1)
              obtain ⟨⟨f0, f1, f2, f3⟩, hs2, hbw⟩ := H2.out _ hzz
              obtain ⟨ev1, ev2⟩ := evV_ok (L := L) Va.out (fun z hz => by have := hL z hz; omega)
              obtain ⟨ev3, ev4⟩ := evV_ok (L := L) Vb.out (fun z hz => by have := hL z hz; omega)
              have he1 := eval_any ca A n capA la (some ⟨g, 0, none⟩) top top L wr (HA.out.lift hbw) hn hca (own_il hown hgg) (by omega)
              have he2 := fun X (hX : Below wr.heap.size wr X) => eval_any cb B m capB lb (some ⟨g, 0, none⟩) top top L X (HBB.out.lift (hbw.trans (hX.mono hbw.size))) hm hcb (own_il (own_below hown hX) (own_lt (own_below hown hX)).2) (by omega)
              rw [ev1, ev2] at he1
              rw [ev3, ev4] at he2
              have hxy : r = true → evMax ca L la ≤ evMax cb L lb := fun h => Hsnd.out h L
              generalize evMax ca L la = x1 at *
              generalize evMax cb L lb = x2 at *
              have He1 := Lib.hid he1; have He2 := Lib.hid he2; have Hxy := Lib.hid hxy
              clear he1 he2 ev1 ev2 ev3 ev4 hxy hown
              go_wp2_with fail
              refine He1.out.mono ?_
              rintro e w5 ⟨rfl, hb5⟩
              have hzz5 := hzz.trans (hb5.mono hs2)
              clear f0 f1 f2 f3
              obtain ⟨⟨f0, f1, f2, f3⟩, hs5, _⟩ := H2.out _ hzz5
              go_wp2_with fail
              refine (He2.out _ hb5).mono ?_
              rintro e w6 ⟨rfl, hb6⟩
              have hzz6 := hzz5.trans (hb6.mono hs5)
              clear f0 f1 f2 f3
              cases r
              · go_wp2_with fail
                refine (Haw.out _ hzz6).mono ?_
                rintro e w7 ⟨rfl, hz7⟩
                go_wp2_with fail
                go_ret
                exact ⟨rfl, (H2.out _ hz7).2.2⟩
              · have hx12 := Hxy.out rfl
                go_wp2_with fail
                refine (Haw.out _ hzz6).mono ?_
                rintro e w7 ⟨rfl, hz7⟩
                go_wp2_with fail
                go_ret
                exact ⟨rfl, (H2.out _ hz7).2.2⟩
            · have hgg := (own_lt hown).2
              have hsz := hz.size
              have hzz := hz8.trans (hz.mono (H2.out _ hz8).2.1)
              obtain ⟨⟨f0, f1, f2, f3⟩, hs2, hbw⟩ := H2.out _ hzz
              obtain ⟨ev1, ev2⟩ := evV_ok (L := L) Va.out (fun z hz => by have := hL z hz; omega)
              obtain ⟨ev3, ev4⟩ := evV_ok (L := L) Vb.out (fun z hz => by have := hL z hz; omega)
              have he1 := eval_any ca A n capA la (some ⟨g, 0, none⟩) top top L wr (HA.out.lift hbw) hn hca (own_il hown hgg) (by omega)
              have he2 := fun X (hX : Below wr.heap.size wr X) => eval_any cb B m capB lb (some ⟨g, 0, none⟩) top top L X (HBB.out.lift (hbw.trans (hX.mono hbw.size))) hm hcb (own_il (own_below hown hX) (own_lt (own_below hown hX)).2) (by omega)
              rw [ev1, ev2] at he1
              rw [ev3, ev4] at he2
              have hxy : r = true → evMax ca L la ≤ evMax cb L lb := fun h => Hsnd.out h L
              generalize evMax ca L la = x1 at *
              generalize evMax cb L lb = x2 at *
              have He1 := Lib.hid he1; have He2 := Lib.hid he2; have Hxy := Lib.hid hxy
              clear he1 he2 ev1 ev2 ev3 ev4 hxy hown
              go_wp2_with fail
              refine He1.out.mono ?_
              rintro e w5 ⟨rfl, hb5⟩
              have hzz5 := hzz.trans (hb5.mono hs2)
              clear f0 f1 f2 f3
              obtain ⟨⟨f0, f1, f2, f3⟩, hs5, _⟩ := H2.out _ hzz5
              go_wp2_with fail
              refine (He2.out _ hb5).mono ?_
              rintro e w6 ⟨rfl, hb6⟩
              have hzz6 := hzz5.trans (hb6.mono hs5)
              clear f0 f1 f2 f3
              cases r
              · go_wp2_with fail
                refine (Haw.out _ hzz6).mono ?_
                rintro e w7 ⟨rfl, hz7⟩
                go_wp2_with fail
                go_ret
                exact ⟨rfl, (H2.out _ hz7).2.2⟩
              · have hx12 := Hxy.out rfl
                go_wp2_with fail
                refine (Haw.out _ hzz6).mono ?_
                rintro e w7 ⟨rfl, hz7⟩
                go_wp2_with fail
                go_ret
                exact ⟨rfl, (H2.out _ hz7).2.2⟩
end Go.Proofs.YtpahgbnfgnmlaaaDoor
