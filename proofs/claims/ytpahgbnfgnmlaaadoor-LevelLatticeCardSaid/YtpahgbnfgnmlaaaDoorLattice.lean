/-
  The walk of LevelLattice: it returns true for every three levels.
-/
import Derived.Test.YtpahgbnfgnmlaaaDoorLatM
import Derived.Test.YtpahgbnfgnmlaaaDoorAwake
import Derived.Deep.DeepCutAuto
namespace Go.Proofs.YtpahgbnfgnmlaaaDoor
open Go Go.RowKit

/-- the three boxes of three levels that are handed in -/
def W3 (w : World) (ca : Int) (A : Option Addr) (n capA : Nat) (cb : Int) (B : Option Addr) (m capB : Nat) (cc : Int) (C : Option Addr) (k capC : Nat) : World :=
  ((w.alloc (.cells #[.int .i64 ca, .slice A n capA] 24)).alloc (.cells #[.int .i64 cb, .slice B m capB] 24)).alloc (.cells #[.int .i64 cc, .slice C k capC] 24)
structure L3 (w wi : World) (ca : Int) (A : Option Addr) (n capA : Nat) (cb : Int) (B : Option Addr) (m capB : Nat) (cc : Int) (C : Option Addr) (k capC : Nat) : Prop where
  a0 : wi.cell? ⟨w.heap.size, 0, none⟩ = some (.int .i64 ca)
  a1 : wi.cell? ⟨w.heap.size, 1, none⟩ = some (.slice A n capA)
  b0 : wi.cell? ⟨w.heap.size + 1, 0, none⟩ = some (.int .i64 cb)
  b1 : wi.cell? ⟨w.heap.size + 1, 1, none⟩ = some (.slice B m capB)
  c0 : wi.cell? ⟨w.heap.size + 2, 0, none⟩ = some (.int .i64 cc)
  c1 : wi.cell? ⟨w.heap.size + 2, 1, none⟩ = some (.slice C k capC)
  size : w.heap.size + 3 ≤ wi.heap.size
  bel : Below w.heap.size w wi
theorem L3.of {w wi : World} {ca cb cc : Int} {A B C : Option Addr} {n capA m capB k capC : Nat} (h : Below (w.heap.size + 3) (W3 w ca A n capA cb B m capB cc C k capC) wi) : L3 w wi ca A n capA cb B m capB cc C k capC where
  a0 := (h.cell (p := ⟨w.heap.size, 0, none⟩) (by simp)).trans (cell_alloc _ (cell_alloc _ (cell_new rfl _ _ _).1))
  a1 := (h.cell (p := ⟨w.heap.size, 1, none⟩) (by simp)).trans (cell_alloc _ (cell_alloc _ (cell_new rfl _ _ _).2))
  b0 := (h.cell (p := ⟨w.heap.size + 1, 0, none⟩) (by simp)).trans (cell_alloc _ (cell_new (by simp) _ _ _).1)
  b1 := (h.cell (p := ⟨w.heap.size + 1, 1, none⟩) (by simp)).trans (cell_alloc _ (cell_new (by simp) _ _ _).2)
  c0 := (h.cell (p := ⟨w.heap.size + 2, 0, none⟩) (by simp)).trans (cell_new (by simp) _ _ _).1
  c1 := (h.cell (p := ⟨w.heap.size + 2, 1, none⟩) (by simp)).trans (cell_new (by simp) _ _ _).2
  size := by simpa [W3] using h.size
  bel := ((((Below.refl _ w).alloc (Nat.le_refl _) _).alloc (by simp) _).alloc (by simp; omega) _).trans (h.mono (by omega))

set_option maxRecDepth 100000 in
set_option maxHeartbeats 8000000 in
theorem lattice_any (ca : Int) (A : Option Addr) (n capA : Nat) (la : List (Int × Int)) (cb : Int) (B : Option Addr) (m capB : Nat) (lb : List (Int × Int)) (cc : Int) (C : Option Addr) (k capC : Nat) (lc : List (Int × Int)) (w : World)
    (ha : PL w w.heap.size A n la) (hn : n ≤ capA) (hca : capA ≤ 9223372036854775807) (hA : A = none → capA = 0) (hb : PL w w.heap.size B m lb) (hm : m ≤ capB) (hcb : capB ≤ 9223372036854775807) (hB : B = none → capB = 0)
    (hc : PL w w.heap.size C k lc) (hk : k ≤ capC) (hcc : capC ≤ 9223372036854775807) (_hC : C = none → capC = 0) (hP : Pow w) :
    Calls Tryd.prog 9 #[.agg #[.int .i64 ca, .slice A n capA], .agg #[.int .i64 cb, .slice B m capB], .agg #[.int .i64 cc, .slice C k capC]] w fun e w' => e = .returned (.bool true) ∧ Below w.heap.size w w' := by
  have h0 : Below (w.heap.size + 3) (W3 w ca A n capA cb B m capB cc C k capC) (W3 w ca A n capA cb B m capB cc C k capC) := Below.refl _ _
  have hsz : (W3 w ca A n capA cb B m capB cc C k capC).heap.size = w.heap.size + 3 := by simp [W3]
  obtain ⟨W, hW⟩ : ∃ W, W = W3 w ca A n capA cb B m capB cc C k capC := ⟨_, rfl⟩
  rw [← hW] at h0 hsz
  have h3 : ∀ X, Below (w.heap.size + 3) W X → L3 w X ca A n capA cb B m capB cc C k capC := fun X hX => L3.of (by rw [← hW]; exact hX)
  have hva : ∀ X, Below (w.heap.size + 3) W X → Calls Tryd.prog 16 #[.agg #[.int .i64 ca, .slice A n capA]] X fun e w' => e = .returned (.bool (vld ca la)) ∧ Below (w.heap.size + 3) W w' := fun X hX =>
    (refValid_any ca A n capA la X (ha.lift (h3 X hX).bel) hn hca).mono fun e w' ⟨he, hb⟩ => ⟨he, hX.trans (hb.mono (h3 X hX).size)⟩
  have hvb : ∀ X, Below (w.heap.size + 3) W X → Calls Tryd.prog 16 #[.agg #[.int .i64 cb, .slice B m capB]] X fun e w' => e = .returned (.bool (vld cb lb)) ∧ Below (w.heap.size + 3) W w' := fun X hX =>
    (refValid_any cb B m capB lb X (hb.lift (h3 X hX).bel) hm hcb).mono fun e w' ⟨he, hb⟩ => ⟨he, hX.trans (hb.mono (h3 X hX).size)⟩
  have hvc : ∀ X, Below (w.heap.size + 3) W X → Calls Tryd.prog 16 #[.agg #[.int .i64 cc, .slice C k capC]] X fun e w' => e = .returned (.bool (vld cc lc)) ∧ Below (w.heap.size + 3) W w' := fun X hX =>
    (refValid_any cc C k capC lc X (hc.lift (h3 X hX).bel) hk hcc).mono fun e w' ⟨he, hb⟩ => ⟨he, hX.trans (hb.mono (h3 X hX).size)⟩
  have haw : ∀ X, Below (w.heap.size + 3) W X → Calls Tryd.prog 22 #[] X fun e w' => e = .returned (.bool true) ∧ Below (w.heap.size + 3) W w' := fun X hX =>
    (awake_any X (hP.below (h3 X hX).bel (.inl (Nat.le_refl _)))).mono fun e w' ⟨he, hb⟩ => ⟨he, hX.trans (hb.mono (h3 X hX).size)⟩
  have leq : ∀ (cx : Int) (D : Option Addr) (i capD : Nat) (lx : List (Int × Int)) (cy : Int) (E : Option Addr) (j capE : Nat) (ly : List (Int × Int)) (X : World), Below (w.heap.size + 3) W X → PL X X.heap.size D i lx → i ≤ capD → capD ≤ 9223372036854775807 → PL X X.heap.size E j ly → j ≤ capE → capE ≤ 9223372036854775807 → ∀ r, leqv cx lx cy ly = r →
      Calls Tryd.prog 29 #[.agg #[.int .i64 cx, .slice D i capD], .agg #[.int .i64 cy, .slice E j capE]] X fun e w' => e = .returned (.bool r) ∧ Below (w.heap.size + 3) W w' ∧ Below X.heap.size X w' := fun cx D i capD lx cy E j capE ly X hX h1 h2 h3' h4 h5 h6 r hr => by
    subst hr
    exact (leq_any cx D i capD lx cy E j capE ly X h1 h2 h3' h4 h5 h6).mono fun e w' ⟨he, hb⟩ => ⟨he, hX.trans (hb.mono (h3 X hX).size), hb⟩
  -- what each call returns, in every world that keeps the three boxes
  have haa := fun X hX r hr => leq ca A n capA la ca A n capA la X hX (ha.lift (h3 X hX).bel) hn hca (ha.lift (h3 X hX).bel) hn hca r hr
  have hab := fun X hX r hr => leq ca A n capA la cb B m capB lb X hX (ha.lift (h3 X hX).bel) hn hca (hb.lift (h3 X hX).bel) hm hcb r hr
  have hbc := fun X hX r hr => leq cb B m capB lb cc C k capC lc X hX (hb.lift (h3 X hX).bel) hm hcb (hc.lift (h3 X hX).bel) hk hcc r hr
  have hac := fun X hX r hr => leq ca A n capA la cc C k capC lc X hX (ha.lift (h3 X hX).bel) hn hca (hc.lift (h3 X hX).bel) hk hcc r hr
  have hxl := fun (cx : Int) (E : Option Addr) (j capE : Nat) (lx : List (Int × Int)) X hX (hE : PL X X.heap.size E j lx) (h1 : j ≤ capE) (h2 : capE ≤ 9223372036854775807) r hr => leq ca A n capA la cx E j capE lx X hX (ha.lift (h3 X hX).bel) hn hca hE h1 h2 r hr
  have hyl := fun (cx : Int) (E : Option Addr) (j capE : Nat) (lx : List (Int × Int)) X hX (hE : PL X X.heap.size E j lx) (h1 : j ≤ capE) (h2 : capE ≤ 9223372036854775807) r hr => leq cb B m capB lb cx E j capE lx X hX (hb.lift (h3 X hX).bel) hm hcb hE h1 h2 r hr
  have hzl := fun (cx : Int) (E : Option Addr) (j capE : Nat) (lx : List (Int × Int)) X hX (hE : PL X X.heap.size E j lx) (h1 : j ≤ capE) (h2 : capE ≤ 9223372036854775807) r hr => leq cx E j capE lx cc C k capC lc X hX hE h1 h2 (hc.lift (h3 X hX).bel) hk hcc r hr
  have hsl := fun (cx : Int) (E : Option Addr) (j capE : Nat) (lx : List (Int × Int)) X hX (hE : PL X X.heap.size E j lx) (h1 : j ≤ capE) (h2 : capE ≤ 9223372036854775807) r hr => leq cx E j capE lx ca A n capA la X hX hE h1 h2 (ha.lift (h3 X hX).bel) hn hca r hr
  have hmax := fun X (hX : Below (w.heap.size + 3) W X) => max_any ca A n capA la cb B m capB lb X (ha.lift (h3 X hX).bel) hn hca hA (hb.lift (h3 X hX).bel) hm hcb hB
  have hsuc := fun X (hX : Below (w.heap.size + 3) W X) => suc_any ca A n capA la X (ha.lift (h3 X hX).bel) hn hca
  have Haa := Lib.hid haa; have Hab := Lib.hid hab; have Hbc := Lib.hid hbc; have Hac := Lib.hid hac; have Hxl := Lib.hid hxl; have Hyl := Lib.hid hyl; have Hzl := Lib.hid hzl; have Hsl := Lib.hid hsl; have Hmax := Lib.hid hmax; have Hsuc := Lib.hid hsuc; have Haw := Lib.hid haw; have H3 := Lib.hid h3
  clear haa hab hbc hac hxl hyl hzl hsl hmax hsuc haw leq h3 hP ha hb hc
  have h30 := H3.out W h0
  have HW := Lib.hid hW
  have H0 := Lib.hid h0
  have Hva := Lib.hid hva; have Hvb := Lib.hid hvb; have Hvc := Lib.hid hvc
  clear hW hsz h0 hva hvb hvc
  go_enter Tryd.func9, Tryd.ntmps9
  go_upto_region 1 with fail
  rw [show ((w.alloc (.cells #[.int .i64 ca, .slice A n capA] 24)).alloc (.cells #[.int .i64 cb, .slice B m capB] 24)).alloc (.cells #[.int .i64 cc, .slice C k capC] 24) = W from HW.out.symm]
  clear HW
  go_cut [23] (fun c wx => Below (w.heap.size + 3) W wx ∧ (c = .bool true ∨ (c = .bool false ∧ vld ca la = true ∧ vld cb lb = true ∧ vld cc lc = true)))
  case first =>
    obtain ⟨f0, f1, f2, f3, f4, f5, _, f6⟩ := h30
    have h0 := H0.out
    have hva := Hva.out; have hvb := Hvb.out; have hvc := Hvc.out
    clear Hva Hvb Hvc
    cases va : vld ca la
    · rw [va] at hva
      have Hva := Lib.hid hva
      clear hva hvb hvc va
      go_wp2_with fail
      refine (Hva.out _ h0).mono ?_
      rintro e w1 ⟨rfl, hz⟩
      go_wp2_with fail
      go_meet
      exact ⟨hz, .inl rfl⟩
    have va' := va
    rw [va] at hva
    have Hva := Lib.hid hva
    clear hva va
    go_wp2_with fail
    refine (Hva.out _ h0).mono ?_
    rintro e w1 ⟨rfl, hz⟩
    clear f0 f1 f2 f3 f4 f5
    obtain ⟨g0, g1, g2, g3, g4, g5, _, _⟩ := H3.out _ hz
    cases vb : vld cb lb
    · rw [vb] at hvb
      have Hvb := Lib.hid hvb
      clear hvb hvc vb
      go_wp2_with fail
      refine (Hvb.out _ hz).mono ?_
      rintro e w2 ⟨rfl, hz2⟩
      go_wp2_with fail
      go_meet
      exact ⟨hz2, .inl rfl⟩
    have vb' := vb
    rw [vb] at hvb
    have Hvb := Lib.hid hvb
    clear hvb vb
    go_wp2_with fail
    refine (Hvb.out _ hz).mono ?_
    rintro e w2 ⟨rfl, hz2⟩
    clear g0 g1 g2 g3 g4 g5
    obtain ⟨k0, k1, k2, k3, k4, k5, _, _⟩ := H3.out _ hz2
    cases vc : vld cc lc
    · rw [vc] at hvc
      have Hvc := Lib.hid hvc
      clear hvc vc
      go_wp2_with fail
      refine (Hvc.out _ hz2).mono ?_
      rintro e w3 ⟨rfl, hz3⟩
      go_wp2_with fail
      go_meet
      exact ⟨hz3, .inl rfl⟩
    · have vc' := vc
      rw [vc] at hvc
      have Hvc := Lib.hid hvc
      clear hvc vc
      go_wp2_with fail
      refine (Hvc.out _ hz2).mono ?_
      rintro e w3 ⟨rfl, hz3⟩
      go_wp2_with fail
      go_meet
      exact ⟨hz3, .inr ⟨rfl, va', vb', vc'⟩⟩
  case rest =>
    clear Hva Hvb Hvc
    obtain ⟨hz, hc⟩ := hcut
    rcases hc with rfl | ⟨rfl, va, vb, vc⟩
    · go_wp2_with fail
      go_ret
      exact ⟨rfl, (H3.out _ hz).bel⟩
    rename_i w1
    have Va := Lib.hid va; have Vb := Lib.hid vb; have Vc := Lib.hid vc
    clear va vb vc h30
    -- the order goes on
    go_upto_region 3 with fail
    go_cut [43] (fun c wx => c = .bool false ∧ Below (w.heap.size + 3) W wx)
    case first =>
      obtain ⟨f0, f1, f2, f3, f4, f5, _, _⟩ := H3.out _ hz
      go_wp2_with fail
      refine (Haa.out _ hz true (leqv_refl Va.out)).mono ?_
      rintro e w2 ⟨rfl, hz2, _⟩
      clear f0 f1 f2 f3 f4 f5
      obtain ⟨f0, f1, f2, f3, f4, f5, _, _⟩ := H3.out _ hz2
      cases lab : leqv ca la cb lb
      · have Lab := Lib.hid lab; clear lab
        go_wp2_with fail
        refine (Hab.out _ hz2 false Lab.out).mono ?_
        rintro e w3 ⟨rfl, hz3, _⟩
        go_wp2_with fail
        go_meet
        exact ⟨rfl, hz3⟩
      have Lab := Lib.hid lab; clear lab
      go_wp2_with fail
      refine (Hab.out _ hz2 true Lab.out).mono ?_
      rintro e w3 ⟨rfl, hz3, _⟩
      clear f0 f1 f2 f3 f4 f5
      obtain ⟨f0, f1, f2, f3, f4, f5, _, _⟩ := H3.out _ hz3
      cases lbc : leqv cb lb cc lc
      · have Lbc := Lib.hid lbc; clear lbc
        go_wp2_with fail
        refine (Hbc.out _ hz3 false Lbc.out).mono ?_
        rintro e w4 ⟨rfl, hz4, _⟩
        go_wp2_with fail
        go_meet
        exact ⟨rfl, hz4⟩
      have Lbc := Lib.hid lbc; clear lbc
      go_wp2_with fail
      refine (Hbc.out _ hz3 true Lbc.out).mono ?_
      rintro e w4 ⟨rfl, hz4, _⟩
      clear f0 f1 f2 f3 f4 f5
      obtain ⟨f0, f1, f2, f3, f4, f5, _, _⟩ := H3.out _ hz4
      go_wp2_with fail
      refine (Hac.out _ hz4 true (leqv_trans Lab.out Lbc.out)).mono ?_
      rintro e w5 ⟨rfl, hz5, _⟩
      go_wp2_with fail
      go_meet
      exact ⟨rfl, hz5⟩
    case rest =>
    clear hz
    obtain ⟨rfl, hz⟩ := hcut
    rename_i w2
    -- the greatest of two
    obtain ⟨f0, f1, f2, f3, f4, f5, hs2, _⟩ := H3.out _ hz
    go_wp2_with fail
    refine (Hmax.out _ hz).mono ?_
    rintro e w3 ⟨v, rfl, ⟨E, j, capE, rfl, hPE, hj1, hj2, _⟩, hb3⟩
    have hz3 := hz.trans (hb3.mono hs2)
    have hz3s := (H3.out _ hz3).size
    clear f0 f1 f2 f3 f4 f5 hb3
    go_upto_if 51 with fail
    have hzX := hz3.alloc hz3s (.cells #[.int .i64 (mConst ca la cb lb), .slice E j capE] 24)
    have hcX := cell_new (X := w3) rfl (.int .i64 (mConst ca la cb lb)) (.slice E j capE) 24
    have hPX := hPE.lift ((Below.refl _ _).alloc (Nat.le_refl _) (.cells #[.int .i64 (mConst ca la cb lb), .slice E j capE] 24))
    have hlX : w3.heap.size < (w3.alloc (.cells #[.int .i64 (mConst ca la cb lb), .slice E j capE] 24)).heap.size := by simp
    generalize w3.alloc (.cells #[.int .i64 (mConst ca la cb lb), .slice E j capE] 24) = X at *
    have hM : ∀ Y, Below X.heap.size X Y → Y.cell? ⟨w3.heap.size, 0, none⟩ = some (.int .i64 (mConst ca la cb lb)) ∧ Y.cell? ⟨w3.heap.size, 1, none⟩ = some (.slice E j capE) ∧ PL Y Y.heap.size E j (mVars ca la cb lb) := fun Y hY =>
      ⟨(hY.cell (p := ⟨w3.heap.size, 0, none⟩) hlX).trans hcX.1, (hY.cell (p := ⟨w3.heap.size, 1, none⟩) hlX).trans hcX.2, hPX.lift hY⟩
    have HM := Lib.hid hM
    have Hlat : Hid (mErr ca la cb lb = 0 → _) := max_lat Va.out Vb.out
    clear hM hPX hcX hlX hPE hz3 hz3s hz hs2
    go_cut [8] (fun _ wx => Below (w.heap.size + 3) W wx)
    case first =>
      by_cases he : mErr ca la cb lb = 0
      · obtain ⟨l1, l2, l3⟩ := Hlat.out he
        rw [he]
        generalize mConst ca la cb lb = mc at *
        generalize mVars ca la cb lb = mv at *
        have L1 := Lib.hid l1; have L2 := Lib.hid l2; have L3' := Lib.hid l3
        clear l1 l2 l3 he Hlat
        go_upto_region 7 with fail
        go_cut [77] (fun c wx => c = .bool false ∧ Below (w.heap.size + 3) W wx)
        case first =>
          obtain ⟨f0, f1, f2, f3, f4, f5, _, _⟩ := H3.out _ hzX
          obtain ⟨m0, m1, m2⟩ := HM.out _ (Below.refl _ _)
          go_wp2_with fail
          refine (Hxl.out _ _ _ _ _ _ hzX m2 hj1 hj2 true L1.out).mono ?_
          rintro e w4 ⟨rfl, hz4, hy4⟩
          clear f0 f1 f2 f3 f4 f5 m0 m1 m2
          obtain ⟨f0, f1, f2, f3, f4, f5, _, _⟩ := H3.out _ hz4
          obtain ⟨m0, m1, m2⟩ := HM.out _ hy4
          go_wp2_with fail
          refine (Hyl.out _ _ _ _ _ _ hz4 m2 hj1 hj2 true L2.out).mono ?_
          rintro e w5 ⟨rfl, hz5, hy5⟩
          have hy5 := hy4.trans (hy5.mono hy4.size)
          clear f0 f1 f2 f3 f4 f5 m0 m1 m2
          obtain ⟨f0, f1, f2, f3, f4, f5, _, _⟩ := H3.out _ hz5
          cases lac : leqv ca la cc lc
          · have Lac := Lib.hid lac; clear lac
            go_wp2_with fail
            refine (Hac.out _ hz5 false Lac.out).mono ?_
            rintro e w6 ⟨rfl, hz6, _⟩
            go_wp2_with fail
            go_meet
            exact ⟨rfl, hz6⟩
          have Lac := Lib.hid lac; clear lac
          go_wp2_with fail
          refine (Hac.out _ hz5 true Lac.out).mono ?_
          rintro e w6 ⟨rfl, hz6, hy6⟩
          have hy6 := hy5.trans (hy6.mono hy5.size)
          clear f0 f1 f2 f3 f4 f5
          obtain ⟨f0, f1, f2, f3, f4, f5, _, _⟩ := H3.out _ hz6
          cases lbc : leqv cb lb cc lc
          · have Lbc := Lib.hid lbc; clear lbc
            go_wp2_with fail
            refine (Hbc.out _ hz6 false Lbc.out).mono ?_
            rintro e w7 ⟨rfl, hz7, _⟩
            go_wp2_with fail
            go_meet
            exact ⟨rfl, hz7⟩
          have Lbc := Lib.hid lbc; clear lbc
          go_wp2_with fail
          refine (Hbc.out _ hz6 true Lbc.out).mono ?_
          rintro e w7 ⟨rfl, hz7, hy7⟩
          have hy7 := hy6.trans (hy7.mono hy6.size)
          clear f0 f1 f2 f3 f4 f5
          obtain ⟨f0, f1, f2, f3, f4, f5, _, _⟩ := H3.out _ hz7
          obtain ⟨m0, m1, m2⟩ := HM.out _ hy7
          go_wp2_with fail
          refine (Hzl.out _ _ _ _ _ _ hz7 m2 hj1 hj2 true (L3'.out _ _ Lac.out Lbc.out)).mono ?_
          rintro e w8 ⟨rfl, hz8, _⟩
          go_wp2_with fail
          go_meet
          exact ⟨rfl, hz8⟩
        case rest =>
          obtain ⟨rfl, hz⟩ := hcut
          go_wp2_with fail
          go_meet
          exact hz
      · generalize mErr ca la cb lb = me at *
        have hq : (me == 0) = false := by simp [he]
        clear he Hlat
        go_wp2_with fail
        go_meet
        exact hzX
    case rest =>
    clear HM Hlat hzX
    have hz := hcut
    clear hcut
    -- one more
    obtain ⟨f0, f1, f2, f3, f4, f5, hs2, _⟩ := H3.out _ hz
    go_wp2_with fail
    refine (Hsuc.out _ hz).mono ?_
    rintro e w5 ⟨v, rfl, ⟨E, j, capE, rfl, hPE, hj1, hj2, _⟩, hb5⟩
    have hz5 := hz.trans (hb5.mono hs2)
    have hz5s := (H3.out _ hz5).size
    clear f0 f1 f2 f3 f4 f5 hb5
    go_upto_region 10 with fail
    have hzX := hz5.alloc hz5s (.cells #[.int .i64 (sConst ca la), .slice E j capE] 24)
    have hcX := cell_new (X := w5) rfl (.int .i64 (sConst ca la)) (.slice E j capE) 24
    have hPX := hPE.lift ((Below.refl _ _).alloc (Nat.le_refl _) (.cells #[.int .i64 (sConst ca la), .slice E j capE] 24))
    have hlX : w5.heap.size < (w5.alloc (.cells #[.int .i64 (sConst ca la), .slice E j capE] 24)).heap.size := by simp
    generalize w5.alloc (.cells #[.int .i64 (sConst ca la), .slice E j capE] 24) = X at *
    have hM : ∀ Y, Below X.heap.size X Y → Y.cell? ⟨w5.heap.size, 0, none⟩ = some (.int .i64 (sConst ca la)) ∧ Y.cell? ⟨w5.heap.size, 1, none⟩ = some (.slice E j capE) ∧ PL Y Y.heap.size E j (sVars ca la) := fun Y hY =>
      ⟨(hY.cell (p := ⟨w5.heap.size, 0, none⟩) hlX).trans hcX.1, (hY.cell (p := ⟨w5.heap.size, 1, none⟩) hlX).trans hcX.2, hPX.lift hY⟩
    have HM := Lib.hid hM
    have Hlat : Hid (sErr ca la = 0 → _) := suc_lat Va.out
    clear hM hPX hcX hlX hPE hz5 hz5s hz hs2
    by_cases he : sErr ca la = 0
    · obtain ⟨l1, l2⟩ := Hlat.out he
      rw [he]
      generalize sConst ca la = mc at *
      generalize sVars ca la = mv at *
      have L1 := Lib.hid l1; have L2 := Lib.hid l2
      clear l1 l2 he Hlat
      obtain ⟨f0, f1, f2, f3, f4, f5, _, _⟩ := H3.out _ hzX
      obtain ⟨m0, m1, m2⟩ := HM.out _ (Below.refl _ _)
      go_wp2_with fail
      refine (Hxl.out _ _ _ _ _ _ hzX m2 hj1 hj2 true L1.out).mono ?_
      rintro e w6 ⟨rfl, hz6, hy6⟩
      clear f0 f1 f2 f3 f4 f5 m0 m1 m2
      obtain ⟨f0, f1, f2, f3, f4, f5, _, _⟩ := H3.out _ hz6
      obtain ⟨m0, m1, m2⟩ := HM.out _ hy6
      go_wp2_with fail
      refine (Hsl.out _ _ _ _ _ _ hz6 m2 hj1 hj2 false L2.out).mono ?_
      rintro e w7 ⟨rfl, hz7, _⟩
      clear f0 f1 f2 f3 f4 f5 m0 m1 m2
      go_wp2_with fail
      refine (Haw.out _ hz7).mono ?_
      rintro e w8 ⟨rfl, hz8⟩
      go_wp2_with fail
      go_ret
      exact ⟨rfl, (H3.out _ hz8).bel⟩
    · generalize sErr ca la = me at *
      have hq : (me == 0) = false := by simp [he]
      clear he Hlat
      go_wp2_with fail
      refine (Haw.out _ hzX).mono ?_
      rintro e w7 ⟨rfl, hz7⟩
      go_wp2_with fail
      go_ret
      exact ⟨rfl, (H3.out _ hz7).bel⟩
end Go.Proofs.YtpahgbnfgnmlaaaDoor
