/-
  'Subst' of the reference: the same level and the same error as package level's, for every level and every list of levels.
-/
import Derived.Test.YtpahgbnfgnmlaaaDoorLvl
import Derived.Test.YtpahgbnfgnmlaaaDoorRMax
import Derived.Deep.RegionHeldLaw
import Derived.Deep.AppendLies
namespace Go.Proofs.YtpahgbnfgnmlaaaDoor
open Go Go.RowKit

theorem rl_of_none (x : Int × Int) : rl x.2 [(x.1, 0)] = [(x.1, x.2)] := by simp [rl]

set_option maxRecDepth 100000 in
set_option maxHeartbeats 8000000 in
theorem refSubst_any (c : Int) (A : Option Addr) (n cap : Nat) (l : List (Int × Int)) (D : Option Addr) (p capD : Nat) (ls : List (Int × List (Int × Int))) (w : World)
    (h : PL w w.heap.size A n l) (hn : n ≤ cap) (hm : cap ≤ 9223372036854775807) (hD : LvL w w.heap.size D p ls) (_hp : p ≤ 1000000) :
    Calls Tryd.prog 28 #[.agg #[.int .i64 c, .slice A n cap], .slice D p capD] w fun e w' => ∃ v, e = .returned (.tuple #[v, .int .i64 (uErr c l ls)]) ∧ LvRes w.heap.size w' v (uConst c l ls) (uVars c l ls) ∧ Below w.heap.size w w' := by
  have hb2 := B2.start w c A n cap
  have hv := refValid_any c A n cap l _ (h.lift hb2.bel) hn hm
  cases hvl : vld c l
  · obtain ⟨e1, e2, e3⟩ := u_not (c := c) (l := l) (b := ls) (fun h => by simp [hvl] at h)
    have Hr := Lib.hid e1; have Hcc := Lib.hid e2; have Hcv := Lib.hid e3; clear e1 e2 e3
    rw [hvl] at hv
    have Hv := Lib.hid hv; clear hv hvl
    go_enter Tryd.func28, Tryd.ntmps28
    go_wp2_with fail
    refine Hv.out.mono ?_
    rintro e w1 ⟨rfl, hb1⟩
    have hbx := hb2.go hb1
    obtain ⟨z0, z1, z2⟩ := hbx.put 0 (.slice none 0 0)
    have r0 := hbx.r0
    have r1 := hbx.r1
    have r2 := hbx.r2
    have r3 := hbx.r3
    go_wp2_with fail
    refine bodyPost_ret (v := .tuple #[.agg #[.int .i64 0, .slice none 0 0], .int .i64 4]) (by simp [results, Tryd.results28, go_sem, z0, z1]) rfl ?_
    exact ⟨.agg #[.int .i64 0, .slice none 0 0], by rw [Hr.out], ⟨none, 0, 0, by rw [Hcc.out], by rw [Hcv.out]; exact PL.nil_ _, Nat.le_refl _, Nat.zero_le _, fun _ _ e => by cases e⟩, z2⟩
  · have hlen : n ≤ 8 := by have := (vld_iff.1 hvl).len; have := h.1; omega
    have hc0 := vld_c hvl
    have Hmem : Hid (∀ (k : Nat) (x : Int × Int), l[k]? = some x → (0 ≤ x.1 ∧ x.1 ≤ 1199) ∧ 0 ≤ x.2 ∧ x.2 ≤ 1000) := fun k x hx => vld_mem hvl (List.mem_of_getElem? hx)
    have Hvl := Lib.hid hvl
    rw [hvl] at hv
    have Hv := Lib.hid hv; clear hv hvl
    go_enter Tryd.func28, Tryd.ntmps28
    go_wp2_with fail
    refine Hv.out.mono ?_
    rintro e w1 ⟨rfl, hb1⟩
    have hbx := hb2.go hb1
    have a0 := hbx.a0
    have a1 := hbx.a1
    clear Hv
    obtain ⟨i0, hi, hz0, hz1, hz2'⟩ := info_parts infoV
    go_wp2_with fail
    go_loopw [6, 7, 8] (fun cc v i wr => ∃ k : Nat, k ≤ n ∧ i = .int .i64 k ∧ cc = .int .i64 (rC ls c (l.take k)) ∧ sBad ls (l.take k) = false ∧ wr.ownsRow w1.heap.size 50 2 v (sL ls (l.take k)).length (flat2 (sL ls (l.take k))) ∧ Below w1.heap.size w1 wr) (fun _ _ i _ => n - (intOf i).toNat)
    case atStart => exact ⟨0, Nat.zero_le _, rfl, rfl, rfl, World.ownsRow_nil _ _ _ _, Below.refl _ _⟩
    case round =>
      obtain ⟨k, hk, rfl, rfl, hbad, hown, hbr⟩ := hrel
      have hbk := hbx.bel.trans (hbr.mono hbx.bel.size)
      have hsz := hbx.size
      have hszr := hbr.size
      have a1r := (hbr.cell (p := ⟨w.heap.size, 1, none⟩) (show w.heap.size < w1.heap.size by omega)).trans a1
      have hqlen : (sL ls (l.take k)).length ≤ 64 := by
        have := sL_len (l.take k) hbad
        rw [List.length_take] at this
        omega
      by_cases hlt : k < n
      · obtain ⟨b, off, x, rfl, hbl, hx, hx0, hx1⟩ := (h.below hbk).at_ hlt
        obtain ⟨q0, q1⟩ := Hmem.out k x hx
        obtain ⟨xv, xp⟩ := x
        simp only at hx0 hx1 q0 q1
        obtain ⟨kv, rfl⟩ : ∃ kv : Nat, xv = kv := ⟨xv.toNat, by omega⟩
        have hne : w.heap.size ≠ wr.heap.size := by omega
        have hne' : b ≠ wr.heap.size := by omega
        have Hst1 : Hid (rC ls c (l.take (k + 1)) = if (kv : Int) < (ls.length : Int) then max (rC ls c (l.take k)) ((sVal ls (kv : Int)).1 + xp) else rC ls c (l.take k)) := by rw [Hid, take_snoc hx, rC_snoc]
        have Hst2 : Hid (sL ls (l.take (k + 1)) = sL ls (l.take k) ++ rl xp (sVal ls (kv : Int)).2) := by rw [Hid, take_snoc hx, sL_snoc]
        have Hst3 : Hid (sBad ls (l.take (k + 1)) = (sBad ls (l.take k) || !vld (sVal ls (kv : Int)).1 (sVal ls (kv : Int)).2)) := by rw [Hid, take_snoc hx, sBad_snoc]
        have Hbd : Hid (vld (sVal ls (kv : Int)).1 (sVal ls (kv : Int)).2 = false → sBad ls l = true) := fun h => sBad_of hx h
        have hlsp := hD.1
        have hbX : Below wr.heap.size wr (wr.alloc (.cells #[.int .i64 (kv : Int), .int .i64 xp] 50)) := (Below.refl _ _).alloc (Nat.le_refl _) _
        have hcX := cell_new (X := wr) rfl (.int .i64 (kv : Int)) (.int .i64 xp) 50
        have hownX := own_below hown hbX
        have hlX : wr.heap.size < (wr.alloc (.cells #[.int .i64 (kv : Int), .int .i64 xp] 50)).heap.size := by simp
        go_upto_region 9 with fail
        generalize wr.alloc (.cells #[.int .i64 (kv : Int), .int .i64 xp] 50) = w2 at *
        obtain ⟨x20, x21⟩ := hcX
        have hb2' := hbr.trans (hbX.mono hbr.size)
        have hs2 := hb2'.size
        by_cases hkp : kv < p
        · -- a level of the list
          obtain ⟨D1, D2, pv, A2, m2, c2, rfl, hDl, hpv, d0, d1, hP2, hm2, hc2, hN2⟩ := (hD.below (hbx.bel.trans (hb2'.mono hbx.bel.size))).at_ hkp
          have hvv : sVal ls (kv : Int) = pv := sVal_some hpv
          have hlt' : (kv : Int) < (ls.length : Int) := by omega
          rw [hvv, if_pos hlt'] at Hst1
          rw [hvv] at Hst2 Hst3 Hbd
          have hge : ¬ (p : Int) ≤ (kv : Int) := by omega
          have hP2' := hP2.more (show w.heap.size ≤ w2.heap.size by have := hbk.size; omega)
          obtain ⟨pc, pl⟩ := pv
          simp only at d0 d1 hP2' Hst1 Hst2 Hst3 Hbd
          clear hP2 hvv
          have hva := refValid_any pc A2 m2 c2 pl w2 hP2' hm2 hc2
          cases hv2 : vld pc pl
          · obtain ⟨e1, e2, e3⟩ := u_not (c := c) (l := l) (b := ls) (fun h => by rw [Hbd.out hv2] at h; exact absurd h.2 (by decide))
            have Hr := Lib.hid e1; have Hcc := Lib.hid e2; have Hcv := Lib.hid e3; clear e1 e2 e3
            rw [hv2] at hva
            have Hva := Lib.hid hva; clear hva hv2 Hst1 Hst2 Hst3 Hbd
            go_wp2_with fail
            refine Hva.out.mono ?_
            rintro e w5 ⟨rfl, hb5⟩
            have hs5 := hbx.go (hb2'.trans (hb5.mono hs2))
            obtain ⟨z0, z1, z2⟩ := hs5.put 0 (.slice none 0 0)
            have r0 := hs5.r0
            have r1 := hs5.r1
            have r2 := hs5.r2
            have r3 := hs5.r3
            clear d0 d1 x20 x21
            go_wp2_with fail
            refine bodyPost_ret (v := .tuple #[.agg #[.int .i64 0, .slice none 0 0], .int .i64 4]) (by simp [results, Tryd.results28, go_sem, z0, z1]) rfl ?_
            exact ⟨.agg #[.int .i64 0, .slice none 0 0], by rw [Hr.out], ⟨none, 0, 0, by rw [Hcc.out], by rw [Hcv.out]; exact PL.nil_ _, Nat.le_refl _, Nat.zero_le _, fun _ _ e => by cases e⟩, z2⟩
          · have hpl8 : pl.length ≤ 8 := (vld_iff.1 hv2).len
            have hpc := vld_c hv2
            have Hpx := Lib.hid (vld_plus hv2)
            have hbad' : sBad ls (l.take (k + 1)) = false := by rw [Hst3.out, hbad, hv2]; rfl
            have Hbad' := Lib.hid hbad'
            rw [hv2] at hva
            have Hva := Lib.hid hva; clear hva hv2 Hst3 Hbd hbad hbad'
            generalize sL ls (l.take k) = q at *
            generalize rC ls c (l.take k) = C at *
            obtain ⟨A', c', rfl, _, _, _, _⟩ := PL.of_own hownX
            go_wp2_with fail
            refine Hva.out.mono ?_
            rintro e w3 ⟨rfl, hb3⟩
            have hb31 := hb2'.trans (hb3.mono hs2)
            have hs3 := hb3.size
            have x30 := (hb3.cell (p := ⟨wr.heap.size, 0, none⟩) hlX).trans x20
            have x31 := (hb3.cell (p := ⟨wr.heap.size, 1, none⟩) hlX).trans x21
            have d30 := (hb3.cell (p := ⟨D1, D2 + kv * 2, none⟩) (show D1 < w2.heap.size by omega)).trans d0
            have d31 := (hb3.cell (p := ⟨D1, D2 + kv * 2 + 1, none⟩) (show D1 < w2.heap.size by omega)).trans d1
            have hown3 := own_below hownX hb3
            have hP3 := hP2'.lift hb3
            clear x20 x21 d0 d1 hownX hP2' Hva
            have hwr : Hid (IntKind.i64.wrap (pc + xp) = pc + xp) := IntWalk.i64_in _ (by omega)
            go_upto_region 13 with fail
            go_quiet (fail)
            go_upto_region 14 with fail
            have hb4 : Below w3.heap.size w3 (w3.drewN nq) := below_drewN (Below.refl _ _) nq
            generalize w3.drewN nq = w4 at hb4 ⊢
            clear hwr
            have hql : (rl xp pl).length ≤ 8 := by rw [rl_len]; exact hpl8
            have hma : ∀ Y, Below w3.heap.size w3 Y → Calls Tryd.prog 46 #[.agg #[.int .i64 pc, .slice A2 m2 c2], .int .i64 xp] Y fun e w' =>
                ∃ E k2, e = .returned (.slice E (rl xp pl).length k2) ∧ (E = none → (rl xp pl).length = 0 ∧ k2 = 0) ∧ PL w' w'.heap.size E (rl xp pl).length (rl xp pl) ∧ Below Y.heap.size Y w' ∧ Below w3.heap.size w3 w' := fun Y hY =>
              (more_any pc A2 m2 c2 pl xp Y (hP3.lift hY) (by have := hP3.1; omega) q1.1 q1.2 Hpx.out).mono fun e w' ⟨v, he, hownm, hbb⟩ => by
                have hown' := hownm
                obtain ⟨E, k2, rfl, _, _, hP, _⟩ := PL.of_own hownm
                refine ⟨E, k2, he, fun hE => ?_, hP, hbb, hY.trans (hbb.mono hY.size)⟩
                subst hE
                rcases hown'.2 with ⟨h1, h2⟩ | ⟨g, cap, cur, h1, _⟩
                · injection h1 with _ h3 h4
                  exact ⟨h2, h4⟩
                · cases h1
            have Happ : Hid (flat2 q ++ flat2 (rl xp pl) = flat2 (q ++ rl xp pl)) := (flat2_app _ _).symm
            have Hlen : Hid (q.length + (rl xp pl).length = (q ++ rl xp pl).length) := List.length_append.symm
            generalize rl xp pl = r at *
            have Hma := Lib.hid hma; clear hma
            have hS : ∀ Y, Below w3.heap.size w3 Y → Y.cell? ⟨wr.heap.size, 0, none⟩ = some (.int .i64 kv) ∧ Y.cell? ⟨wr.heap.size, 1, none⟩ = some (.int .i64 xp) ∧ Y.cell? ⟨D1, D2 + kv * 2, none⟩ = some (.int .i64 pc) ∧ Y.cell? ⟨D1, D2 + kv * 2 + 1, none⟩ = some (.slice A2 m2 c2) := fun Y hY =>
              ⟨(hY.cell (p := ⟨wr.heap.size, 0, none⟩) (show wr.heap.size < w3.heap.size by omega)).trans x30, (hY.cell (p := ⟨wr.heap.size, 1, none⟩) (show wr.heap.size < w3.heap.size by omega)).trans x31, (hY.cell (p := ⟨D1, D2 + kv * 2, none⟩) (show D1 < w3.heap.size by omega)).trans d30, (hY.cell (p := ⟨D1, D2 + kv * 2 + 1, none⟩) (show D1 < w3.heap.size by omega)).trans d31⟩
            have HS := Lib.hid hS; clear hS
            have hzz : Below w3.heap.size w3 w4.drew := hb4.drew
            have hown4 := own_below hown3 hzz
            clear x30 x31 d30 d31 hP3 hpc Hpx hb3
            have hs31 := hb31.size
            have hrow : ∀ j, (Value.slice A' q.length c').ownBlock = some j → w1.heap.size ≤ j ∧ j < wr.heap.size := hown.lt
            go_region_held_law (fun w' => w'.cell? ⟨wr.heap.size, 0, none⟩ = some (.int .i64 kv) ∧ w'.cell? ⟨wr.heap.size, 1, none⟩ = some (.int .i64 xp) ∧ w'.cell? ⟨D1, D2 + kv * 2, none⟩ = some (.int .i64 pc) ∧ w'.cell? ⟨D1, D2 + kv * 2 + 1, none⟩ = some (.slice A2 m2 c2))
              (first | exact ⟨y0, y1, y2, y3⟩ | exact HS.out _ hz6 | exact HS.out _ hzz)
              (first
                | (go_at_call 46; refine (Hma.out _ hzz).mono ?_; rintro e w6 ⟨E, k2, rfl, hN6, hP6, hst6, hz6⟩; have hown6 := own_below hown4 hst6)
                | (refine step_append_any rfl (.tmp 56) (.tmp 64) 22 rfl w1.heap.size 50 i0 (.agg #[.int .i64 0, .int .i64 0]) 2 16 Tryd.underlying22 hi hz0 hz1 hz2' rfl (by decide) (.slice A' q.length c') q.length (flat2 q) rfl hown6 _ r.length _ (flat2 r) rfl hN6 (by rw [flat2_len]) (fun ad e => by subst e; exact hP6.cells) (flat2_one_cell r) (by unfold maxLen; omega) (by omega) (by have := hz6.size; omega) ?_; intro v7 w7 hown7 hgrow7; have hz7 : Below w1.heap.size w1 w7 := (hb31.trans (hz6.mono hs31)).grown hgrow7 (by have := hz6.size; omega) (fun j hj => (hown6.lt j hj).1); have far : ∀ (g i : Nat), g < w6.heap.size → (g < w1.heap.size ∨ wr.heap.size ≤ g) → w7.cell? ⟨g, i, none⟩ = w6.cell? ⟨g, i, none⟩ := (fun g i h1 h2 => hgrow7.cell_far ⟨g, i, none⟩ h1 (fun e => by have hr : w1.heap.size ≤ g ∧ g < wr.heap.size := hrow g e.symm; omega)); obtain ⟨y0, y1, y2, y3⟩ := HS.out _ hz6; have hs6 := hz6.size; have y0 := (far wr.heap.size 0 (by omega) (by omega)).trans y0; have y1 := (far wr.heap.size 1 (by omega) (by omega)).trans y1; have y2 := (far D1 (D2 + kv * 2) (by omega) (by omega)).trans y2; have y3 := (far D1 (D2 + kv * 2 + 1) (by omega) (by omega)).trans y3))
            all_goals
              go_wp2_with fail
              go_roundw
              case rel => exact ⟨k + 1, by omega, by go_num, by rw [Hst1.out], Hbad'.out, by rw [Hst2.out, ← Happ.out, ← Hlen.out]; exact hown7, hz7⟩
              case measure => simp [intOf]; omega
        · -- the variable itself
          have hvv : sVal ls (kv : Int) = (0, [((kv : Int), 0)]) := sVal_none (by omega)
          have hlt' : ¬ (kv : Int) < (ls.length : Int) := by omega
          rw [hvv, if_neg hlt'] at Hst1
          rw [hvv, show rl xp [((kv : Int), (0 : Int))] = [((kv : Int), xp)] from rl_of_none ((kv : Int), xp)] at Hst2
          have hbad' : sBad ls (l.take (k + 1)) = false := by
            rw [Hst3.out, hbad, hvv, vld_of ⟨Int.le_refl _, by simp, by simp, fun i y hi hy => ?_⟩]
            · rfl
            · have : i = 0 := by simp at hi; omega
              subst this
              simp at hy
              subst hy
              exact ⟨⟨by simp only; omega, by simp only; omega⟩, ⟨by simp, by simp⟩, rfl⟩
          have Hbad' := Lib.hid hbad'
          have hge : (p : Int) ≤ (kv : Int) := by omega
          clear Hst3 Hbd hvv hlt' hbad hbad'
          generalize sL ls (l.take k) = q at *
          obtain ⟨A', c', rfl, _, _, _, _⟩ := PL.of_own hownX
          go_wp2_with (at_builtin; refine wpList_append_own _ rfl _ _ 22 rfl w1.heap.size 50 i0 (.agg #[.int .i64 0, .int .i64 0]) 2 16 Tryd.underlying22 hi hz0 hz1 hz2' rfl (by decide) _ q.length (flat2 q) rfl (hownX.alloc _) _ 1 1 [.int .i64 (kv : Int), .int .i64 xp] rfl rfl (news2' (x := ((kv : Int), xp)) (by simp)) (news2_one (x := ((kv : Int), xp))) (by unfold maxLen; omega) (by omega) (by simp; omega) ?_)
          intro v' w5 hown5 hgrow _
          have hb5 : Below w1.heap.size w1 w5 := (hb2'.alloc (by omega) _).grown hgrow (by simp; omega) (fun j hj => (hownX.lt j hj).1)
          go_wp2_with fail
          go_roundw
          case rel => exact ⟨k + 1, by omega, by go_num, by rw [Hst1.out], Hbad'.out, by rw [Hst2.out, List.length_append, flat2_app, flat2_one]; exact hown5, hb5⟩
          case measure => simp [intOf]; omega
      · have hfull : l.take k = l := List.take_of_length_le (by have := h.1; omega)
        rw [hfull] at hbad hown hqlen ⊢
        clear hfull
        obtain ⟨e1, e2, e3⟩ := u_yes (c := c) (l := l) (b := ls) ⟨Hvl.out, hbad⟩
        have hle := rC_le (b := ls) (c := c) l (fun x hx => (vld_mem Hvl.out hx).1.1)
        obtain ⟨g1, g2, g3⟩ := canon_same hle.1 hle.2
        have Hr := Lib.hid (e1.trans g1); have Hcc := Lib.hid (e2.trans g2); have Hcv := Lib.hid (e3.trans g3); clear e1 e2 e3 g1 g2 g3 hle
        have hc00 := rC_nn (b := ls) hc0.1 l
        generalize rC ls c l = C at *
        generalize sL ls l = q at *
        obtain ⟨A', c', rfl, _, _, hPq, _⟩ := PL.of_own hown
        have hcan := Lib.hid (refCanonical_any C A' q.length c' q wr hPq (by omega) hc00)
        have hby := hbx.go hbr
        clear hbad hown hbr hbx
        go_wp2_with fail
        refine hcan.out.mono ?_
        rintro e w2 ⟨v, rfl, ⟨A2, m2, c2, rfl, hP2, hm2, hc2, hA2⟩, hb3⟩
        have hbz := hby.go hb3
        have hm8 : m2 ≤ 1000000 := by have := hP2.1; have := canonV_len q; omega
        have hfit := Lib.hid (fits_any (if C ≤ gplus (canonV q) then 0 else C) A2 m2 c2 (canonV q) w2 hP2 hm8)
        have Hfl : Hid _ := fun w3 (hb : Below w2.heap.size w2 w3) => fits_lv (c := C) (l := q) (A := A2) (n := m2) (cap := c2) (B := wr.heap.size) (hP2.lift hb) hm2 hc2 hA2
        have Hfe := Lib.hid (fits_canon (c := C) (l := q) A2 m2 c2).1
        clear hcan a1r
        generalize (if C ≤ gplus (canonV q) then 0 else C) = d at hfit Hfl Hfe ⊢
        go_wp2_with fail
        refine hfit.out.mono ?_
        rintro e w3 ⟨rfl, hb4⟩
        obtain ⟨F, m, k3, hfv, hPC, hmk, hk3, hC⟩ := Hfl.out w3 hb4
        have hbt := hbz.go hb4
        rw [hfv, Hfe.out]
        clear hfit Hfl Hfe hfv
        obtain ⟨z0, z1, z2⟩ := hbt.put (cConst C q) (.slice F m k3)
        have r0 := hbt.r0
        have r1 := hbt.r1
        have r2 := hbt.r2
        have r3 := hbt.r3
        go_wp2_with fail
        refine bodyPost_ret (v := .tuple #[.agg #[.int .i64 (cConst C q), .slice F m k3], .int .i64 (cErr C q)]) (by simp [results, Tryd.results28, go_sem, z0, z1]) rfl ?_
        refine ⟨.agg #[.int .i64 (cConst C q), .slice F m k3], by rw [Hr.out], ⟨F, m, k3, by rw [Hcc.out], ?_, hmk, hk3, fun b off e => by have := hC b off e; omega⟩, z2⟩
        rw [Hcv.out]
        exact hPC.set2 _ _ (fun b off e => by have := hC b off e; omega) (by simp)
end Go.Proofs.YtpahgbnfgnmlaaaDoor
