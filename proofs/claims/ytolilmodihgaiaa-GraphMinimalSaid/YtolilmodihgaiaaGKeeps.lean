/-
  The law GraphKeeps.
-/
import Derived.Test.YtolilmodihgaiaaGMin
import Derived.Test.YtolilmodihgaiaaGMore
namespace Go.Proofs.Ytolilmodihgaiaa
open Go Go.RowKit

theorem mLeft_all {n : Nat} {cs : List LCn} {y : Nat → Int} : Sat (fun e => e ∈ esA n (pick cs (mLeft n cs cs.length))) y ↔ Sat (fun e => e ∈ esA n cs) y := by
  have h := mLeft_sat (n := n) (cs := cs) (y := y) (m := cs.length) (Nat.le_refl _)
  rw [Nat.sub_self] at h
  exact h
theorem pick_gvld {v : Int} {cs : List LCn} {l : List Nat} (hg : gvld v cs = true) (hl : l.length ≤ 3000) : gvld v (pick cs l) = true := by
  have hlen : (pick cs l).length ≤ l.length := List.length_filterMap_le _ _
  have h2 := hg
  unfold gvld at h2 ⊢
  rw [Bool.and_eq_true, decide_eq_true_eq] at h2
  rw [Bool.and_eq_true, decide_eq_true_eq]
  refine ⟨by omega, List.all_eq_true.2 fun c hc => ?_⟩
  obtain ⟨i, _, hi⟩ := pick_mem.1 hc
  exact List.all_eq_true.1 h2.2 c (List.mem_of_getElem? hi)
/-- systems that say the same have the same least numbers -/
theorem lst_same {n : Nat} {cs ds : List LCn} {xs zs : List Int} (hx : Lst (fun e => e ∈ esA n cs) (gx xs)) (hz : Lst (fun e => e ∈ esA n ds) (gx zs)) (h : ∀ y, Sat (fun e => e ∈ esA n cs) y ↔ Sat (fun e => e ∈ esA n ds) y) : solL n xs = solL n zs := by
  have hv : ∀ v, gx xs v = gx zs v := fun v => by
    have h1 := hx.least _ ((h _).2 hz.sat) hz.nn v
    have h2 := hz.least _ ((h _).1 hx.sat) hx.nn v
    omega
  unfold solL
  refine List.map_congr_left fun v _ => ?_
  rw [hv, hv]
/-- a constraint of the whole system follows from what is left -/
theorem fol_left {n : Nat} {cs ds : List LCn} {k : Nat} {x : LCn} (hg : gvld (n : Int) cs = true) (hd : gvld (n : Int) ds = true) (hdl : ds.length ≤ 2000) (hx : cs[k]? = some x) (h : ∀ y, Sat (fun e => e ∈ esA n ds) y → Sat (fun e => e ∈ esA n cs) y) : folV (n : Int) ds x = true ∧ folC (n : Int) ds x = 0 := by
  have hco : conB (n : Int) x = true := by
    have h1 := hg
    unfold gvld at h1
    rw [Bool.and_eq_true] at h1
    exact List.all_eq_true.1 h1.2 x (List.mem_of_getElem? hx)
  have hok : folOk (n : Int) ds x = true := by unfold folOk; rw [hd, hco, decide_eq_true (by omega)]; rfl
  obtain ⟨e1, e2⟩ := folOk_true hok
  refine ⟨?_, e2⟩
  rw [e1, Int.toNat_natCast]
  exact folB_iff.2 fun y hy => (sat_es.1 (h y hy)).2 x (List.mem_of_getElem? hx)

set_option maxRecDepth 100000 in
set_option maxHeartbeats 8000000 in
theorem lawKeeps_any (v : Int) (A : Option Addr) (K cap : Nat) (cs : List LCn) (w : World) (h : CL w w.heap.size A K cs) (hK : K ≤ 9223372036854775807) :
    Calls Try.prog 6 #[.int .i64 v, .slice A K cap] w fun e w' => e = .returned (.bool true) ∧ Below w.heap.size w w' := by
  have hh := heavy_any v 40 A K cap cs w h hK
  cases hb : heavyB v 40 cs
  · rw [hb] at hh
    have hl := heavyB_len hb
    have hK2 : K ≤ 40 := by have := h.1; omega
    have Hh := Lib.hid hh
    have hMi := Lib.hid (minimal_any v A K cap cs w h hK)
    clear hh hl hb
    go_enter Try.func6, Try.ntmps6
    go_wp2_with fail
    refine Hh.out.mono ?_
    rintro e w1 ⟨rfl, rfl⟩
    go_wp2_with fail
    refine hMi.out.mono ?_
    rintro e w2 ⟨hb2, hr⟩
    rcases hr with ⟨hg, rfl⟩ | ⟨hg, h200, rfl⟩ | ⟨hg, _, n, rfl, ⟨rfl, hno⟩ | ⟨hex, u, rfl, hown⟩⟩
    · clear hg
      go_wp2_with fail
      refine (awake_any _).mono ?_
      rintro e w3 ⟨rfl, hb3⟩
      go_wp2_with fail
      go_ret
      exact ⟨rfl, hb2.trans (hb3.mono hb2.size)⟩
    · clear hg
      go_wp2_with fail
      refine (awake_any _).mono ?_
      rintro e w3 ⟨rfl, hb3⟩
      go_wp2_with fail
      go_ret
      exact ⟨rfl, hb2.trans (hb3.mono hb2.size)⟩
    · clear hg hno
      go_wp2_with fail
      refine (awake_any _).mono ?_
      rintro e w3 ⟨rfl, hb3⟩
      go_wp2_with fail
      go_ret
      exact ⟨rfl, hb2.trans (hb3.mono hb2.size)⟩
    · have hlen : cs.length = K := h.1
      obtain ⟨n', hn', f1, _, f3⟩ := gvld_parts hg
      obtain rfl : n = n' := by omega
      have hsat := Lib.hid (fun y => mLeft_all (n := n) (cs := cs) (y := y))
      have hbd := mLeft_in (n := n) (cs := cs) (m := cs.length) (Nat.le_refl _)
      have hso := mLeft_sorted (n := n) (cs := cs) (m := cs.length) (Nat.le_refl _)
      have hll := mLeft_len (n := n) (cs := cs) (m := cs.length)
      have hmin : minL n cs = castL (mLeft n cs cs.length) := rfl
      rw [hmin] at hown
      rw [castL_len] at hown
      obtain ⟨A1, c1, rfl, hI⟩ := il_own hown
      generalize mLeft n cs cs.length = ls at *
      have Hbd : Hid (∀ i ∈ ls, i < K) := fun i hi => by have := (hbd i hi).2; omega
      have Hso := Lib.hid hso
      have Hg := Lib.hid hg
      have Hlen := Lib.hid hlen
      have Hcs := Lib.hid f3
      have Hex := Lib.hid hex
      obtain ⟨i0, hi, hz0, hz1, hz2⟩ := info_parts infoC
      obtain ⟨z, hz⟩ : ∃ z, ls.length = z := ⟨_, rfl⟩
      rw [hz] at hI hll
      have Hz := Lib.hid hz
      have hz40 : z ≤ 40 := by omega
      clear hown hmin hbd hso hg hlen f3 hex hz hll hn'
      rw [Hz.out]
      go_wp2_with fail
      go_loopw [7, 8] (fun t i wr => ∃ j : Nat, j ≤ z ∧ i = .int .i64 j ∧ ∃ (A' : Option Addr) (n' c' : Nat) (xs : List Value), t = .slice A' n' c' ∧ wr.ownsRow w2.heap.size 37 4 (.slice A' n' c') j xs ∧ CV wr w1.heap.size xs (pick cs (ls.take j)) ∧ Below w2.heap.size w2 wr) (fun _ i _ => z - (intOf i).toNat)
      case atStart => exact ⟨0, Nat.zero_le _, rfl, none, 0, 0, [], rfl, World.ownsRow_nil _ _ _ _, CV.nil _ _, Below.refl _ _⟩
      case round =>
        obtain ⟨j, hj, rfl, A', n', c', xs, rfl, hown, hcv, hbr⟩ := hrel
        have hbw := hb2.trans (hbr.mono hb2.size)
        by_cases hlt : j < z
        · obtain ⟨k, hk⟩ : ∃ k, ls[j]? = some k := ⟨_, List.getElem?_eq_getElem (by have := Hz.out; omega)⟩
          have hkK := Hbd.out k (List.mem_of_getElem? hk)
          obtain ⟨b1, o1, x1, rfl, hbl1, hx1, y1⟩ := (hI.below hbr).at_ hlt
          obtain rfl : x1 = (k : Int) := by
            simp [castL, hk] at hx1
            exact hx1.symm
          obtain ⟨b, off, x, D1, k1, e1, D2, k2, e2, rfl, hbl, hx, g0, g1, g2, g3, px, py, s1, t1, s2, t2⟩ := (h.below hbw).at_ hkK
          have Hst : Hid (pick cs (ls.take (j + 1)) = pick cs (ls.take j) ++ [x]) := by rw [Hid, take_snoc hk, pick_app, pick_one hx]
          have hcv1 := hcv.append (CV.one (w := wr) (B := w1.heap.size) (c := x) ⟨D1, k1, e1, rfl, px, s1, t1⟩ ⟨D2, k2, e2, rfl, py, s2, t2⟩)
          rw [← Hst.out] at hcv1
          have hone := (CV.one (w := wr) (B := w1.heap.size) (c := x) ⟨D1, k1, e1, rfl, px, s1, t1⟩ ⟨D2, k2, e2, rfl, py, s2, t2⟩).oneCell
          have hone' : ∀ u ∈ conV x D1 k1 e1 D2 k2 e2, u.oneCell' = true := hone
          have hki : ¬ (k : Int) < 0 := by omega
          have hki2 : ¬ (K : Int) ≤ (k : Int) := by omega
          have hki3 : (k : Int) < (K : Int) := by omega
          have hownX : ∀ W, Below wr.heap.size wr W → W.ownsRow w2.heap.size 37 4 (.slice A' n' c') j xs := fun W hW => own_below hown hW
          have hszr := hbr.size
          have hbb : b < wr.heap.size := by have := hbw.size; omega
          have hbb1 : b1 < wr.heap.size := by omega
          have hHc : Hid (∀ W, Below wr.heap.size wr W → W.cell? ⟨b, off + k * 4, none⟩ = some (.int .i64 x.1.1) ∧ W.cell? ⟨b, off + k * 4 + 1, none⟩ = some (.slice D1 k1 e1) ∧ W.cell? ⟨b, off + k * 4 + 2, none⟩ = some (.int .i64 x.2.1) ∧ W.cell? ⟨b, off + k * 4 + 3, none⟩ = some (.slice D2 k2 e2) ∧ W.cell? ⟨b1, o1 + j, none⟩ = some (.int .i64 k)) := fun W hW =>
            ⟨(hW.cell (p := ⟨b, _, none⟩) hbb).trans g0, (hW.cell (p := ⟨b, _, none⟩) hbb).trans g1, (hW.cell (p := ⟨b, _, none⟩) hbb).trans g2, (hW.cell (p := ⟨b, _, none⟩) hbb).trans g3, (hW.cell (p := ⟨b1, _, none⟩) hbb1).trans y1⟩
          have hprev : Hid (∀ p, j = p + 1 → ∃ kp : Nat, kp < k ∧ wr.cell? ⟨b1, o1 + p, none⟩ = some (.int .i64 kp)) := fun p hp => by
            obtain ⟨kp, hkp⟩ : ∃ kp, ls[p]? = some kp := ⟨_, List.getElem?_eq_getElem (by have := Hz.out; omega)⟩
            obtain ⟨b2, o2, x2, e9, _, hx2, y2⟩ := (hI.below hbr).at_ (show p < z by omega)
            cases e9
            obtain rfl : x2 = (kp : Int) := by
              simp [castL, hkp] at hx2
              exact hx2.symm
            refine ⟨kp, ?_, y2⟩
            have h8 := List.pairwise_iff_getElem.1 Hso.out p j (by have := (List.getElem?_eq_some_iff.1 hkp).1; omega) (by have := (List.getElem?_eq_some_iff.1 hk).1; omega) (by omega)
            rw [(List.getElem?_eq_some_iff.1 hkp).2, (List.getElem?_eq_some_iff.1 hk).2] at h8
            exact h8
          clear hk hx hx1 px py hone hcv
          go_upto_region 10 with fail
          go_cut [64] (fun t wx => t = .bool false ∧ Below wr.heap.size wr wx)
          case first =>
            by_cases hj0 : j = 0
            · subst hj0
              have y1' : wr.cell? ⟨b1, o1, none⟩ = some (.int .i64 k) := by simpa using y1
              have hz0 : (0 : Int) < (z : Int) := by omega
              go_quiet (fail)
              go_wp2_with fail
              go_meet
              exact ⟨rfl, below_drewN (Below.refl _ _) _⟩
            · obtain ⟨p, rfl⟩ : ∃ p, j = p + 1 := ⟨j - 1, by omega⟩
              obtain ⟨kp, hkp, y2⟩ := hprev.out p rfl
              have j1 : (0 : Int) < ((p + 1 : Nat) : Int) := by omega
              have j2 : ((p + 1 : Nat) : Int) - 1 = (p : Int) := by omega
              have j3 : (p : Int) < (z : Int) := by omega
              have j4 : (p : Int) + 1 < (z : Int) := by omega
              have j5 : ¬ (k : Int) ≤ (kp : Int) := by omega
              have j6 : (0 : Int) < (p : Int) + 1 := by omega
              go_quiet (fail)
              go_wp2_with fail
              go_meet
              exact ⟨rfl, below_drewN (Below.refl _ _) _⟩
          case rest =>
            obtain ⟨rfl, hbc⟩ := hcut
            clear g0 g1 g2 g3 y1
            obtain ⟨g0, g1, g2, g3, y1⟩ := hHc.out _ hbc
            have hown2 := hownX _ hbc
            have hcv2 := hcv1.below (hbc.mono hbw.size)
            have hbr2 := hbr.trans (hbc.mono hszr)
            have hszc := hbr2.size
            clear hownX hHc hcv1
            go_wp2_with (at_builtin; refine wpList_append_own _ rfl _ _ 22 rfl w2.heap.size 37 i0 (.agg #[.int .i64 0, .slice none 0 0, .int .i64 0, .slice none 0 0]) 4 64 Try.underlying22 hi hz0 hz1 hz2 rfl (by decide) _ j xs rfl (own_below hown2 ((Below.refl _ _).alloc (Nat.le_refl _) _)) _ 1 1 (conV x D1 k1 e1 D2 k2 e2) rfl rfl (news4c rfl) hone' (by unfold maxLen; omega) (by omega) (by simp; omega) ?_)
            intro v6 w6 hown6 hgrow6 _
            have hb6 : Below w2.heap.size wc w6 := ((Below.refl _ wc).alloc (by omega) _).grown hgrow6 (by simp; omega) (fun j hj => (hown2.lt j hj).1)
            have hbr6 := hbr2.trans hb6
            have hcv6 := hcv2.below (hb6.mono hb2.size)
            obtain ⟨A7, c7, rfl, _, _, _⟩ := CL.of_own hown6 hcv6 (by have := hbr6.size; have := hb2.size; omega)
            go_wp2_with fail
            go_roundw
            case rel => exact ⟨j + 1, by omega, by go_num, A7, _, c7, _, rfl, hown6, hcv6, hbr6⟩
            case measure => simp [intOf]; omega
        · have hjz : j = z := by omega
          have hji : ¬ (j : Int) < (z : Int) := by omega
          have htk : ls.take j = ls := List.take_of_length_le (by have := Hz.out; omega)
          rw [htk] at hcv
          have hds := Lib.hid (pick_gvld (l := ls) Hg.out (by have := Hz.out; omega))
          have hdl : Hid ((pick cs ls).length ≤ 2000) := by
            have : (pick cs ls).length ≤ ls.length := List.length_filterMap_le _ _
            have := Hz.out
            rw [Hid]; omega
          have hS1 := Lib.hid (solve_any n A K cap cs wr ((h.below hbw).more hbw.size) hK)
          have hszr := hbr.size
          have hwr1 : w1.heap.size ≤ wr.heap.size := hbw.size
          clear htk hjz
          generalize pick cs ls = ds at *
          obtain ⟨_, _, he, hCL, _, _⟩ := CL.of_own hown hcv hwr1
          cases he
          clear hown hcv
          go_wp2_with fail
          with_reducible refine hS1.out.mono ?_
          intro e w3 hp3
          obtain ⟨A3, n3, c3, er3, rfl⟩ := hp3.shape
          have hb3 := hp3.1
          have hbw3 := hbw.trans (hb3.mono hbw.size)
          have HP3 := Lib.hid hp3
          have hCL3 := (hCL.below hb3).more hb3.size
          have hS2 := Lib.hid (solve_any n A' j c' ds w3 hCL3 (by omega))
          clear hp3 hCL
          go_wp2_with fail
          with_reducible refine hS2.out.mono ?_
          intro e w4 hp4
          obtain ⟨A4, n4, c4, er4, rfl⟩ := hp4.shape
          have hb4 := hp4.1
          have hbw4 := hbw3.trans (hb4.mono hbw3.size)
          have hCL4 := (hCL3.below hb4).more hb4.size
          have hq : er3 = 0 ∧ er4 = 0 ∧ ∃ l, n = n3 ∧ n = n4 ∧ IL w4 w4.heap.size A3 n l ∧ IL w4 w4.heap.size A4 n l := by
            obtain ⟨y0, hy0⟩ := Hex.out
            obtain ⟨_, hr3⟩ := HP3.out
            obtain ⟨_, hr4⟩ := hp4
            rcases hr3 with ⟨h9, _⟩ | ⟨_, m, hm, ⟨he3, hno⟩ | ⟨u3, xs3, he3, hown3, hL3⟩⟩
            · rw [Hg.out] at h9; cases h9
            · obtain rfl : n = m := by omega
              exact (hno y0 hy0).elim
            · obtain rfl : n = m := by omega
              rcases hr4 with ⟨h9, _⟩ | ⟨_, m, hm2, ⟨he4, hno⟩ | ⟨u4, xs4, he4, hown4, hL4⟩⟩
              · rw [hds.out] at h9; cases h9
              · obtain rfl : n = m := by omega
                exact (hno y0 ((hsat.out y0).2 hy0)).elim
              · obtain rfl : n = m := by omega
                have hsame := lst_same hL3 hL4 (fun y => (hsat.out y).symm)
                simp only [Ending.returned.injEq, Value.tuple.injEq, Array.mk.injEq, List.cons.injEq, Value.int.injEq, true_and, and_true] at he3 he4
                obtain ⟨rfl, rfl⟩ := he3
                obtain ⟨rfl, rfl⟩ := he4
                obtain ⟨B3, d3, hs3, hI3⟩ := il_own hown3
                obtain ⟨B4, d4, hs4, hI4⟩ := il_own hown4
                cases hs3
                cases hs4
                rw [← hsame] at hI4
                exact ⟨rfl, rfl, _, rfl, rfl, (hI3.below hb4).more hb4.size, hI4⟩
          obtain ⟨rfl, rfl, l, rfl, rfl, hI3, hI4⟩ := hq
          have hQ := Lib.hid (eqInts_true A3 n c3 A4 c4 l w4 hI3 hI4 (by omega))
          clear hp4 HP3 hI3 hI4 hCL3
          go_wp2_with fail
          with_reducible refine hQ.out.mono ?_
          rintro e w5 ⟨rfl, hb5⟩
          have hbw5 := hbw4.trans (hb5.mono hbw4.size)
          have hCL5 := (hCL4.below hb5).more hb5.size
          clear hCL4
          go_wp2_with fail
          go_loopw [13] (fun i wx => ∃ q : Nat, q ≤ K ∧ i = .int .i64 q ∧ Below w5.heap.size w5 wx) (fun i _ => K - (intOf i).toNat)
          case atStart => exact ⟨0, Nat.zero_le _, rfl, Below.refl _ _⟩
          case round =>
            obtain ⟨q, hq, rfl, hbx⟩ := hrel
            have hbwx := hbw5.trans (hbx.mono hbw5.size)
            by_cases hltq : q < K
            · obtain ⟨b, off, x, D1, k1, e1, D2, k2, e2, rfl, hbl, hx, g0, g1, g2, g3, px, py, s1, t1, s2, t2⟩ := (h.below hbwx).at_ hltq
              have hfx := fol_left Hg.out hds.out hdl.out hx (fun y => (hsat.out y).1)
              have hF := follows_any n A' j c' ds x D1 k1 e1 D2 k2 e2 wr ((hCL5.below hbx).more hbx.size) (by omega) (px.more hbwx.size) (py.more hbwx.size) s1 t1 s2 t2
              rw [hfx.1, hfx.2] at hF
              have HF := Lib.hid hF
              clear hF hfx hx
              go_wp2_with fail
              refine HF.out.mono ?_
              rintro e w6 ⟨rfl, hb6⟩
              go_wp2_with fail
              go_roundw
              case rel => exact ⟨q + 1, by omega, by go_num, hbx.trans (hb6.mono hbx.size)⟩
              case measure => simp [intOf]; omega
            · go_wp2_with fail
              refine (awake_any _).mono ?_
              rintro e w6 ⟨rfl, hb6⟩
              go_wp2_with fail
              go_ret
              exact ⟨rfl, hbwx.trans (hb6.mono hbwx.size)⟩
  · rw [hb] at hh
    have Hh := Lib.hid hh
    clear hh
    go_enter Try.func6, Try.ntmps6
    go_wp2_with fail
    refine Hh.out.mono ?_
    rintro e w1 ⟨rfl, rfl⟩
    go_wp2_with fail
    refine (awake_any _).mono ?_
    rintro e w2 ⟨rfl, hb2⟩
    go_wp2_with fail
    go_ret
    exact ⟨rfl, hb2⟩
end Go.Proofs.Ytolilmodihgaiaa
