/-
  The law TopRing: a ring of variables, and the same with a greater step somewhere.
-/
import Derived.Test.YtapajkfnpkekdaaTRinM
import Derived.Test.YtapajkfnpkekdaaTAllC
import Derived.Deep.RegionLaw
import Derived.Deep.RegionHeldLaw
namespace Go.Proofs.Ytapajkfnpkekdaa
open Go Go.RowKit

theorem frz_of {w : World} {q : Nat} {cs : Array Value} {t : TypeId} (h : w.heap[q]? = some (.cells cs t)) (i : Nat) : w.frozen? ⟨q, i, none⟩ = false := by
  unfold World.frozen?
  rw [h]
  simp
theorem heap3 (w : World) (a b c : Obj) : (((w.alloc a).alloc b).alloc c).heap[w.heap.size]? = some a ∧ (((w.alloc a).alloc b).alloc c).heap[w.heap.size + 1]? = some b :=
  ⟨(Below.heap_alloc _ _ _ (by simp <;> omega)).trans (heap_two w a b).1, (Below.heap_alloc _ _ _ (by simp)).trans (heap_two w a b).2⟩
theorem rt_sol {n s : Nat} {xs : List Int} (h : Lst (fun e => e ∈ esA n (rtS (fun _ => 0) n s n)) (gx xs)) : solL n xs = (List.range n).map fun _ => (0 : Int) := by
  have hle := h.least _ (rtS_zero n s n) (fun _ => Int.le_refl _)
  unfold solL
  refine List.map_congr_left fun v _ => ?_
  have h1 := hle v
  have h2 := hle n
  have h3 := h.nn v
  have h4 := h.nn n
  omega
theorem TR.step {wc W2 w7 : World} {base n q1 q2 : Nat} {v : Value} {xs : List Value} {ks : List LkC} {k : LkC} {P Q : Nat → Nat} (hg : W2.grownBy w7 v.ownBlock) (hW : Below wc.heap.size wc W2) (hown : wc.ownsRow base 32 4 v n xs) (h : RVd wc base wc.heap.size xs ks P Q) (hb : base ≤ wc.heap.size) (hq1 : wc.heap.size ≤ q1) (hq2 : wc.heap.size ≤ q2) (hne : q1 ≠ q2) (h1 : W2.heap[q1]? = some (.cells #[.int .i64 k.1, .int .i64 k.2.1] 27)) (h2 : W2.heap[q2]? = some (.cells #[.int .i64 k.2.2, .int .i64 0] 27)) :
    ∃ P' Q', RVd w7 base w7.heap.size (xs ++ [.int .i64 0, .slice (some ⟨q1, 0, none⟩) 1 1, .int .i64 0, .slice (some ⟨q2, 0, none⟩) 1 1]) (ks ++ [k]) P' Q' := by
  have hK := KV.grown (own_below hown hW) hg
  have e1 := hK _ _ h1
  have e2 := hK _ _ h2
  exact ⟨_, _, ((h.keep (KV.below hW) (Nat.le_refl _)).keep hK (Nat.le_refl _)).snoc hb hq1 hq2 hne ⟨(Array.getElem?_eq_some_iff.1 e1).1, (Array.getElem?_eq_some_iff.1 e2).1⟩ e1 e2⟩
theorem TR.bel {wc W2 w7 : World} {base n : Nat} {v : Value} {xs : List Value} (hg : W2.grownBy w7 v.ownBlock) (hW : Below wc.heap.size wc W2) (hown : wc.ownsRow base 32 4 v n xs) (hb : base ≤ wc.heap.size) : Below base wc w7 :=
  (hW.mono hb).grown hg (Nat.le_trans hb hW.size) (fun j hj => (hown.lt j hj).1)

set_option maxRecDepth 100000 in
set_option maxHeartbeats 8000000 in
theorem topRing_any (v a s m : Int) (w : World) (hv : 0 ≤ v ∧ v < 65536) (ha : 0 ≤ a ∧ a < 65536) (hs : 0 ≤ s ∧ s < 65536) (hm : 0 ≤ m ∧ m < 256) :
    Calls Try.prog 4 #[.int .u16 v, .int .u16 a, .int .u16 s, .int .u8 m] w fun e w' => e = .returned (.bool true) ∧ Below w.heap.size w w' := by
  by_cases hcond : 2 ≤ v ∧ v ≤ 1200
  · obtain ⟨c1, c2⟩ := hcond
    obtain ⟨n, rfl⟩ : ∃ n : Nat, v = n := ⟨v.toNat, by omega⟩
    obtain ⟨sN, rfl⟩ : ∃ sN : Nat, s = sN := ⟨s.toNat, by omega⟩
    obtain ⟨aN, rfl⟩ : ∃ aN : Nat, a = aN := ⟨a.toNat, by omega⟩
    obtain ⟨i0, hi, hz0, hz1, hz2⟩ := info_parts infoC
    have d1 : ¬ (n : Int) < 2 := by omega
    have d2 : ¬ (1200 : Int) < (n : Int) := by omega
    have hn0 : ¬ (n : Int) = 0 := by omega
    have hn1 : ¬ n = 0 := by omega
    have hn2 : ((n : Int) == 0) = false := by simpa using hn1
    have u1 : IntKind.i64.wrap (n : Int) = (n : Int) := by rw [IntKind.wrap_i64]; omega
    have u2 : IntKind.i64.wrap (sN : Int) = (sN : Int) := by rw [IntKind.wrap_i64]; omega
    have u3 : IntKind.i64.wrap (aN : Int) = (aN : Int) := by rw [IntKind.wrap_i64]; omega
    have u4 : IntKind.i64.wrap m = m := by rw [IntKind.wrap_i64]; omega
    obtain ⟨p, hp⟩ : ∃ p, p = m % 9 + 1 := ⟨_, rfl⟩
    have hp1 : 1 ≤ p ∧ p ≤ 9 := by omega
    have Hp := Lib.hid hp
    clear hp
    have u5' : IntKind.i64.wrap (m.tmod 9) = m.tmod 9 := by rw [Int.tmod_eq_emod_of_nonneg hm.1, IntKind.wrap_i64]; omega
    clear c1 c2 hv
    go_enter Try.func4, Try.ntmps4
    go_wp2_with fail
    go_loopw [10, 11] (fun o i wr => ∃ j : Nat, j ≤ n ∧ i = .int .i64 j ∧ ∃ xs P Q, wr.ownsRow w.heap.size 32 4 o j xs ∧ RVd wr w.heap.size wr.heap.size xs (rtK (fun _ => 0) n sN j) P Q ∧ Below w.heap.size w wr) (fun _ i _ => n - (intOf i).toNat)
    case atStart => exact ⟨0, Nat.zero_le _, rfl, [], id, id, World.ownsRow_nil _ _ _ _, RVd.nil _ _ _ _ _, Below.refl _ _⟩
    case round =>
      obtain ⟨j, hj, rfl, xs, P, Q, hown, hrv, hbr⟩ := hrel
      obtain ⟨wo, hwo⟩ : ∃ wo, wo = wr := ⟨_, rfl⟩
      subst hwo
      have hszr := hbr.size
      by_cases hjn : j < n
      · have hji : (j : Int) < (n : Int) := by omega
        have v0 : IntKind.i64.wrap ((j : Int) + (sN : Int)) = (j : Int) + (sN : Int) := by rw [IntKind.wrap_i64]; omega
        have hm0 : ((j : Int) + (sN : Int)).tmod (n : Int) = (roR n sN j : Int) := by
          rw [Int.tmod_eq_emod_of_nonneg (by omega)]
          rfl
        have hr := roR_lt (n := n) (s := sN) (i := j) (by omega)
        have v1 : IntKind.i64.wrap (roR n sN j : Int) = (roR n sN j : Int) := by rw [IntKind.wrap_i64]; omega
        have v2 : IntKind.i64.wrap ((roR n sN j : Int) + 1) = (roR n sN j : Int) + 1 := by rw [IntKind.wrap_i64]; omega
        have hm1 : ((roR n sN j : Int) + 1).tmod (n : Int) = (nxR n (roR n sN j) : Int) := by
          rw [Int.tmod_eq_emod_of_nonneg (by omega), ← nxR_mod hr]
          rfl
        have hnx := nxR_lt (n := n) (i := roR n sN j) (by omega)
        have v3 : IntKind.i64.wrap (nxR n (roR n sN j) : Int) = (nxR n (roR n sN j) : Int) := by rw [IntKind.wrap_i64]; omega
        have hzr : Below wo.heap.size wo wo := Below.refl _ _
        have hone : ∀ q1 q2 : Nat, ∀ u ∈ [Value.int .i64 0, .slice (some ⟨q1, 0, none⟩) 1 1, .int .i64 0, .slice (some ⟨q2, 0, none⟩) 1 1], u.oneCell' = true := by simp [Value.oneCell']
        have Hrv := Lib.hid hrv
        clear hrv
        have hA : ∀ (o1 o2 o3 : Obj), Below wo.heap.size wo (((wo.alloc o1).alloc o2).alloc o3) := fun o1 o2 o3 => ((hzr.alloc (Nat.le_refl _) o1).alloc (by simp) o2).alloc (by simp <;> omega) o3
        go_wp2_with (at_builtin; refine wpList_append_own _ rfl _ _ 25 rfl w.heap.size 32 i0 (.agg #[.int .i64 0, .slice none 0 0, .int .i64 0, .slice none 0 0]) 4 64 Try.underlying25 hi hz0 hz1 hz2 rfl (by decide) _ j xs rfl (own_below hown (hA _ _ _)) _ 1 1 [.int .i64 0, .slice (some ⟨wo.heap.size, 0, none⟩) 1 1, .int .i64 0, .slice (some ⟨wo.heap.size + 1, 0, none⟩) 1 1] rfl rfl (news4c (by simp)) (hone _ _) (by unfold maxLen; omega) (by omega) (by simp; omega) ?_)
        intro v7 w7 hown7 hgrow7 _
        have hb7 := TR.bel hgrow7 (hA _ _ _) hown hszr
        obtain ⟨P', Q', hrv7⟩ := TR.step (k := ((roR n sN j : Int), 0, (nxR n (roR n sN j) : Int))) hgrow7 (hA _ _ _) hown Hrv.out hszr (Nat.le_refl _) (Nat.le_succ _) (by omega) (heap3 wo _ _ _).1 (heap3 wo _ _ _).2
        rw [← rtK_snoc (fun _ => 0)] at hrv7
        have Hrv7 := Lib.hid hrv7
        clear hrv7 hgrow7
        go_wp2_with fail
        go_roundw
        case rel => exact ⟨j + 1, by omega, by go_num, _, P', Q', hown7, Hrv7.out, hbr.trans hb7⟩
        case measure => simp [intOf]; omega
      · obtain rfl : j = n := by omega
        have hji : ¬ (j : Int) < (j : Int) := by omega
        have hcv := hrv.rvc.cv
        rw [rtK_lk] at hcv
        obtain ⟨A, c, rfl, hCL, _, _⟩ := CL.of_own hown hcv (Nat.le_refl _)
        have hg0 := rtS_gvld (D := fun _ => 0) (n := j) (s := sN) (by omega) (by omega) (fun _ => ⟨Int.le_refl _, by decide⟩)
        have HSo := Lib.hid (solve_any j A j c (rtS (fun _ => 0) j sN j) wo hCL (by omega))
        have Hrv := Lib.hid hrv
        clear hrv hcv
        go_wp2_with fail
        refine HSo.out.mono ?_
        clear HSo
        rintro e w2 ⟨hb2, hp⟩
        have hq : ∃ A2 c2, e = .returned (.tuple #[.slice A2 j c2, .int .i64 0]) ∧ IL w2 w2.heap.size A2 j ((List.range j).map fun _ => (0 : Int)) := by
          rcases hp with ⟨hg, _⟩ | ⟨_, n', hn', ⟨_, hno⟩ | ⟨u, xs5, rfl, ho, hL⟩⟩
          · rw [hg0] at hg; cases hg
          · obtain rfl : j = n' := by omega
            exact absurd (rtS_zero j sN j) (hno _)
          · obtain rfl : j = n' := by omega
            rw [rt_sol hL] at ho
            obtain ⟨A3, c3, rfl, hI⟩ := il_own ho
            exact ⟨A3, c3, rfl, hI⟩
        obtain ⟨A2, c2, rfl, hI2⟩ := hq
        clear hp
        have hbw2 := hbr.trans (hb2.mono hszr)
        have HCl := Lib.hid (classes_any j A j c (rtS (fun _ => 0) j sN j) w2 (hCL.lift hb2) (by omega))
        have hown2 := own_below hown hb2
        have Hrv2 := Lib.hid (Hrv.out.keep (KV.below hb2) (Nat.le_refl _))
        clear Hrv hown hCL
        go_wp2_with fail
        refine HCl.out.mono ?_
        clear HCl
        rintro e w3 ⟨hb3, hp⟩
        have hq : ∃ b5 c5 bq cq, e = .returned (.tuple #[.slice (some ⟨b5, 0, none⟩) 1 c5, .int .i64 0]) ∧ b5 < w3.heap.size ∧ w3.cell? ⟨b5, 0, none⟩ = some (.slice (some ⟨bq, 0, none⟩) j cq) ∧ IL w3 w3.heap.size (some ⟨bq, 0, none⟩) j (castN (List.range j)) := by
          rcases hp with ⟨hg, _⟩ | ⟨_, n', hn', ⟨_, hno⟩ | ⟨u, xs5, rfl, ho, hks, _⟩⟩
          · rw [hg0] at hg; cases hg
          · obtain rfl : j = n' := by omega
            exact absurd (rtS_zero j sN j) (hno _)
          · obtain rfl : j = n' := by omega
            rw [cls_rt (by omega) (fun _ => Int.le_refl _)] at hks
            obtain ⟨A5, c5, rfl, hLL⟩ := LL.of_own ho hks
            obtain ⟨b5, rfl, hb5l, hrow5⟩ := hLL (by simp)
            obtain ⟨x5, hx5, hkr⟩ := hrow5 0 _ rfl
            obtain ⟨bq, cq, rfl, hbq, hIL⟩ := hkr.il
            rw [List.length_range] at hIL hx5
            exact ⟨b5, c5, bq, cq, rfl, hb5l, hx5, hIL⟩
        obtain ⟨b5, c5, bq, cq, rfl, hb5, hx5, hI5⟩ := hq
        clear hp
        have hI3 := hI2.lift hb3
        have hbw3 := hbw2.trans (hb3.mono hbw2.size)
        have hown3 := own_below hown2 hb3
        have Hrv3 := Lib.hid (Hrv2.out.keep (KV.below hb3) (Nat.le_refl _))
        clear Hrv2 hown2 hI2 hb2 hb3 hbw2 hszr
        have Hbw3 := Lib.hid hbw3
        have Hown3 := Lib.hid hown3
        clear hbw3 hown3
        go_wp2_with fail
        go_loopw [17] (fun i wr => ∃ k : Nat, k ≤ j ∧ i = .int .i64 k ∧ Below w3.heap.size w3 wr) (fun i _ => j - (intOf i).toNat)
        case atStart => exact ⟨0, Nat.zero_le _, rfl, Below.refl _ _⟩
        case round =>
          obtain ⟨k, hk, rfl, hb3r⟩ := hrel
          by_cases hkj : k < j
          · have hki : (k : Int) < (j : Int) := by omega
            obtain ⟨b2, o2, x, rfl, hb2l, hx, hx0⟩ := (hI3.below hb3r).at_ hkj
            obtain rfl : x = 0 := by
              rw [List.getElem?_map, List.getElem?_range hkj] at hx
              exact (Option.some.inj hx).symm
            obtain ⟨b6, o6, y, he6, hb6l, hy, hy0⟩ := (hI5.below hb3r).at_ hkj
            cases he6
            obtain rfl : y = (k : Int) := by
              unfold castN at hy
              rw [List.getElem?_map, List.getElem?_range hkj] at hy
              exact (Option.some.inj hy).symm
            have hx5r := (hb3r.cell (p := ⟨b5, 0, none⟩) hb5).trans hx5
            rw [Nat.zero_add] at hy0
            clear hx hy
            go_wp2_with fail
            go_roundw
            case rel => exact ⟨k + 1, by omega, by go_num, hb3r⟩
            case measure => simp [intOf]; omega
          · obtain rfl : k = j := by omega
            have hbwr := Hbw3.out.trans (hb3r.mono Hbw3.out.size)
            have hownr := own_below Hown3.out hb3r
            have hrvr := Hrv3.out.keep (KV.below hb3r) (Nat.le_refl _)
            clear hI3 hI5 hx5 hb5 Hrv3 Hown3 Hbw3 hb3r hbr
            go_upto_region 19 with fail
            obtain ⟨q, hq⟩ : ∃ q, q = aN % k := ⟨_, rfl⟩
            have hqk : q < k := by rw [hq]; exact Nat.mod_lt _ (by omega)
            have hq0 : (aN : Int).tmod (k : Int) = (q : Int) := by
              rw [Int.tmod_eq_emod_of_nonneg (by omega), hq]
              rfl
            have hq1 : IntKind.i64.wrap (q : Int) = (q : Int) := by rw [IntKind.wrap_i64]; omega
            have hqi : (q : Int) < (k : Int) := by omega
            obtain ⟨g, c', he⟩ := own_some hownr (by omega)
            cases he
            have hxl : xs.length = k * 4 := hownr.1
            obtain ⟨a0, a1, a2, g0, g1, g2, g3, g4, g5⟩ := hrvr.2.1 q _ (rtK_at hqk)
            have hc1 : wr.cell? ⟨g, q * 4 + 1, none⟩ = some (.slice (some ⟨P q, 0, none⟩) 1 1) := (hownr.cellAt (q * 4 + 1) (by omega)).trans g1
            have hf1 := frz_of g4 1
            have hcp : wr.cell? ⟨P q, 1, none⟩ = some (.int .i64 0) := by simp [World.cell?, g4]
            clear g0 g1 g2 g3 hq
            go_upto_region 20 with fail
            have hrv6 := hrvr.put (p := p) (rtK_at hqk)
            rw [rtK_put] at hrv6
            have hn6 : (Value.slice (some ⟨g, 0, none⟩) k c).ownBlock ≠ some (P q) := fun e => by
              obtain ⟨cs2, fr2, h5⟩ := own_ty hownr e
              rw [g4] at h5
              cases h5
            have hown6 := ownsRow_setCell_other hownr (a := ⟨P q, 1, none⟩) hn6 (.int .i64 p)
            have hb6 := hbwr.setCell (show w.heap.size ≤ (⟨P q, 1, none⟩ : Addr).block from a0) (.int .i64 p)
            clear hc1 hf1 hcp g4 g5 hownr hrvr hbwr hn6 a0 a1 a2
            rw [← Hp.out]
            generalize wr.setCell ⟨P q, 1, none⟩ (.int .i64 p) = w6 at *
            have hcv6 := hrv6.cv
            rw [rtK_lk] at hcv6
            obtain ⟨_, _, hAe, hCL6, _, _⟩ := CL.of_own hown6 hcv6 (Nat.le_refl _)
            cases hAe
            have hD : ∀ i : Nat, (0 : Int) ≤ (fun m : Nat => if m = q then p else 0) i ∧ (fun m : Nat => if m = q then p else 0) i ≤ p := fun i => by
              dsimp only
              split <;> omega
            have hD1 : 1 ≤ (fun m : Nat => if m = q then p else 0) q := by
              dsimp only
              rw [if_pos rfl]
              exact hp1.1
            have hDe : ∀ i : Nat, (fun m : Nat => if m = q then p else 0) i = if i = q then p else 0 := fun _ => rfl
            generalize (fun m : Nat => if m = q then p else 0) = D at *
            have hgD := rtS_gvld (D := D) (n := k) (s := sN) (by omega) (by omega) (fun i => ⟨(hD i).1, by have := (hD i).2; omega⟩)
            have hnoD : ∀ y, Sat (fun e => e ∈ esA k (rtS D k sN k)) y → False := fun y hy => rt_no hqk (fun i => (hD i).1) hD1 hy
            have Hso := Lib.hid (solve_any k (some ⟨g, 0, none⟩) k c (rtS D k sN k) w6 hCL6 (by omega))
            clear hown6 hrv6 hcv6
            go_wp2_with fail
            refine Hso.out.mono ?_
            clear Hso
            rintro e w7 ⟨hb7, hpp⟩
            rcases hpp with ⟨hg, _⟩ | ⟨_, n', hn', ⟨rfl, _⟩ | ⟨_, _, _, _, hL⟩⟩
            · rw [hgD] at hg; cases hg
            · obtain rfl : k = n' := by omega
              have Hex := Lib.hid (explain_any 9 k (some ⟨g, 0, none⟩) k c (rtS D k sN k) w7 (hCL6.lift hb7) (by omega) (by omega) (fun _ m hm e he => by
                obtain rfl : k = m := by omega
                have := rtS_b (by omega) hD e he
                omega) (fun _ m hm => by
                obtain rfl : k = m := by omega
                have h1 : ((9 : Int) * ((9 : Nat) : Int) + 9 * ((k + 1 : Nat) : Int)) ≤ 10890 := by omega
                have h2 : ((2 * k : Nat) : Int) ≤ 2400 := by omega
                have h3 := Int.mul_le_mul h1 h2 (by omega) (by omega)
                omega))
              have hb17 := hb6.trans (hb7.mono hb6.size)
              clear hCL6 hb7 hb6
              go_wp2_with fail
              refine Hex.out.mono ?_
              clear Hex
              rintro e w8 ⟨hb8, hpp⟩
              rcases hpp with ⟨hg, _⟩ | ⟨_, n'', hn'', ⟨⟨y, hy⟩, _⟩ | ⟨_, A8, c8, core, rfl, hI, hco, hso⟩⟩
              · rw [hgD] at hg; cases hg
              · obtain rfl : k = n'' := by omega
                exact (hnoD y hy).elim
              · obtain rfl : k = n'' := by omega
                obtain rfl := rt_core hqk (by omega) hDe hco hso
                rw [List.length_range]
                have hb18 := hb17.trans (hb8.mono hb17.size)
                clear hI hco hso hb8 hb17
                go_wp2_with fail
                go_ret
                exact ⟨rfl, hb18⟩
            · obtain rfl : k = n' := by omega
              exact (hnoD _ hL.sat).elim
  · have hno : v < 2 ∨ ¬ v < 2 ∧ 1200 < v := by omega
    clear hcond
    rcases hno with c1 | ⟨c1, c2⟩
    all_goals
      go_enter Try.func4, Try.ntmps4
      go_wp2_with fail
      go_ret
      exact ⟨rfl, Below.refl _ _⟩
end Go.Proofs.Ytapajkfnpkekdaa
