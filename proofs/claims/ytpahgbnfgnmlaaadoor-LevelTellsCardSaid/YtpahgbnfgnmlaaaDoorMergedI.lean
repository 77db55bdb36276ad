/-
  The walk of 'merged' at numbers; 'Vars' of package level.
-/
import Derived.Test.YtpahgbnfgnmlaaaDoorMergeI
namespace Go.Proofs.YtpahgbnfgnmlaaaDoor
open Go Go.RowKit Go.Sort Go.Shelf

set_option maxRecDepth 100000 in
set_option maxHeartbeats 4000000 in
theorem mergedI_any (A : Option Addr) (n c : Nat) (l : List Int) (w : World) (h : IL w w.heap.size A n l) (hn : n ≤ 1000000) :
    Calls Tryd.prog 40 #[.slice A n c, .func (.func 41) #[] #[], .func (.func 42) #[] #[]] w fun e w' =>
      ∃ (s : List Int) (v : Value), s.Perm l ∧ AscI s ∧ e = .returned v ∧ w'.ownsRow w.heap.size 3 1 v (mgI s).length (int1 (mgI s)) ∧ Go.RowKit.Below w.heap.size w w' := by
  obtain ⟨i0, hi, hz0, hz1, hz2⟩ := info_partsI
  go_enter Tryd.func40, Tryd.ntmps40
  go_wp2_with fail
  refine (cloneI_any A n c l w h hn).mono ?_
  rintro e w1 ⟨v, rfl, hown, hb1⟩
  obtain ⟨A1, c1, rfl, hsort⟩ := sortI_all v l w w1 (by have := h.1; omega) hown hb1
  rw [h.1] at hsort ⊢
  go_wp2_with fail
  refine hsort.mono ?_
  rintro e w2 ⟨rfl, s, hp, hs, hP, hb2⟩
  clear hsort hown
  go_wp2_with fail
  go_loopw [8, 19] (fun v i wr => ∃ k : Nat, k ≤ n ∧ i = .int .i64 k ∧ wr.ownsRow w2.heap.size 3 1 v (mgI (s.take k)).length (int1 (mgI (s.take k))) ∧ Go.RowKit.Below w2.heap.size w2 wr) (fun _ i _ => n - (intOf i).toNat)
  case atStart => exact ⟨0, Nat.zero_le _, rfl, World.ownsRow_nil _ _ _ _, Go.RowKit.Below.refl _ _⟩
  case round =>
    obtain ⟨k, hk, rfl, hown, hbr⟩ := hrel
    by_cases hlt : k < n
    · obtain ⟨b, off, x, rfl, hbl, hx, hx0⟩ := (hP.below hbr).at_ hlt
      have hstep : Hid (mgI (s.take (k + 1)) = mgIStep (mgI (s.take k)) x) := by rw [Hid, take_snoc hx, mgI_snoc]
      have hmk : (mgI (s.take k)).length ≤ k := by
        have := mgI_len (s.take k)
        rw [List.length_take] at this; omega
      generalize mgI (s.take k) = acc at hown hstep hmk
      have hbs := hbr.size
      rcases own_casesI hown with ⟨rfl, A3, c3, rfl, hown3⟩ | ⟨acc', y, g, c3, q, rfl, hq, rfl, hown3, hbg, hgl, hqc, hc3, hy0, hf0⟩
      · clear hown
        go_wp2_with (at_builtin; refine wpList_append_own _ rfl _ _ 33 rfl w2.heap.size 3 i0 (.int .i64 0) 1 8 Tryd.underlying33 hi hz0 hz1 hz2 rfl (by decide) (.slice A3 0 c3) 0 [] rfl (hown3.alloc _) _ 1 1 [.int .i64 x] rfl rfl (newsI (x := x) (by simp)) (newsI_one (x := x)) (by unfold maxLen; omega) (by omega) (by simp; omega) ?_)
        intro v' w5 hown5 hgrow _
        go_wp2_with fail
        go_roundw
        case rel => exact ⟨k + 1, by omega, by go_num, by rw [hstep.out, mgIStep_nil]; exact hown5, (hbr.alloc hbs _).grown hgrow (by simp; omega) fun j hj => (hown3.lt j hj).1⟩
        case measure => simp [intOf]; omega
      · have hq1 : q + 1 ≤ 1000000 := by
          have : (acc' ++ [y]).length = q + 1 := by simp [hq]
          omega
        have Hq := Lib.hid hq; clear hq hown hmk
        by_cases he : y = x
        · subst he
          have Hst : Hid (mgI (s.take (k + 1)) = acc' ++ [y]) := by rw [Hid, hstep.out, mgIStep_join]
          have hce : (Lib.compareInt y y == 0) = true := by simp [Lib.compareInt]
          have hcmp := fun W => compare_int y y W
          generalize Lib.compareInt y y = ce at hce hcmp
          have Hcmp := Lib.hid hcmp; clear hcmp
          have hown5 := own_setI Hq.out hown3
          go_wp2_with (first | (go_at_call 41; refine (Hcmp.out _).mono ?_; rintro e w' ⟨rfl, rfl⟩) | (go_at_call 42; refine (first_any _ _ _).mono ?_; rintro e w' ⟨rfl, rfl⟩))
          go_roundw
          case rel =>
            refine ⟨k + 1, by omega, by go_num, ?_, hbr.setCell hbg _⟩
            rw [Hst.out, show (acc' ++ [y]).length = q + 1 by rw [Hq.out]; simp]
            exact hown5
          case measure => simp [intOf]; omega
        · have Hst : Hid (mgI (s.take (k + 1)) = acc' ++ [y] ++ [x]) := by rw [Hid, hstep.out, mgIStep_push he]
          have hce : (Lib.compareInt y x == 0) = false := by
            simp only [Lib.compareInt]
            split
            · rfl
            · split
              · rfl
              · omega
          have hcmp := fun W => compare_int y x W
          generalize Lib.compareInt y x = ce at hce hcmp
          have Hcmp := Lib.hid hcmp; clear hcmp he
          go_wp2_with (first | (go_at_call 41; refine (Hcmp.out _).mono ?_; rintro e w' ⟨rfl, rfl⟩) | (at_builtin; refine wpList_append_own _ rfl _ _ 33 rfl w2.heap.size 3 i0 (.int .i64 0) 1 8 Tryd.underlying33 hi hz0 hz1 hz2 rfl (by decide) (.slice (some ⟨g, 0, none⟩) (q + 1) c3) (q + 1) (int1 (acc' ++ [y])) rfl (hown3.alloc _) _ 1 1 [.int .i64 x] rfl rfl (newsI (x := x) (by simp)) (newsI_one (x := x)) (by unfold maxLen; omega) (by omega) (by simp; omega) ?_))
          intro v' w5 hown5 hgrow _
          go_wp2_with fail
          go_roundw
          case rel =>
            refine ⟨k + 1, by omega, by go_num, ?_, (hbr.alloc hbs _).grown hgrow (by simp; omega) fun j hj => (hown3.lt j hj).1⟩
            rw [Hst.out, show (acc' ++ [y] ++ [x]).length = q + 1 + 1 by rw [Hq.out]; simp, int1_app _ [x], int1_one]
            exact hown5
          case measure => simp [intOf]; omega
    · have hfull : s.take k = s := List.take_of_length_le (by have := hP.1; omega)
      rw [hfull] at hown
      clear hfull
      have hb : Go.RowKit.Below w.heap.size w wr := hb2.trans (hbr.mono hb2.size)
      go_wp2_with fail
      go_ret
      exact ⟨s, _, hp, hs, rfl, own_base hown hb2.size, hb⟩

set_option maxRecDepth 100000 in
set_option maxHeartbeats 4000000 in
theorem vars_any (c : Int) (A : Option Addr) (n cap : Nat) (l : List (Int × Int)) (w : World) (h : PL w w.heap.size A n l) (hn : n ≤ 1000000) :
    Calls Tryd.prog 19 #[.agg #[.int .i64 c, .slice A n cap]] w fun e w' => ∃ B k, e = .returned (.slice B (varsV l).length k) ∧ IL w' w'.heap.size B (varsV l).length (varsV l) ∧ Go.RowKit.Below w.heap.size w w' := by
  obtain ⟨i0, hi, hz0, hz1, hz2⟩ := info_partsI
  go_enter Tryd.func19, Tryd.ntmps19
  go_wp2_with fail
  have h0 : Go.RowKit.Below w.heap.size w (w.alloc (.cells #[.int .i64 c, .slice A n cap] 24)) := (Go.RowKit.Below.refl _ _).alloc (Nat.le_refl _) _
  generalize w.alloc (.cells #[.int .i64 c, .slice A n cap] 24) = W at *
  go_loopw [3, 9] (fun v i wr => ∃ k : Nat, k ≤ n ∧ i = .int .i64 k ∧ wr.ownsRow W.heap.size 3 1 v k (int1 ((l.take k).map (·.1))) ∧ Go.RowKit.Below W.heap.size W wr) (fun _ i _ => n - (intOf i).toNat)
  case atStart => exact ⟨0, Nat.zero_le _, rfl, World.ownsRow_nil _ _ _ _, Go.RowKit.Below.refl _ _⟩
  case round =>
    obtain ⟨k, hk, rfl, hown, hbr⟩ := hrel
    have hbs := hbr.size
    have hbw : Go.RowKit.Below w.heap.size w wr := h0.trans (hbr.mono h0.size)
    by_cases hlt : k < n
    · obtain ⟨b, off, x, rfl, hbl, hx, hx0, hx1⟩ := (h.below hbw).at_ hlt
      have Hst : Hid (int1 ((l.take (k + 1)).map (·.1)) = int1 ((l.take k).map (·.1)) ++ [.int .i64 x.1]) := by rw [Hid, take_snoc hx, List.map_append, int1_app]; rfl
      generalize int1 ((l.take k).map (·.1)) = cs at hown Hst
      go_wp2_with (at_builtin; refine wpList_append_own _ rfl _ _ 33 rfl W.heap.size 3 i0 (.int .i64 0) 1 8 Tryd.underlying33 hi hz0 hz1 hz2 rfl (by decide) _ k cs rfl ((hown.alloc _).alloc _) _ 1 1 [.int .i64 x.1] rfl rfl (newsI (x := x.1) (by simp)) (newsI_one (x := x.1)) (by unfold maxLen; omega) (by omega) (by simp; omega) ?_)
      intro v' w5 hown5 hgrow _
      go_wp2_with fail
      go_roundw
      case rel => exact ⟨k + 1, by omega, by go_num, by rw [Hst.out]; exact hown5, ((hbr.alloc hbs _).alloc (by simp; omega) _).grown hgrow (by simp; omega) fun j hj => (hown.lt j hj).1⟩
      case measure => simp [intOf]; omega
    · obtain rfl : k = n := by omega
      have hfull : l.take k = l := List.take_of_length_le (by have := h.1; omega)
      rw [hfull] at hown
      clear hfull
      have hll : (l.map (·.1)).length = k := by simp [h.1]
      obtain ⟨A3, c3, rfl, _, _, hI, _⟩ := IL.of_own (l := l.map (·.1)) (by rw [hll]; exact hown)
      rw [hll] at hI ⊢
      go_wp2_with fail
      refine (mergedI_any A3 k c3 (l.map (·.1)) wr hI hn).mono ?_
      rintro e w5 ⟨s, v, hp, hs, rfl, hown5, hb5⟩
      rw [mgI_vars hp hs] at hown5
      obtain ⟨A5, c5, rfl, _, _, hI5, _⟩ := IL.of_own hown5
      go_wp2_with fail
      go_ret
      exact ⟨A5, c5, rfl, hI5, hbw.trans (hb5.mono hbw.size)⟩
end Go.Proofs.YtpahgbnfgnmlaaaDoor
