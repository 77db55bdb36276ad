/-
  'Vars' of the reference: the same numbers; equality of lists of numbers that are equal.
-/
import Derived.Test.YtpahgbnfgnmlaaaDoorMergedI
import Derived.Test.YtpahgbnfgnmlaaaDoorRCanon
namespace Go.Proofs.YtpahgbnfgnmlaaaDoor
open Go Go.RowKit Go.Sort Go.Shelf

set_option maxRecDepth 100000 in
set_option maxHeartbeats 4000000 in
theorem refVars_any (c : Int) (A : Option Addr) (n cap : Nat) (l : List (Int × Int)) (w : World) (h : PL w w.heap.size A n l) (hn : n ≤ 1000000) :
    Calls Tryd.prog 20 #[.agg #[.int .i64 c, .slice A n cap]] w fun e w' => ∃ B k, e = .returned (.slice B (varsV l).length k) ∧ IL w' w'.heap.size B (varsV l).length (varsV l) ∧ Go.RowKit.Below w.heap.size w w' := by
  obtain ⟨i0, hi, hz0, hz1, hz2⟩ := info_partsI
  go_enter Tryd.func20, Tryd.ntmps20
  go_wp2_with fail
  go_loopw [3, 4] (fun v i wr => ∃ k : Nat, k ≤ n ∧ i = .int .i64 k ∧ ∃ A' m c', v = .slice A' m c' ∧ PL wr wr.heap.size A' m (canonV ((l.take k).map fun x => (x.1, 0))) ∧ Go.RowKit.Below (w.heap.size + 1) (w.alloc (.cells #[.int .i64 c, .slice A n cap] 24)) wr) (fun _ i _ => n - (intOf i).toNat)
  case atStart => exact ⟨0, Nat.zero_le _, rfl, none, 0, 0, rfl, PL.nil_ _, Go.RowKit.Below.refl _ _⟩
  case round =>
    obtain ⟨k, hk, rfl, A', m, c', rfl, hpl, hbr⟩ := hrel
    have hbwr := back0 hbr
    have hsr : w.heap.size + 1 ≤ wr.heap.size := by simpa using hbr.size
    have g1 : wr.cell? ⟨w.heap.size, 1, none⟩ = some (.slice A n cap) := (hbr.cell (p := ⟨w.heap.size, 1, none⟩) (by simp)).trans (by simp)
    have hml : m ≤ 1000000 := by
      have h1 := hpl.1
      have h2 := canonV_len ((l.take k).map fun x => (x.1, (0 : Int)))
      rw [List.length_map, List.length_take] at h2; omega
    by_cases hlt : k < n
    · obtain ⟨b, off, x, rfl, hbl, hx, hx0, hx1⟩ := (h.below hbwr).at_ hlt
      have Hst : Hid (canonV ((l.take (k + 1)).map fun x => (x.1, 0)) = putP (canonV ((l.take k).map fun x => (x.1, 0))) (x.1, 0)) := by rw [Hid, take_snoc hx, List.map_append]; exact canonV_snoc _ _
      have hasc := (canonV_canon ((l.take k).map fun x => (x.1, (0 : Int)))).asc
      generalize canonV ((l.take k).map fun x => (x.1, (0 : Int))) = q at hpl Hst hasc hml
      have hcall := Lib.hid (put_any A' m c' q (x.1, 0) wr hpl hml hasc)
      go_wp2_with fail
      refine hcall.out.mono ?_
      rintro e w5 ⟨v5, rfl, hown5, hb5⟩
      obtain ⟨A5, c5, rfl, hl5, hm5, hp5, ho5⟩ := PL.of_own hown5
      clear hcall
      go_wp2_with fail
      go_roundw
      case rel => exact ⟨k + 1, by omega, by go_num, A5, _, c5, rfl, by rw [Hst.out]; exact hp5, hbr.trans (hb5.mono hsr)⟩
      case measure => simp [intOf]; omega
    · obtain rfl : k = n := by omega
      have hfull : l.take k = l := List.take_of_length_le (by have := h.1; omega)
      rw [hfull] at hpl
      clear hfull
      have Hr : Hid (varsV l = (canonV (l.map fun x => (x.1, 0))).map (·.1)) := rfl
      generalize canonV (l.map fun x => (x.1, (0 : Int))) = r at hpl Hr
      go_wp2_with fail
      generalize wr = W at *
      go_loopw [5, 6] (fun v i wr => ∃ j : Nat, j ≤ m ∧ i = .int .i64 j ∧ wr.ownsRow W.heap.size 3 1 v j (int1 ((r.take j).map (·.1))) ∧ Go.RowKit.Below W.heap.size W wr) (fun _ i _ => m - (intOf i).toNat)
      case atStart => exact ⟨0, Nat.zero_le _, rfl, World.ownsRow_nil _ _ _ _, Go.RowKit.Below.refl _ _⟩
      case round =>
        obtain ⟨j, hj, rfl, hown, hb2⟩ := hrel
        have hbs := hb2.size
        by_cases hlt2 : j < m
        · obtain ⟨b, off, x, rfl, hbl, hx, hx0, hx1⟩ := (hpl.below hb2).at_ hlt2
          have Hst : Hid (int1 ((r.take (j + 1)).map (·.1)) = int1 ((r.take j).map (·.1)) ++ [.int .i64 x.1]) := by rw [Hid, take_snoc hx, List.map_append, int1_app]; rfl
          generalize int1 ((r.take j).map (·.1)) = cs at hown Hst
          go_wp2_with (at_builtin; refine wpList_append_own _ rfl _ _ 33 rfl W.heap.size 3 i0 (.int .i64 0) 1 8 Tryd.underlying33 hi hz0 hz1 hz2 rfl (by decide) _ j cs rfl (hown.alloc _) _ 1 1 [.int .i64 x.1] rfl rfl (newsI (x := x.1) (by simp)) (newsI_one (x := x.1)) (by unfold maxLen; omega) (by omega) (by simp; omega) ?_)
          intro v' w5 hown5 hgrow _
          go_wp2_with fail
          go_roundw
          case rel => exact ⟨j + 1, by omega, by go_num, by rw [Hst.out]; exact hown5, (hb2.alloc hbs _).grown hgrow (by simp; omega) fun i hi => (hown.lt i hi).1⟩
          case measure => simp [intOf]; omega
        · obtain rfl : j = m := by omega
          have hfull : r.take j = r := List.take_of_length_le (by have := hpl.1; omega)
          rw [hfull] at hown
          clear hfull
          have hll : (varsV l).length = j := by rw [Hr.out, List.length_map]; exact hpl.1
          rw [← Hr.out, ← hll] at hown
          obtain ⟨A3, c3, rfl, _, _, hI, _⟩ := IL.of_own hown
          go_wp2_with fail
          go_ret
          exact ⟨A3, c3, rfl, hI, hbwr.trans (hb2.mono hbwr.size)⟩

set_option maxRecDepth 100000 in
set_option maxHeartbeats 4000000 in
theorem eqInts_true (A : Option Addr) (n capA : Nat) (B : Option Addr) (capB : Nat) (l : List Int) (w : World) (ha : IL w w.heap.size A n l) (hb : IL w w.heap.size B n l) (hn : n ≤ 1000000) :
    Calls Tryd.prog 18 #[.slice A n capA, .slice B n capB] w fun e w' => e = .returned (.bool true) ∧ Go.RowKit.Below w.heap.size w w' := by
  go_enter Tryd.func18, Tryd.ntmps18
  go_wp2_with fail
  go_loopw [5] (fun i wr => ∃ k : Nat, k ≤ n ∧ i = .int .i64 k ∧ Go.RowKit.Below w.heap.size w wr) (fun i _ => n - (intOf i).toNat)
  case atStart => exact ⟨0, Nat.zero_le _, rfl, Go.RowKit.Below.refl _ _⟩
  case round =>
    obtain ⟨k, hk, rfl, hbr⟩ := hrel
    by_cases hlt : k < n
    · obtain ⟨b, off, x, rfl, hbl, hx, hx0⟩ := (ha.below hbr).at_ hlt
      obtain ⟨b2, off2, y, rfl, hbl2, hy, hy0⟩ := (hb.below hbr).at_ hlt
      obtain rfl : x = y := Option.some.inj (hx.symm.trans hy)
      go_wp2_with fail
      go_quiet (fail)
      go_wp2_with fail
      go_roundw
      case rel => exact ⟨k + 1, by omega, by go_num, below_drewN hbr _⟩
      case measure => simp [intOf]; omega
    · go_wp2_with fail
      go_ret
      exact ⟨rfl, hbr⟩
end Go.Proofs.YtpahgbnfgnmlaaaDoor
