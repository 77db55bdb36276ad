/-
  Levels that are equal are found equal.
-/
import Derived.Test.YtgbbmcfhakliiaaGreatDoorRNormal
namespace Go.Proofs.YtgbbmcfhakliiaaGreatDoor
open Go Go.RowKit

set_option maxRecDepth 100000 in
set_option maxHeartbeats 4000000 in
theorem eqLevel_true (c : Int) (A : Option Addr) (n capA : Nat) (B : Option Addr) (capB : Nat) (l : List (Int × Int)) (w : World) (ha : PL w w.heap.size A n l) (hb : PL w w.heap.size B n l) (hn : n ≤ 1000000) :
    Calls Tryz.prog 23 #[.agg #[.int .i64 c, .slice A n capA], .agg #[.int .i64 c, .slice B n capB]] w fun e w' => e = .returned (.bool true) ∧ Below w.heap.size w w' := by
  go_enter Tryz.func23, Tryz.ntmps23
  go_wp2_with fail
  go_loopw [5] (fun i wr => ∃ k : Nat, k ≤ n ∧ i = .int .i64 k ∧ Below (w.heap.size + 2) ((w.alloc (.cells #[.int .i64 c, .slice A n capA] 24)).alloc (.cells #[.int .i64 c, .slice B n capB] 24)) wr) (fun i _ => n - (intOf i).toNat)
  case atStart => exact ⟨0, Nat.zero_le _, rfl, Below.refl _ _⟩
  case round =>
    obtain ⟨k, hk, rfl, hbr⟩ := hrel
    obtain ⟨⟨g1, g2, g3, g4⟩, hsr, hbwr⟩ := box2 hbr
    by_cases hlt : k < n
    · obtain ⟨b, off, x, rfl, hbl, hx, hx0, hx1⟩ := (ha.below hbwr).at_ hlt
      obtain ⟨b2, off2, y, rfl, hbl2, hy, hy0, hy1⟩ := (hb.below hbwr).at_ hlt
      obtain rfl : x = y := Option.some.inj (hx.symm.trans hy)
      go_wp2_with fail
      go_quiet (fail)
      go_wp2_with fail
      go_roundw
      case rel => exact ⟨k + 1, by omega, by go_num, below_drewN hbr _⟩
      case measure => simp [intOf]; omega
    · go_wp2_with fail
      go_ret
      exact ⟨rfl, hbwr⟩

set_option maxRecDepth 100000 in
set_option maxHeartbeats 4000000 in
theorem same_true (c : Int) (A : Option Addr) (n capA : Nat) (B : Option Addr) (capB : Nat) (l : List (Int × Int)) (q : Int) (w : World) (ha : PL w w.heap.size A n l) (hb : PL w w.heap.size B n l) (hn : n ≤ 1000000) :
    Calls Tryz.prog 11 #[.agg #[.int .i64 c, .slice A n capA], .agg #[.int .i64 c, .slice B n capB], .int .i64 q, .int .i64 q] w fun e w' => e = .returned (.bool true) ∧ Below w.heap.size w w' := by
  obtain ⟨_, hs, hbw⟩ := box2 (w := w) (x0 := .int .i64 c) (x1 := .slice A n capA) (y0 := .int .i64 c) (y1 := .slice B n capB) (t := 24) (Below.refl _ _)
  have hcall := Lib.hid (eqLevel_true c A n capA B capB l _ (ha.lift hbw) (hb.lift hbw) hn)
  go_enter Tryz.func11, Tryz.ntmps11
  go_wp2_with fail
  refine hcall.out.mono ?_
  rintro e w1 ⟨rfl, hb1⟩
  go_wp2_with fail
  go_ret
  exact ⟨rfl, hbw.trans (hb1.mono hbw.size)⟩
/-- two results that read alike are found the same -/
theorem same_lv {B B' : Nat} {v v' : Value} {c q : Int} {l : List (Int × Int)} {w : World} (ha : LvRes B w v c l) (hb : LvRes B' w v' c l) (hn : l.length ≤ 1000000) :
    Calls Tryz.prog 11 #[v, v', .int .i64 q, .int .i64 q] w fun e w' => e = .returned (.bool true) ∧ Below w.heap.size w w' := by
  obtain ⟨A, n, cap, rfl, h1, _⟩ := ha
  obtain ⟨A', n', cap', rfl, h1', _⟩ := hb
  obtain rfl : n = n' := h1.1.symm.trans h1'.1
  exact same_true c A n cap A' cap' l q w h1 h1' (by have := h1.1; omega)
end Go.Proofs.YtgbbmcfhakliiaaGreatDoor
