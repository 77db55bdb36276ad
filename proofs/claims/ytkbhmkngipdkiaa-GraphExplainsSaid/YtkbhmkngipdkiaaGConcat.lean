/-
  slices.Concat at two lists of constraints: the one behind the other, in memory of its own.
-/
import Derived.Test.YtkbhmkngipdkiaaGCons
import Derived.Test.YtkbhmkngipdkiaaShelf3
import Derived.Shelf.Spec.SlicesGrow
import Derived.Laws.AppendOwnNone
namespace Go.Proofs.Ytkbhmkngipdkiaa
open Go Go.RowKit Go.Shelf

theorem growC_any (k : Nat) (w : World) (hk : k ≤ 1000000) :
    Calls Try.prog 72 #[.slice none 0 0, .int .i64 k] w fun e w' => ∃ v, e = .returned v ∧ w'.ownsRow w.heap.size 46 4 v 0 [] ∧ Go.RowKit.Below w.heap.size w w' := by
  obtain ⟨i0, hi, hz0, hz1, hz2⟩ := info_parts infoC
  rcases Nat.eq_zero_or_pos k with rfl | hk0
  · refine (Any8.slices_Grow_room Try.layGrowC none 0 0 0 w (Nat.le_refl _) (by omega) (by omega) (Nat.le_refl _)).mono ?_
    rintro e w' ⟨he, hw⟩
    subst hw
    exact ⟨_, he, World.ownsRow_nil _ _ _ _, Go.RowKit.Below.refl _ _⟩
  · have hG := grownCap_le_maxLen w (0 + k) 0 (Try.layGrowC_ren.t 25) (by unfold maxLen; omega)
    have hG2 : k ≤ grownCap w k 0 (Try.layGrowC_ren.t 25) := by simpa using grownCap_ge w (0 + k) 0 (Try.layGrowC_ren.t 25)
    refine (Any8.slices_Grow_grow Try.layGrowC i0 (.agg #[.int .i64 0, .slice none 0 0, .int .i64 0, .slice none 0 0]) hi hz0 (by omega) none 0 0 k [] w (Nat.le_refl _) (by omega) (by rw [hz2]; omega) (by omega) (by simp) (fun _ => rfl) (fun _ e => by cases e)).mono ?_
    rintro e w' ⟨he, hw⟩
    refine ⟨_, he, ?_, ?_⟩
    · rw [hw]
      exact World.ownsRow_made w.drew _ _ (Nat.le_refl _) hG (by simp [Builtin.zeroCells, Value.cells]; omega)
    · rw [hw]
      exact (Go.RowKit.Below.refl _ w).drew.alloc (Nat.le_refl _) _

/-- what stands behind k rounds -/
def conP (ca cb : List LCn) (k : Nat) : List LCn := if k = 0 then [] else if k = 1 then ca else ca ++ cb
def conN (n m k : Nat) : Nat := if k = 0 then 0 else if k = 1 then n else n + m
theorem cl_nil {w : World} {B n : Nat} {cs : List LCn} (h : CL w B none n cs) : n = 0 ∧ cs = [] := by
  have hn : n = 0 := Classical.byContradiction fun h9 => by
    obtain ⟨b, off, e, _⟩ := h.2 (by omega)
    cases e
  exact ⟨hn, List.eq_nil_of_length_eq_zero (by have := h.1; omega)⟩
theorem CL.addr {w : World} {B n : Nat} {a : Addr} {cs : List LCn} (h : CL w B (some a) n cs) (hn : 0 < n) : ∃ b off, a = ⟨b, off, none⟩ ∧ b < B := by
  obtain ⟨b, off, e, hb, _⟩ := h.2 hn
  exact ⟨b, off, Option.some.inj e, hb⟩
theorem CV.cells {w : World} {B n : Nat} {a : Addr} {cs : List LCn} (h : CL w B (some a) n cs) : ∃ xs, xs.length = n * 4 ∧ ∀ W, Below B w W → CV W B xs cs ∧ ∀ j u, xs[j]? = some u → W.cell? (a.add j) = some u := by
  rcases Nat.eq_zero_or_pos n with rfl | hn
  · have hcs : cs = [] := List.eq_nil_of_length_eq_zero h.1
    subst hcs
    exact ⟨[], rfl, fun W _ => ⟨CV.nil _ _, fun j u hj => by simp at hj⟩⟩
  · obtain ⟨b, off, rfl, hb⟩ := h.addr hn
    obtain ⟨xs, h1, h2⟩ := CV.of_cl h
    refine ⟨xs, by rw [h1.1, h.1], fun W hW => ⟨h1.below hW, fun j u hj => ?_⟩⟩
    rw [Go.WideShapes.add_plain]
    exact (hW.cell (p := ⟨b, off + j, none⟩) hb).trans (h2 j u hj)

set_option maxRecDepth 100000 in
set_option maxHeartbeats 4000000 in
theorem concatC_any (A : Option Addr) (n capA : Nat) (ca : List LCn) (B : Option Addr) (m capB : Nat) (cb : List LCn) (T : Nat) (w : World) (ha : CL w w.heap.size A n ca) (hb : CL w w.heap.size B m cb) (hn : n ≤ 100000) (hm : m ≤ 100000)
    (hA : A = none → capA = 0) (hB : B = none → capB = 0) (hT : T < w.heap.size) (t0 : w.cell? ⟨T, 0, none⟩ = some (.slice A n capA)) (t1 : w.cell? ⟨T, 1, none⟩ = some (.slice B m capB)) :
    Calls Try.prog 52 #[.slice (some ⟨T, 0, none⟩) 2 2] w fun e w' => ∃ v xs, e = .returned v ∧ w'.ownsRow w.heap.size 46 4 v (n + m) xs ∧ CV w' w.heap.size xs (ca ++ cb) ∧ Go.RowKit.Below w.heap.size w w' := by
  obtain ⟨i0, hi, hz0, hz1, hz2⟩ := info_parts infoC
  go_enter Try.func52, Try.ntmps52
  go_wp2_with fail
  go_loop [3, 11] (fun s i => ∃ k : Nat, k ≤ 2 ∧ i = .int .i64 k ∧ s = .int .i64 (if k = 0 then 0 else if k = 1 then n else n + m)) (fun _ i => 2 - (intOf i).toNat)
  case atStart => exact ⟨0, by omega, rfl, rfl⟩
  case round =>
    obtain ⟨k, hk, rfl, rfl⟩ := hrel
    by_cases hlt : k < 2
    · by_cases hk0 : k = 0
      · subst hk0
        go_wp2_with fail
        go_round
        case rel => exact ⟨1, by omega, by go_num, by simp⟩
        case measure => simp [intOf]
      · obtain rfl : k = 1 := by omega
        go_wp2_with fail
        go_round
        case rel => exact ⟨2, by omega, by go_num, by simp⟩
        case measure => simp [intOf]
    · obtain rfl : k = 2 := by omega
      have hg := Lib.hid (growC_any (n + m) w (by omega))
      go_wp2_with fail
      refine hg.out.mono ?_
      rintro e w1 ⟨v, rfl, hown, hb1⟩
      have hq0 := Lib.hid t0
      have hq1 := Lib.hid t1
      clear t0 t1
      have hT1 : T < w1.heap.size := by have := hb1.size; omega
      clear hg
      go_wp2_with fail
      go_loopw [6, 27] (fun v i wr => ∃ k : Nat, k ≤ 2 ∧ i = .int .i64 k ∧ ∃ xs, wr.ownsRow w.heap.size 46 4 v (conN n m k) xs ∧ CV wr w.heap.size xs (conP ca cb k) ∧ Go.RowKit.Below w.heap.size w wr) (fun _ i _ => 2 - (intOf i).toNat)
      case atStart => exact ⟨0, by omega, rfl, [], hown, CV.nil _ _, hb1⟩
      case round =>
        clear hown
        obtain ⟨k, hk, rfl, xs, hown, hcv, hbr⟩ := hrel
        have t0 := (hbr.cell (p := ⟨T, 0, none⟩) hT).trans hq0.out
        have t1 := (hbr.cell (p := ⟨T, 1, none⟩) hT).trans hq1.out
        by_cases hlt : k < 2
        · by_cases hk0 : k = 0
          · subst hk0
            have hown : wr.ownsRow w.heap.size 46 4 _ 0 xs := hown
            obtain rfl : xs = [] := List.eq_nil_of_length_eq_zero hcv.1
            cases A with
            | none =>
              obtain rfl := hA rfl
              obtain ⟨rfl, rfl⟩ := cl_nil ha
              go_wp2_with (at_builtin; refine wpList_append_own_none rfl _ _ 22 rfl w.heap.size 46 i0 4 Try.underlying22 hi _ 0 [] rfl hown rfl ?_)
              go_wp2_with fail
              go_roundw
              case rel => exact ⟨_, _, _, ⟨1, by omega, rfl, [], hown, CV.nil _ _⟩, rfl, rfl, rfl⟩
              case measure => simp [intOf]
            | some a =>
              obtain ⟨ys, hys, hcs⟩ := CV.cells ha
              have Hcs := Lib.hid hcs
              clear hcs
              go_wp2_with (at_builtin; refine wpList_append_own _ rfl _ _ 22 rfl w.heap.size 46 i0 (.agg #[.int .i64 0, .slice none 0 0, .int .i64 0, .slice none 0 0]) 4 64 Try.underlying22 hi hz0 hz1 hz2 rfl (by decide) _ 0 [] rfl hown a n capA ys rfl hys (Hcs.out _ hbr).2 (Hcs.out _ hbr).1.oneCell (by unfold maxLen; omega) (by omega) hbr.size ?_)
              intro v' w5 hown5 hgrow _
              have hb5 := hbr.grown hgrow hbr.size fun j hj => (hown.lt j hj).1
              go_wp2_with fail
              go_roundw
              case rel => exact ⟨1, by omega, by go_num, ys, hown5, (Hcs.out _ hb5).1, hb5⟩
              case measure => simp [intOf]
          · obtain rfl : k = 1 := by omega
            have hown : wr.ownsRow w.heap.size 46 4 _ n xs := hown
            have hcv : CV wr w.heap.size xs ca := hcv
            cases B with
            | none =>
              obtain rfl := hB rfl
              obtain ⟨rfl, rfl⟩ := cl_nil hb
              have hcv2 : CV wr w.heap.size xs (ca ++ []) := by rw [List.append_nil]; exact hcv
              go_wp2_with (at_builtin; refine wpList_append_own_none rfl _ _ 22 rfl w.heap.size 46 i0 4 Try.underlying22 hi _ n xs rfl hown rfl ?_)
              go_wp2_with fail
              go_roundw
              case rel => exact ⟨_, _, _, ⟨2, by omega, rfl, xs, hown, hcv2⟩, rfl, rfl, rfl⟩
              case measure => simp [intOf]
            | some a =>
              obtain ⟨ys, hys, hcs⟩ := CV.cells hb
              have Hcs := Lib.hid hcs
              clear hcs
              go_wp2_with (at_builtin; refine wpList_append_own _ rfl _ _ 22 rfl w.heap.size 46 i0 (.agg #[.int .i64 0, .slice none 0 0, .int .i64 0, .slice none 0 0]) 4 64 Try.underlying22 hi hz0 hz1 hz2 rfl (by decide) _ n xs rfl hown a m capB ys rfl hys (Hcs.out _ hbr).2 (Hcs.out _ hbr).1.oneCell (by unfold maxLen; omega) (by omega) hbr.size ?_)
              intro v' w5 hown5 hgrow _
              have hb15 : Below w.heap.size wr w5 := (Below.refl _ wr).grown hgrow hbr.size fun j hj => (hown.lt j hj).1
              have hb5 := hbr.trans hb15
              go_wp2_with fail
              go_roundw
              case rel => exact ⟨2, by omega, by go_num, xs ++ ys, hown5, (hcv.below hb15).append (Hcs.out _ hb5).1, hb5⟩
              case measure => simp [intOf]
        · obtain rfl : k = 2 := by omega
          have hown : wr.ownsRow w.heap.size 46 4 _ (n + m) xs := hown
          have hcv : CV wr w.heap.size xs (ca ++ cb) := hcv
          go_wp2_with fail
          go_ret
          exact ⟨_, xs, rfl, hown, hcv, hbr⟩
end Go.Proofs.Ytkbhmkngipdkiaa
