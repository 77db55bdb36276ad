/-
  slices.Concat at two lists of parts: the one behind the other, in memory of its own.
-/
import Derived.Test.YtpahgbnfgnmlaaaDoorRaised
import Derived.Test.YtpahgbnfgnmlaaaDoorShelf2
import Derived.Shelf.Spec.SlicesGrow
import Derived.Laws.AppendOwnNone
namespace Go.Proofs.YtpahgbnfgnmlaaaDoor
open Go Go.RowKit Go.Sort Go.Shelf

theorem grow_any (k : Nat) (w : World) (hk : k ≤ 1000000) :
    Calls Tryd.prog 72 #[.slice none 0 0, .int .i64 k] w fun e w' => ∃ v, e = .returned v ∧ w'.ownsRow w.heap.size 50 2 v 0 [] ∧ Go.RowKit.Below w.heap.size w w' := by
  obtain ⟨i0, hi, hz0, hz1, hz2⟩ := info_parts infoV
  rcases Nat.eq_zero_or_pos k with rfl | hk0
  · refine (Any8.slices_Grow_room Tryd.layGrow none 0 0 0 w (Nat.le_refl _) (by omega) (by omega) (Nat.le_refl _)).mono ?_
    rintro e w' ⟨he, hw⟩
    subst hw
    exact ⟨_, he, World.ownsRow_nil _ _ _ _, Go.RowKit.Below.refl _ _⟩
  · have hG := grownCap_le_maxLen w (0 + k) 0 (Tryd.layGrow_ren.t 25) (by unfold maxLen; omega)
    have hG2 : k ≤ grownCap w k 0 (Tryd.layGrow_ren.t 25) := by simpa using grownCap_ge w (0 + k) 0 (Tryd.layGrow_ren.t 25)
    refine (Any8.slices_Grow_grow Tryd.layGrow i0 (.agg #[.int .i64 0, .int .i64 0]) hi hz0 (by omega) none 0 0 k [] w (Nat.le_refl _) (by omega) (by rw [hz2]; omega) (by omega) (by simp) (fun _ => rfl) (fun _ e => by cases e)).mono ?_
    rintro e w' ⟨he, hw⟩
    refine ⟨_, he, ?_, ?_⟩
    · rw [hw]
      exact World.ownsRow_made w.drew _ _ (Nat.le_refl _) hG (by simp [Builtin.zeroCells, Value.cells]; omega)
    · rw [hw]
      exact (Go.RowKit.Below.refl _ w).drew.alloc (Nat.le_refl _) _

theorem PL.cells {w : World} {B n : Nat} {a : Addr} {l : List (Int × Int)} (h : PL w B (some a) n l) : ∀ j u, (flat2 l)[j]? = some u → w.cell? (a.add j) = some u := by
  intro j u hu
  have hj : j < l.length * 2 := by rw [← flat2_len]; exact (List.getElem?_eq_some_iff.1 hu).1
  have hl := h.1
  obtain ⟨b, off, e, _, hc⟩ := h.2 (by omega)
  injection e with e
  subst e
  have hd : j / 2 < l.length := by omega
  obtain ⟨f1, f2⟩ := flat2_at (List.getElem?_eq_getElem hd)
  obtain ⟨c1, c2⟩ := hc (j / 2) _ (List.getElem?_eq_getElem hd)
  rw [Go.WideShapes.add_plain]
  generalize l[j / 2] = x at f1 f2 c1 c2
  rcases Nat.mod_two_eq_zero_or_one j with h0 | h0
  · rw [show j / 2 * 2 = j by omega] at f1 c1
    rw [c1, ← f1, hu]
  · rw [show j / 2 * 2 + 1 = j by omega] at f2
    rw [Nat.add_assoc, show j / 2 * 2 + 1 = j by omega] at c2
    rw [c2, ← f2, hu]

set_option maxRecDepth 100000 in
set_option maxHeartbeats 4000000 in
theorem concat_any (A : Option Addr) (n capA : Nat) (la : List (Int × Int)) (B : Option Addr) (m capB : Nat) (lb : List (Int × Int)) (T : Nat) (w : World) (ha : PL w w.heap.size A n la) (hb : PL w w.heap.size B m lb) (hn : n ≤ 100000) (hm : m ≤ 100000)
    (hA : A = none → capA = 0) (hB : B = none → capB = 0) (hT : T < w.heap.size) (t0 : w.cell? ⟨T, 0, none⟩ = some (.slice A n capA)) (t1 : w.cell? ⟨T, 1, none⟩ = some (.slice B m capB)) :
    Calls Tryd.prog 64 #[.slice (some ⟨T, 0, none⟩) 2 2] w fun e w' => ∃ v, e = .returned v ∧ w'.ownsRow w.heap.size 50 2 v (la ++ lb).length (flat2 (la ++ lb)) ∧ Go.RowKit.Below w.heap.size w w' := by
  obtain ⟨i0, hi, hz0, hz1, hz2⟩ := info_parts infoV
  have Hab : Hid ((la ++ lb).length = n + m) := by rw [Hid, List.length_append, ha.1, hb.1]
  go_enter Tryd.func64, Tryd.ntmps64
  go_wp2_with fail
  go_loop [3, 11] (fun s i => ∃ k : Nat, k ≤ 2 ∧ i = .int .i64 k ∧ s = .int .i64 (if k = 0 then 0 else if k = 1 then n else n + m)) (fun _ i => 2 - (intOf i).toNat)
  case atStart => exact ⟨0, by omega, rfl, rfl⟩
  case round =>
    obtain ⟨k, hk, rfl, rfl⟩ := hrel
    by_cases hlt : k < 2
    · by_cases hk0 : k = 0
      · subst hk0
        go_wp2_with fail
        go_round
        case rel => exact ⟨1, by omega, by go_num, by simp⟩
        case measure => simp [intOf]
      · obtain rfl : k = 1 := by omega
        go_wp2_with fail
        go_round
        case rel => exact ⟨2, by omega, by go_num, by simp⟩
        case measure => simp [intOf]
    · obtain rfl : k = 2 := by omega
      have hg := Lib.hid (grow_any (n + m) w (by omega))
      go_wp2_with fail
      refine hg.out.mono ?_
      rintro e w1 ⟨v, rfl, hown, hb1⟩
      have hq0 := Lib.hid t0
      have hq1 := Lib.hid t1
      clear t0 t1
      have hT1 : T < w1.heap.size := by have := hb1.size; omega
      clear hg
      go_wp2_with fail
      go_loopw [6, 27] (fun v i wr => ∃ k : Nat, k ≤ 2 ∧ i = .int .i64 k ∧ wr.ownsRow w.heap.size 50 2 v (if k = 0 then ([] : List (Int × Int)) else if k = 1 then la else la ++ lb).length (flat2 (if k = 0 then ([] : List (Int × Int)) else if k = 1 then la else la ++ lb)) ∧ Go.RowKit.Below w.heap.size w wr) (fun _ i _ => 2 - (intOf i).toNat)
      case atStart => exact ⟨0, by omega, rfl, hown, hb1⟩
      case round =>
        clear hown
        obtain ⟨k, hk, rfl, hown, hbr⟩ := hrel
        have t0 := (hbr.cell (p := ⟨T, 0, none⟩) hT).trans hq0.out
        have t1 := (hbr.cell (p := ⟨T, 1, none⟩) hT).trans hq1.out
        by_cases hlt : k < 2
        · by_cases hk0 : k = 0
          · subst hk0
            have hown : wr.ownsRow w.heap.size 50 2 _ 0 [] := hown
            cases A with
            | none =>
              obtain rfl := hA rfl
              have hn0 : n = 0 := by
                rcases Nat.eq_zero_or_pos n with h | h
                · exact h
                · obtain ⟨b, off, e, _⟩ := ha.2 h; cases e
              subst hn0
              have hla : la = [] := List.eq_nil_of_length_eq_zero ha.1
              subst hla
              go_wp2_with (at_builtin; refine wpList_append_own_none rfl _ _ 22 rfl w.heap.size 50 i0 2 Tryd.underlying22 hi _ 0 [] rfl hown rfl ?_)
              go_wp2_with fail
              go_roundw
              case rel => first | exact ⟨1, by omega, by go_num, hown, hbr⟩ | exact ⟨_, _, _, ⟨1, by omega, rfl, hown⟩, rfl, rfl, rfl⟩
              case measure => simp [intOf]
            | some a =>
              have hcs := Lib.hid (fun W (hW : Go.RowKit.Below w.heap.size w W) => (ha.below hW).cells)
              have hl := Lib.hid ha.1
              go_wp2_with (at_builtin; refine wpList_append_own _ rfl _ _ 22 rfl w.heap.size 50 i0 (.agg #[.int .i64 0, .int .i64 0]) 2 16 Tryd.underlying22 hi hz0 hz1 hz2 rfl (by decide) _ 0 [] rfl hown a n capA (flat2 la) rfl (by rw [flat2_len, hl.out]) (hcs.out _ hbr) (flat2_one_cell la) (by unfold maxLen; omega) (by omega) hbr.size ?_)
              intro v' w5 hown5 hgrow _
              go_wp2_with fail
              go_roundw
              case rel => exact ⟨1, by omega, by go_num, by simp only [show (1 : Nat) ≠ 0 by decide, if_false, if_true]; rw [hl.out]; simpa using hown5, hbr.grown hgrow hbr.size fun j hj => (hown.lt j hj).1⟩
              case measure => simp [intOf]
          · obtain rfl : k = 1 := by omega
            have hownA : wr.ownsRow w.heap.size 50 2 _ la.length (flat2 la) := hown
            clear hown
            have hlan := Lib.hid ha.1
            rw [ha.1] at hownA
            cases B with
            | none =>
              obtain rfl := hB rfl
              have hm0 : m = 0 := by
                rcases Nat.eq_zero_or_pos m with h | h
                · exact h
                · obtain ⟨b, off, e, _⟩ := hb.2 h; cases e
              subst hm0
              have hlb : lb = [] := List.eq_nil_of_length_eq_zero hb.1
              subst hlb
              have hown2 : Hid (∀ v, wr.ownsRow w.heap.size 50 2 v n (flat2 la) → wr.ownsRow w.heap.size 50 2 v (la ++ []).length (flat2 (la ++ []))) := fun v h => by rw [List.append_nil, hlan.out]; exact h
              go_wp2_with (at_builtin; refine wpList_append_own_none rfl _ _ 22 rfl w.heap.size 50 i0 2 Tryd.underlying22 hi _ n (flat2 la) rfl hownA rfl ?_)
              go_wp2_with fail
              go_roundw
              case rel => first | exact ⟨2, by omega, by go_num, hown2.out _ hownA, hbr⟩ | exact ⟨_, _, _, ⟨2, by omega, rfl, hown2.out _ hownA⟩, rfl, rfl, rfl⟩ | exact ⟨_, _, _, ⟨2, by omega, rfl, by simpa [hlan.out] using hownA⟩, rfl, rfl, rfl⟩
              case measure => simp [intOf]
            | some a =>
              have hcs := Lib.hid (fun W (hW : Go.RowKit.Below w.heap.size w W) => (hb.below hW).cells)
              have hl := Lib.hid hb.1
              go_wp2_with (at_builtin; refine wpList_append_own _ rfl _ _ 22 rfl w.heap.size 50 i0 (.agg #[.int .i64 0, .int .i64 0]) 2 16 Tryd.underlying22 hi hz0 hz1 hz2 rfl (by decide) _ n (flat2 la) rfl hownA a m capB (flat2 lb) rfl (by rw [flat2_len, hl.out]) (hcs.out _ hbr) (flat2_one_cell lb) (by unfold maxLen; omega) (by omega) hbr.size ?_)
              intro v' w5 hown5 hgrow _
              go_wp2_with fail
              go_roundw
              case rel => exact ⟨2, by omega, by go_num, by simp only [show (2 : Nat) ≠ 0 by decide, show (2 : Nat) ≠ 1 by decide, if_false]; rw [Hab.out, flat2_app]; exact hown5, hbr.grown hgrow hbr.size fun j hj => (hownA.lt j hj).1⟩
              case measure => simp [intOf]
        · obtain rfl : k = 2 := by omega
          have hown : wr.ownsRow w.heap.size 50 2 _ (la ++ lb).length (flat2 (la ++ lb)) := hown
          go_wp2_with fail
          go_ret
          exact ⟨_, rfl, hown, hbr⟩
end Go.Proofs.YtpahgbnfgnmlaaaDoor
