/-
  Two lists of numbers compared: 'EqInts' of tenetref00 and slices.Equal, for all lists.
-/
import Derived.Test.YtkbhmkngipdkiaaGSolve
namespace Go.Proofs.Ytkbhmkngipdkiaa
open Go Go.RowKit

theorem eq_take {l r : List Int} {n k : Nat} (hl : l.length = n) (hr : r.length = n) (h : l.take k = r.take k) (hk : n ≤ k) : decide (l = r) = true := by
  rw [List.take_of_length_le (by omega), List.take_of_length_le (by omega)] at h
  exact decide_eq_true h
theorem eq_take_succ {l r : List Int} {k : Nat} {x : Int} (h : l.take k = r.take k) (hx : l[k]? = some x) (hy : r[k]? = some x) : l.take (k + 1) = r.take (k + 1) := by
  rw [take_snoc hx, take_snoc hy, h]
theorem eq_at_ne {l r : List Int} {k : Nat} {x y : Int} (hx : l[k]? = some x) (hy : r[k]? = some y) (h : x ≠ y) : decide (l = r) = false :=
  decide_eq_false fun e => h (by rw [e, hy] at hx; exact (Option.some.inj hx).symm)
theorem eq_len_ne {l r : List Int} {n m : Nat} (hl : l.length = n) (hr : r.length = m) (h : n ≠ m) : decide (l = r) = false :=
  decide_eq_false fun e => h (by rw [← hl, ← hr, e])

set_option maxRecDepth 100000 in
set_option maxHeartbeats 4000000 in
theorem eqInts_any (A : Option Addr) (n capA : Nat) (B : Option Addr) (m capB : Nat) (l r : List Int) (w : World) (ha : IL w w.heap.size A n l) (hb : IL w w.heap.size B m r) (hn : n ≤ 1000000) :
    Calls Try.prog 28 #[.slice A n capA, .slice B m capB] w fun e w' => e = .returned (.bool (decide (l = r))) ∧ Below w.heap.size w w' := by
  by_cases hnm : n = m
  · subst hnm
    go_enter Try.func28, Try.ntmps28
    go_wp2_with fail
    go_loopw [5] (fun i wr => ∃ k : Nat, k ≤ n ∧ i = .int .i64 k ∧ l.take k = r.take k ∧ Below w.heap.size w wr) (fun i _ => n - (intOf i).toNat)
    case atStart => exact ⟨0, Nat.zero_le _, rfl, by simp, Below.refl _ _⟩
    case round =>
      obtain ⟨k, hk, rfl, htk, hbr⟩ := hrel
      have Htk := Lib.hid htk
      clear htk
      by_cases hlt : k < n
      · obtain ⟨b, off, x, rfl, hbl, hx, hx0⟩ := (ha.below hbr).at_ hlt
        obtain ⟨b2, off2, y, rfl, hbl2, hy, hy0⟩ := (hb.below hbr).at_ hlt
        by_cases hxy : x = y
        · subst hxy
          have Hn := Lib.hid (eq_take_succ Htk.out hx hy)
          clear hx hy
          go_wp2_with fail
          go_quiet (fail)
          go_wp2_with fail
          go_roundw
          case rel => exact ⟨k + 1, by omega, by go_num, Hn.out, below_drewN hbr _⟩
          case measure => simp [intOf]; omega
        · have Hn := Lib.hid (eq_at_ne hx hy hxy)
          clear hx hy
          go_wp2_with fail
          go_quiet (fail)
          go_wp2_with fail
          go_ret
          exact ⟨ret_bool Hn.out.symm, below_drewN hbr _⟩
      · have Hn := Lib.hid (eq_take ha.1 hb.1 Htk.out (by omega))
        go_wp2_with fail
        go_ret
        exact ⟨ret_bool Hn.out.symm, hbr⟩
  · have Hn := Lib.hid (eq_len_ne ha.1 hb.1 hnm)
    have hnm2 : ¬ (n : Int) = (m : Int) := by omega
    go_enter Try.func28, Try.ntmps28
    go_wp2_with fail
    go_ret
    exact ⟨ret_bool Hn.out.symm, Below.refl _ _⟩

set_option maxRecDepth 100000 in
set_option maxHeartbeats 4000000 in
theorem equal_any (A : Option Addr) (n capA : Nat) (B : Option Addr) (m capB : Nat) (l r : List Int) (w : World) (ha : IL w w.heap.size A n l) (hb : IL w w.heap.size B m r) (hn : n ≤ 1000000) :
    Calls Try.prog 53 #[.slice A n capA, .slice B m capB] w fun e w' => e = .returned (.bool (decide (l = r))) ∧ Below w.heap.size w w' := by
  by_cases hnm : n = m
  · subst hnm
    go_enter Try.func53, Try.ntmps53
    go_wp2_with fail
    go_loopw [13] (fun i wr => ∃ k : Nat, k ≤ n ∧ i = .int .i64 k ∧ l.take k = r.take k ∧ Below w.heap.size w wr) (fun i _ => n - (intOf i).toNat)
    case atStart => exact ⟨0, Nat.zero_le _, rfl, by simp, Below.refl _ _⟩
    case round =>
      obtain ⟨k, hk, rfl, htk, hbr⟩ := hrel
      have Htk := Lib.hid htk
      clear htk
      by_cases hlt : k < n
      · obtain ⟨b, off, x, rfl, hbl, hx, hx0⟩ := (ha.below hbr).at_ hlt
        obtain ⟨b2, off2, y, rfl, hbl2, hy, hy0⟩ := (hb.below hbr).at_ hlt
        by_cases hxy : x = y
        · subst hxy
          have Hn := Lib.hid (eq_take_succ Htk.out hx hy)
          clear hx hy
          go_wp2_with fail
          go_quiet (fail)
          go_wp2_with fail
          go_roundw
          case rel => exact ⟨k + 1, by omega, by go_num, Hn.out, below_drewN hbr _⟩
          case measure => simp [intOf]; omega
        · have Hn := Lib.hid (eq_at_ne hx hy hxy)
          clear hx hy
          go_wp2_with fail
          go_quiet (fail)
          go_wp2_with fail
          go_ret
          exact ⟨ret_bool Hn.out.symm, below_drewN hbr _⟩
      · have Hn := Lib.hid (eq_take ha.1 hb.1 Htk.out (by omega))
        go_wp2_with fail
        go_ret
        exact ⟨ret_bool Hn.out.symm, hbr⟩
  · have Hn := Lib.hid (eq_len_ne ha.1 hb.1 hnm)
    have hnm2 : ¬ (n : Int) = (m : Int) := by omega
    go_enter Try.func53, Try.ntmps53
    go_wp2_with fail
    go_ret
    exact ⟨ret_bool Hn.out.symm, Below.refl _ _⟩
end Go.Proofs.Ytkbhmkngipdkiaa
