/-
  'Valid' of the reference of package level: the same Bool as package level's own, for every level.
-/
import Derived.Test.YtdhbfkbkgjmniaaGreatDoorVld
namespace Go.Proofs.YtdhbfkbkgjmniaaGreatDoor
open Go Go.RowKit

set_option maxRecDepth 100000 in
set_option maxHeartbeats 2000000 in
theorem refValid_any (c : Int) (A : Option Addr) (n cap : Nat) (l : List (Int × Int)) (w : World) (h : PL w w.heap.size A n l) (_hn : n ≤ cap) (_hm : cap ≤ 9223372036854775807) :
    Calls Tryz.prog 109 #[.agg #[.int .i64 c, .slice A n cap]] w fun e w' => e = .returned (.bool (vld c l)) ∧ Below w.heap.size w w' := by
  by_cases h0 : 0 ≤ c ∧ c ≤ 1000 ∧ (n : Int) ≤ 8
  case neg =>
    have Hf : Hid (vld c l = false) := vld_not fun h' => h0 ⟨h'.lo, h'.hi, by have := h'.len; have := h.1; omega⟩
    by_cases g0 : c < 0
    · go_enter Tryz.func109, Tryz.ntmps109
      go_wp2
      go_ret
      exact ⟨ret_bool Hf.out.symm, (Below.refl _ _).alloc (Nat.le_refl _) _⟩
    by_cases g1 : 1000 < c
    · go_enter Tryz.func109, Tryz.ntmps109
      go_wp2
      go_ret
      exact ⟨ret_bool Hf.out.symm, (Below.refl _ _).alloc (Nat.le_refl _) _⟩
    have g2 : 8 < (n : Int) := by omega
    clear h0
    go_enter Tryz.func109, Tryz.ntmps109
    go_wp2
    go_ret
    exact ⟨ret_bool Hf.out.symm, (Below.refl _ _).alloc (Nat.le_refl _) _⟩
  obtain ⟨g0, g1, g2⟩ := h0
  go_enter Tryz.func109, Tryz.ntmps109
  go_wp2
  go_loopw [3] (fun i wr => ∃ k : Nat, k ≤ n ∧ i = .int .i64 k ∧ OkUp l k ∧ Below (w.heap.size + 1) (w.alloc (.cells #[.int .i64 c, .slice A n cap] 34)) wr) (fun i _ => n - (intOf i).toNat)
  case atStart => exact ⟨0, Nat.zero_le _, rfl, okUp_zero l, Below.refl _ _⟩
  case round =>
    obtain ⟨k, hk, rfl, hok, hb⟩ := hrel
    have hs : wr.cell? ⟨w.heap.size, 1, none⟩ = some (.slice A n cap) := (hb.cell (p := ⟨w.heap.size, 1, none⟩) (by simp)).trans (by simp)
    have hsz : w.heap.size + 1 ≤ wr.heap.size := by simpa using hb.size
    have h' : PL wr w.heap.size A n l := h.keep fun p hp => (hb.cell (p := p) (by omega)).trans (World.cell?_alloc_lt w _ p hp)
    have hne : w.heap.size ≠ wr.heap.size := by omega
    have hlt0 : w.heap.size < wr.heap.size := by omega
    by_cases hlt : k < n
    · obtain ⟨b, off, x, rfl, hbl, hx, hx0, hx1⟩ := h'.at_ hlt
      by_cases a1 : 0 ≤ x.1 ∧ x.1 < 1200 ∧ 0 ≤ x.2 ∧ x.2 ≤ 1000
      case neg =>
        have Hf : Hid (vld c l = false) := not_ok hx fun h => a1 (by omega)
        by_cases q1 : x.1 < 0
        · clear a1
          go_wp2
          go_ret
          exact ⟨ret_bool Hf.out.symm, back hb _⟩
        by_cases q2 : 1200 ≤ x.1
        · clear a1
          go_wp2
          go_ret
          exact ⟨ret_bool Hf.out.symm, back hb _⟩
        by_cases q3 : x.2 < 0
        · clear a1
          go_wp2
          go_ret
          exact ⟨ret_bool Hf.out.symm, back hb _⟩
        have q4 : 1000 < x.2 := by omega
        clear a1
        go_wp2
        go_ret
        exact ⟨ret_bool Hf.out.symm, back hb _⟩
      obtain ⟨q1, q2, q3, q4⟩ := a1
      go_wp2
      have hbx : Below (wr.heap.size + 1) (wr.alloc (.cells #[.int .i64 x.1, .int .i64 x.2] 66)) (wr.alloc (.cells #[.int .i64 x.1, .int .i64 x.2] 66)) := Below.refl _ _
      obtain ⟨wo, rfl⟩ : ∃ wo : World, wo = wr := ⟨_, rfl⟩
      go_loopw [5] (fun i wr => ∃ j : Nat, j ≤ k ∧ i = .int .i64 j ∧ hasv (l.take j) x.1 = false ∧ Below (wo.heap.size + 1) (wo.alloc (.cells #[.int .i64 x.1, .int .i64 x.2] 66)) wr) (fun i _ => k - (intOf i).toNat)
      case atStart => exact ⟨0, Nat.zero_le _, rfl, rfl, hbx⟩
      case round =>
        obtain ⟨j, hj, rfl, hno, hb2⟩ := hrel
        have Hno := Lib.hid hno; clear hno
        have hb3 : Below (w.heap.size + 1) (w.alloc (.cells #[.int .i64 c, .slice (some ⟨b, off, none⟩) n cap] 34)) wr := (hb.alloc hsz _).trans (hb2.mono (by omega))
        have hwo : wo.heap.size < wr.heap.size := by have := hb2.size; simp at this; omega
        have c1 : wr.cell? ⟨w.heap.size, 1, none⟩ = some (.slice (some ⟨b, off, none⟩) n cap) := (hb3.cell (p := ⟨w.heap.size, 1, none⟩) (by simp)).trans (by simp)
        have c2 : wr.cell? ⟨wo.heap.size, 0, none⟩ = some (.int .i64 x.1) := (hb2.cell (p := ⟨wo.heap.size, 0, none⟩) (by simp)).trans (by simp)
        have h'' : PL wr w.heap.size (some ⟨b, off, none⟩) n l := h.keep fun p hp => (hb3.cell (p := p) (by omega)).trans (World.cell?_alloc_lt w _ p hp)
        by_cases hjk : j < k
        · have hjn : j < n := by omega
          obtain ⟨b2, off2, y, hA, _, hy, hy0, hy1⟩ := h''.at_ hjn
          obtain ⟨rfl, rfl⟩ : b = b2 ∧ off = off2 := by simpa using hA
          clear hA hs hx0 hx1
          by_cases he : y.1 = x.1
          · have hd : (y.1 == x.1) = true := by simp [he]
            have Hf : Hid (vld c l = false) := not_ok hx fun h => by
              have := List.any_eq_false.1 h.2.2 y (by rw [List.mem_take_iff_getElem]; obtain ⟨q, rfl⟩ := List.getElem?_eq_some_iff.1 hy; exact ⟨j, by omega, rfl⟩)
              simp [he] at this
            clear he
            go_wp2
            go_quiet (fail)
            go_wp2
            go_ret
            exact ⟨ret_bool Hf.out.symm, back0 (below_drewN hb3 _)⟩
          · have hd : (y.1 == x.1) = false := by simp [he]
            have Hs : Hid (hasv (l.take (j + 1)) x.1 = false) := by rw [Hid, take_snoc hy, hasv_snoc, Hno.out, hd]; rfl
            clear he
            go_wp2
            go_quiet (fail)
            go_wp2
            go_roundw
            case rel => exact ⟨j + 1, by omega, by go_num, Hs.out, below_drewN hb2 _⟩
            case measure => simp [intOf]; omega
        · obtain rfl : j = k := by omega
          have Hs : Hid (OkUp l (j + 1)) := okUp_succ hok hx ⟨q1, by omega⟩ ⟨q3, q4⟩ Hno.out
          go_wp2
          go_roundw
          case rel => exact ⟨j + 1, by omega, by go_num, Hs.out, hb3⟩
          case measure => simp [intOf]; omega
    · have Hf : Hid (vld c l = true) := vld_of ⟨g0, g1, by have := h.1; omega, by
        have : l.length = k := by have := h.1; omega
        rw [this]; exact hok⟩
      go_wp2
      go_ret
      exact ⟨ret_bool Hf.out.symm, back0 hb⟩
end Go.Proofs.YtdhbfkbkgjmniaaGreatDoor
