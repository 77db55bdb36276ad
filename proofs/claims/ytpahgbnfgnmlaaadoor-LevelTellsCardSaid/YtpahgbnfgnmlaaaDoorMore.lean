/-
  'more' of the reference: the parts with a number added, in new memory.
-/
import Derived.Test.YtpahgbnfgnmlaaaDoorRaised
namespace Go.Proofs.YtpahgbnfgnmlaaaDoor
open Go Go.RowKit Go.Sort Go.Shelf

set_option maxRecDepth 100000 in
set_option maxHeartbeats 4000000 in
theorem more_any (c : Int) (A : Option Addr) (n cap : Nat) (l : List (Int × Int)) (r : Int) (w : World) (h : PL w w.heap.size A n l) (hn : n ≤ 1000000) (hr0 : 0 ≤ r) (hr1 : r ≤ 1000) (hx : ∀ (k : Nat) (x : Int × Int), l[k]? = some x → 0 ≤ x.2 ∧ x.2 ≤ 1000) :
    Calls Tryd.prog 46 #[.agg #[.int .i64 c, .slice A n cap], .int .i64 r] w fun e w' => ∃ v, e = .returned v ∧ w'.ownsRow w.heap.size 50 2 v (rl r l).length (flat2 (rl r l)) ∧ Go.RowKit.Below w.heap.size w w' := by
  obtain ⟨i0, hi, hz0, hz1, hz2⟩ := info_parts infoV
  have Hx := Lib.hid hx; clear hx
  go_enter Tryd.func46, Tryd.ntmps46
  go_wp2_with fail
  go_loopw [5, 6] (fun u i wr => ∃ k : Nat, k ≤ n ∧ i = .int .i64 k ∧ ∃ v : Value, u = v ∧ wr.ownsRow (w.heap.size + 1) 50 2 v (rl r (l.take k)).length (flat2 (rl r (l.take k))) ∧ Go.RowKit.Below (w.heap.size + 1) (w.alloc (.cells #[.int .i64 c, .slice A n cap] 24)) wr) (fun _ i _ => n - (intOf i).toNat)
  case atStart => exact ⟨0, Nat.zero_le _, rfl, _, rfl, World.ownsRow_nil _ _ _ _, Go.RowKit.Below.refl _ _⟩
  case round =>
    obtain ⟨k, hk, rfl, v, rfl, hown, hbr⟩ := hrel

    have hbwr := back0 hbr
    have hsz : w.heap.size + 1 ≤ wr.heap.size := by simpa using hbr.size
    have a1 : wr.cell? ⟨w.heap.size, 1, none⟩ = some (.slice A n cap) := (hbr.cell (p := ⟨w.heap.size, 1, none⟩) (by simp)).trans (by simp)
    by_cases hlt : k < n
    · obtain ⟨b, off, x, rfl, hbl, hx, hx0, hx1⟩ := (h.below hbwr).at_ hlt
      obtain ⟨q0, q1⟩ := Hx.out k x hx
      have Hst : Hid (rl r (l.take (k + 1)) = rl r (l.take k) ++ [(x.1, x.2 + r)]) := by rw [Hid, take_snoc hx, rl_snoc]
      have hql : (rl r (l.take k)).length ≤ 1000000 := by rw [rl_len, List.length_take]; omega
      generalize rl r (l.take k) = q at hown Hst hql
      obtain ⟨A', c', rfl, _, _, _, _⟩ := PL.of_own hown
      have hwr : Hid (IntKind.i64.wrap (x.2 + r) = x.2 + r) := IntWalk.i64_in _ (by omega)
      have hne : w.heap.size ≠ wr.heap.size := by omega
      have hne' : w.heap.size < wr.heap.size := by omega
      have hnb : b ≠ wr.heap.size := by omega
      have hnb' : b < wr.heap.size := by omega
      go_wp2_with fail
      go_region_law (refine step_append_own rfl (.tmp 14) (.tmp 30) 22 rfl (w.heap.size + 1) 50 i0 (.agg #[.int .i64 0, .int .i64 0]) 2 16 Tryd.underlying22 hi hz0 hz1 hz2 rfl (by decide) (.slice A' q.length c') q.length (flat2 q) rfl (by first | exact hown.drew.alloc _ | exact (hown.alloc _).drew | exact hown.alloc _) ⟨wr.heap.size, 0, none⟩ 1 1 [.int .i64 x.1, .int .i64 (IntKind.i64.wrap (x.2 + r))] rfl rfl (news2' (x := (x.1, IntKind.i64.wrap (x.2 + r))) (by simp)) (news2_one (x := (x.1, IntKind.i64.wrap (x.2 + r)))) (by unfold maxLen; omega) (by omega) (by simp; omega) ?_; intro v' w5 hown5 hgrow; rw [hwr.out] at hown5; have hb5 : Go.RowKit.Below (w.heap.size + 1) wr w5 := ((Go.RowKit.Below.refl _ wr).drew.alloc (by simpa using hsz) _).grown hgrow (by simp; omega) (fun j hj => (hown.lt j hj).1))
      all_goals
        go_wp2_with fail
        go_roundw
        case rel => exact ⟨k + 1, by omega, by go_num, _, rfl, by rw [Hst.out, List.length_append, flat2_app, flat2_one]; exact hown5, hbr.trans hb5⟩
        case measure => simp [intOf]; omega
    · have hfull : l.take k = l := List.take_of_length_le (by have := h.1; omega)
      rw [hfull] at hown
      clear hfull
      go_wp2_with fail
      go_ret
      exact ⟨_, rfl, own_base hown (by omega), hbwr⟩
end Go.Proofs.YtpahgbnfgnmlaaaDoor
