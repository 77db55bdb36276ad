/-
  'heavy' of tenetlaw02, and the law GraphHolds.
-/
import Derived.Test.YtfaebmpdianniaaGAwk
import Derived.Test.YtfaebmpdianniaaRHold
namespace Go.Proofs.Ytfaebmpdianniaa
open Go Go.RowKit

def longB (c : LCn) : Bool := decide (20 < c.1.2.length) || decide (20 < c.2.2.length)
def heavyB (v most : Int) (cs : List LCn) : Bool := decide (most < v) || decide (most < (cs.length : Int)) || cs.any longB

set_option maxRecDepth 100000 in
set_option maxHeartbeats 2000000 in
theorem heavy_any (v most : Int) (A : Option Addr) (K cap : Nat) (cs : List LCn) (w : World) (h : CL w w.heap.size A K cs) (hK : K ≤ 9223372036854775807) :
    Calls Try.prog 8 #[.int .i64 v, .slice A K cap, .int .i64 most] w fun e w' => e = .returned (.bool (heavyB v most cs)) ∧ w' = w := by
  have hl : cs.length = K := h.1
  by_cases h1 : most < v
  · have H : Hid (heavyB v most cs = true) := by simp [Hid, heavyB, h1]
    go_enter Try.func8, Try.ntmps8
    go_wp2_with fail
    go_ret
    exact ⟨by rw [H.out]; simp, rfl⟩
  · by_cases h2 : most < (K : Int)
    · have H : Hid (heavyB v most cs = true) := by simp [Hid, heavyB, hl, h2]
      clear hl
      go_enter Try.func8, Try.ntmps8
      go_wp2_with fail
      go_ret
      exact ⟨by rw [H.out]; simp, rfl⟩
    · have H : Hid (heavyB v most cs = cs.any longB) := by simp [Hid, heavyB, hl, h1, h2]
      have Hl := Lib.hid hl
      clear hl
      go_enter Try.func8, Try.ntmps8
      go_wp2_with fail
      go_loopw [7] (fun i wr => ∃ k : Nat, k ≤ K ∧ i = .int .i64 k ∧ (cs.take k).any longB = false ∧ wr = w) (fun i _ => K - (intOf i).toNat)
      case atStart => exact ⟨0, Nat.zero_le _, rfl, rfl, rfl⟩
      case round =>
        obtain ⟨k, hk, rfl, hno, rfl⟩ := hrel
        have Hno := Lib.hid hno; clear hno
        by_cases hlt : k < K
        · obtain ⟨b, off, c, A1, m1, c1, A2, m2, c2, rfl, hbl, hc, y0, y1, y2, y3, p1, p2, hcap1, hcap2⟩ := h.at_ hlt
          have hki : (k : Int) < (K : Int) := by omega
          have l1 : c.1.2.length = m1 := p1.1
          have l2 : c.2.2.length = m2 := p2.1
          have Hc := Lib.hid hc
          by_cases q1 : 20 < m1
          · have q1i : (20 : Int) < (m1 : Int) := by omega
            have Hi : Hid (cs.any longB = true) := List.any_eq_true.2 ⟨c, List.mem_of_getElem? hc, by simp [longB, l1, q1]⟩
            clear hc l1 l2
            go_wp2_with fail
            go_ret
            exact ⟨by rw [H.out, Hi.out]; simp, rfl⟩
          · have q1i : ¬ (20 : Int) < (m1 : Int) := by omega
            by_cases q2 : 20 < m2
            · have q2i : (20 : Int) < (m2 : Int) := by omega
              have Hi : Hid (cs.any longB = true) := List.any_eq_true.2 ⟨c, List.mem_of_getElem? hc, by simp [longB, l2, q2]⟩
              clear hc l1 l2
              go_wp2_with fail
              go_ret
              exact ⟨by rw [H.out, Hi.out]; simp, rfl⟩
            · have q2i : ¬ (20 : Int) < (m2 : Int) := by omega
              have Hi : Hid ((cs.take (k + 1)).any longB = false) := by
                rw [Hid, take_snoc hc, List.any_append, Hno.out]
                simp [longB, l1, l2]
                omega
              clear hc l1 l2
              go_wp2_with fail
              go_roundw
              case rel => exact ⟨k + 1, by omega, by go_num, Hi.out, trivial⟩
              case measure => simp [intOf]; omega
        · have hkK : k = K := by omega
          have Hi : Hid (cs.any longB = false) := by
            have := Hno.out
            rwa [List.take_of_length_le (by have := Hl.out; omega)] at this
          subst hkK
          have hji : ¬ (k : Int) < (k : Int) := by omega
          go_wp2_with fail
          go_ret
          exact ⟨ret_bool (by rw [H.out, Hi.out]), rfl⟩

theorem HoldsPost.same {v : Int} {cs : List LCn} {vs : List Int} {w w' u u' : World} {e d : Ending} (h : HoldsPost v cs vs w e w') (g : HoldsPost v cs vs u d u') :
    ∃ a b : Int, e = .returned (.tuple #[.int .i64 a, .int .i64 b]) ∧ d = .returned (.tuple #[.int .i64 a, .int .i64 b]) := by
  obtain ⟨_, h⟩ := h
  obtain ⟨_, g⟩ := g
  rcases h with ⟨h1, h2⟩ | ⟨h1, ⟨h2, h3⟩ | ⟨h2, h3, i, h4, h5⟩⟩ <;> rcases g with ⟨g1, g2⟩ | ⟨g1, ⟨g2, g3⟩ | ⟨g2, g3, j, g4, g5⟩⟩
  · exact ⟨_, _, h2, g2⟩
  · rw [h1] at g1; cases g1
  · rw [h1] at g1; cases g1
  · rw [h1] at g1; cases g1
  · exact ⟨_, _, h3, g3⟩
  · rcases h2 with h2 | h2
    · exact absurd g2 h2
    · rw [h2] at g3; cases g3
  · rw [h1] at g1; cases g1
  · rcases g2 with g2 | g2
    · exact absurd h2 g2
    · rw [g2] at h3; cases h3
  · rw [h5.same g5] at h4
    exact ⟨_, _, h4, g4⟩

end Go.Proofs.Ytfaebmpdianniaa
