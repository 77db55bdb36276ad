/-
  The law of 'Classes': program and reference gather the same sets.
-/
import Derived.Test.YtfaebmpdianniaaGCls
import Derived.Test.YtfaebmpdianniaaGHeavy
namespace Go.Proofs.Ytfaebmpdianniaa
open Go Go.RowKit

/-- what Classes says is a pair of a slice and an error -/
theorem RClsPost.pair {v : Int} {cs : List LCn} {w : World} {e : Ending} {w' : World} (h : RClsPost v cs w e w') : ∃ A n c r, e = .returned (.tuple #[.slice A n c, .int .i64 r]) := by
  obtain ⟨_, ⟨_, rfl⟩ | ⟨_, n, _, ⟨rfl, _⟩ | ⟨u, xs, rfl, ho, _, _⟩⟩⟩ := h
  · exact ⟨_, _, _, _, rfl⟩
  · exact ⟨_, _, _, _, rfl⟩
  · obtain ⟨A, c, rfl⟩ := own_sl ho
    exact ⟨_, _, _, _, rfl⟩
/-- two that say it say the same -/
theorem RClsPost.same {v : Int} {cs : List LCn} {w w1 w2 : World} {e d : Ending} (h : RClsPost v cs w e w1) (g : RClsPost v cs w1 d w2) : ∃ u1 u2 r ls, e = .returned (.tuple #[u1, .int .i64 r]) ∧ d = .returned (.tuple #[u2, .int .i64 r]) ∧ LL w2 u1 ls ∧ LL w2 u2 ls ∧ (∀ l ∈ ls, l.length ≤ 1000000) ∧ ls.length ≤ 1000000 := by
  have hbl := g.1
  obtain ⟨_, ⟨h0, rfl⟩ | ⟨h0, n, rfl, ⟨rfl, hno⟩ | ⟨u, xs, rfl, ho, hk, y, hy⟩⟩⟩ := h
  · obtain ⟨_, ⟨_, rfl⟩ | ⟨g0, _⟩⟩ := g
    · exact ⟨_, _, _, [], rfl, rfl, LL.nil _, LL.nil _, (fun l hl => by cases hl), (by simp)⟩
    · rw [h0] at g0; cases g0
  · obtain ⟨_, ⟨g0, _⟩ | ⟨_, m, hm, ⟨rfl, _⟩ | ⟨_, _, _, _, _, y, hy⟩⟩⟩ := g
    · rw [h0] at g0; cases g0
    · exact ⟨_, _, _, [], rfl, rfl, LL.nil _, LL.nil _, (fun l hl => by cases hl), (by simp)⟩
    · obtain rfl : n = m := by omega
      exact absurd hy (hno y)
  · obtain ⟨_, ⟨g0, _⟩ | ⟨_, m, hm, ⟨_, hno⟩ | ⟨u2, xs2, rfl, ho2, hk2, _⟩⟩⟩ := g
    · rw [h0] at g0; cases g0
    · obtain rfl : n = m := by omega
      exact absurd hy (hno y)
    · obtain rfl : n = m := by omega
      obtain ⟨n', hn', hn2, _⟩ := gvld_parts h0
      obtain rfl : n = n' := by omega
      refine ⟨_, _, _, _, rfl, rfl, (LL.of_own ho hk).below hbl, LL.of_own ho2 hk2, fun l hl => ?_, ?_⟩
      · unfold cls at hl
        obtain ⟨u, _, rfl⟩ := List.mem_map.1 hl
        have := mem1_len (eqN (esA n cs)) u n
        omega
      · have := cls_len (eqN (esA n cs)) n n
        omega

set_option maxRecDepth 100000 in
set_option maxHeartbeats 4000000 in
theorem lawClasses_any (v : Int) (A : Option Addr) (K cap : Nat) (cs : List LCn) (w : World) (h : CL w w.heap.size A K cs) (hK : K ≤ 9223372036854775807) :
    Calls Try.prog 3 #[.int .i64 v, .slice A K cap] w fun e w' => e = .returned (.bool true) ∧ Below w.heap.size w w' := by
  have h1 := heavy_any v 120 A K cap cs w h hK
  have hB := Lib.hid (classes_any v A K cap cs w h hK)
  cases hb : heavyB v 120 cs
  all_goals
    rw [hb] at h1
    have H1 := Lib.hid h1
    clear h1
    go_enter Try.func3, Try.ntmps3
    go_wp2_with fail
    refine H1.out.mono ?_
    rintro e w1 ⟨rfl, rfl⟩
  · go_wp2_with fail
    refine hB.out.mono ?_
    intro e w2 hp
    have hb2 := hp.1
    have hR := Lib.hid ((rclasses_any v A K cap cs w2 (h.lift hb2) hK).mono fun d w' hd => And.intro hd (hp.same hd))
    obtain ⟨A1, n1, c1, r1, rfl⟩ := hp.pair
    clear hp
    go_wp2_with fail
    refine hR.out.mono ?_
    rintro d w3 ⟨hd, u1, u2, r, ls, he, rfl, hl1, hl2, hl3, hl4⟩
    cases he
    have hb3 := hd.1
    have hb13 := hb2.trans (hb3.mono hb2.size)
    obtain ⟨A2, n2, c2, r2, he2⟩ := hd.pair
    cases he2
    have Heq := Lib.hid (eqClasses_true _ _ ls w3 hl1 hl2 hl3 hl4)
    clear hR hd hl1 hl2
    go_wp2_with fail
    refine Heq.out.mono ?_
    rintro e w4 ⟨rfl, hb4⟩
    have hb14 := hb13.trans (hb4.mono hb13.size)
    go_wp2_with fail
    refine (awake_any _).mono ?_
    rintro e w5 ⟨rfl, hb5⟩
    go_wp2_with fail
    go_ret
    exact ⟨rfl, hb14.trans (hb5.mono hb14.size)⟩
  · go_wp2_with fail
    refine (awake_any _).mono ?_
    rintro e w4 ⟨rfl, hb4⟩
    go_wp2_with fail
    go_ret
    exact ⟨rfl, hb4⟩
end Go.Proofs.Ytfaebmpdianniaa
