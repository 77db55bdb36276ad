/-
  'CopyInts' of tenetref00, what the least numbers do, and the law GraphLeast.
-/
import Derived.Test.YthjoehjfnedebaaGMean
import Derived.Test.YthjoehjfnedebaaGHeavy
namespace Go.Proofs.Ythjoehjfnedebaa
open Go Go.RowKit

set_option maxRecDepth 100000 in
set_option maxHeartbeats 2000000 in
theorem copyInts_any (A : Option Addr) (n c : Nat) (xs : List Int) (w : World) (h : IL w w.heap.size A n xs) (hn : n ≤ 100000) :
    Calls Try.prog 16 #[.slice A n c] w fun e w' => ∃ v, e = .returned v ∧ w'.ownsRow w.heap.size 3 1 v n (int1 xs) ∧ Below w.heap.size w w' := by
  obtain ⟨i0, hi, hz0, hz1, hz2⟩ := info_parts infoI
  have hl : xs.length = n := h.1
  have Hl := Lib.hid hl
  clear hl
  go_enter Try.func16, Try.ntmps16
  go_wp2_with fail
  go_loopw [3, 4] (fun v i wr => ∃ j : Nat, j ≤ n ∧ i = .int .i64 j ∧ ∃ (A' : Option Addr) (n' c' : Nat), v = .slice A' n' c' ∧ wr.ownsRow w.heap.size 3 1 (.slice A' n' c') (xs.take j).length (int1 (xs.take j)) ∧ Below w.heap.size w wr) (fun _ i _ => n - (intOf i).toNat)
  case atStart => exact ⟨0, Nat.zero_le _, rfl, none, 0, 0, rfl, World.ownsRow_nil _ _ _ _, Below.refl _ _⟩
  case round =>
    obtain ⟨j, hj, rfl, A', n', c', rfl, hown, hbr⟩ := hrel
    have hszr := hbr.size
    by_cases hlt : j < n
    · obtain ⟨b, off, x, rfl, hbl, hx, h0⟩ := (h.below hbr).at_ hlt
      have hji : (j : Int) < (n : Int) := by omega
      have Hst : Hid (xs.take (j + 1) = xs.take j ++ [x]) := take_snoc hx
      have hql : (xs.take j).length ≤ 100000 := by rw [List.length_take]; omega
      generalize xs.take j = q at hown Hst hql
      have hownX : ∀ W, Below wr.heap.size wr W → W.ownsRow w.heap.size 3 1 (.slice A' n' c') q.length (int1 q) := fun W hW => own_below hown hW
      clear hx
      go_wp2_with (at_builtin; refine wpList_append_own _ rfl _ _ 25 rfl w.heap.size 3 i0 (.int .i64 0) 1 8 Try.underlying25 hi hz0 hz1 hz2 rfl (by decide) (.slice A' n' c') q.length (int1 q) rfl (hownX _ ((Below.refl _ wr).alloc (Nat.le_refl _) _)) _ 1 1 [.int .i64 x] rfl rfl (newI rfl) newI_one (by unfold maxLen; omega) (by omega) (by simp; omega) ?_)
      intro v5 w5 hown5 hgrow _
      have hown6 : w5.ownsRow w.heap.size 3 1 v5 (q ++ [x]).length (int1 (q ++ [x])) := by
        rw [List.length_append, int1_app]
        exact hown5
      have hb5 : Below w.heap.size w w5 := (hbr.alloc hszr _).grown hgrow (by simp; omega) (fun j hj => (hown.lt j hj).1)
      clear hown5 hgrow hown hownX
      obtain ⟨A5, c5, rfl⟩ : ∃ A5 c5, v5 = .slice A5 (q ++ [x]).length c5 := by
        rcases hown6.2 with ⟨rfl, hh⟩ | ⟨g, cap, cur, rfl, _⟩
        · simp at hh
        · exact ⟨_, _, rfl⟩
      go_wp2_with fail
      go_roundw
      case rel => exact ⟨j + 1, by omega, by go_num, _, _, _, rfl, by rw [Hst.out]; exact hown6, hb5⟩
      case measure => simp [intOf]; omega
    · have hjn : j = n := by omega
      have hfull : xs.take j = xs := List.take_of_length_le (by rw [Hl.out]; omega)
      rw [hfull, Hl.out] at hown
      clear hfull
      subst hjn
      have hjm2 : ¬ (j : Int) < (j : Int) := by omega
      go_wp2_with fail
      go_ret
      exact ⟨_, rfl, hown, hbr⟩

section
variable {n : Nat} {cs : List LCn} {xs : List Int}
theorem lst_out (hcs : ∀ c ∈ cs, Con n c) (h : Lst (fun e => e ∈ esA n cs) (gx xs)) {v : Nat} (hv : n < v) : gx xs v = 0 := by
  have h1 : gx xs v ≤ if v ≤ n then gx xs v else 0 := h.least (fun v => if v ≤ n then gx xs v else 0) (fun e he => by
    have h2 := h.sat e he
    obtain ⟨h3, h4, _⟩ := esA_ok hcs he
    unfold hol at h2 ⊢
    show (if e.f ≤ n then gx xs e.f else 0) + e.b ≤ (if e.t ≤ n then gx xs e.t else 0)
    rw [if_pos (by omega), if_pos (by omega)]
    omega) (fun v => by
    show 0 ≤ if v ≤ n then gx xs v else 0
    split
    · exact h.nn v
    · omega) v
  rw [if_neg (by omega)] at h1
  have := h.nn v
  omega
theorem lst_le (hcs : ∀ c ∈ cs, Con n c) (h : Lst (fun e => e ∈ esA n cs) (gx xs)) (hn : n ≤ 1200) (v : Nat) : gx xs v ≤ 2000000 := by
  have h1 := h.bound (N := n + 1) (fun e he => by
    obtain ⟨h3, h4, _, h5, _⟩ := esA_ok hcs he
    exact ⟨h3, h4, h5⟩) (fun u hu => lst_out hcs h (by omega)) v
  omega
theorem sol_gx (hcs : ∀ c ∈ cs, Con n c) (h : Lst (fun e => e ∈ esA n cs) (gx xs)) (v : Nat) : gx (solL n xs) v = gx xs v := by
  have hz := lst_zero_node hcs h
  by_cases hv : v < n
  · rw [gx_at (solL_at xs hv)]; omega
  · rw [gx_out (solL_len n xs) (by omega)]
    by_cases hvn : v = n
    · rw [hvn, hz]
    · rw [lst_out hcs h (by omega)]
theorem vs_of {vs : List Int} (h : ∀ v, v < vs.length → 0 ≤ gx vs v ∧ gx vs v ≤ 1099511627776) : Vs vs := fun z hz => by
  obtain ⟨i, hi, rfl⟩ := List.mem_iff_getElem.1 hz
  have := h i hi
  rw [gx_at (List.getElem?_eq_getElem hi)] at this
  exact this
theorem vs_out {vs : List Int} (h : Vs vs) : vs.any outB = false := by
  refine List.any_eq_false.2 fun z hz => ?_
  have := h z hz
  simp [outB]
  omega
theorem sol_vs (hcs : ∀ c ∈ cs, Con n c) (h : Lst (fun e => e ∈ esA n cs) (gx xs)) (hn : n ≤ 1200) : Vs (solL n xs) := vs_of fun v _ => by
  rw [sol_gx hcs h]
  have := h.nn v
  have := lst_le hcs h hn v
  omega
/-- Holds at the solution -/
theorem holds_sol (hcs : ∀ c ∈ cs, Con n c) (h : Lst (fun e => e ∈ esA n cs) (gx xs)) (hn : n ≤ 1200) (hg : gvld n cs = true) {w w' : World} {e : Ending} (hp : HoldsPost n cs (solL n xs) w e w') : e = .returned (.tuple #[.int .i64 (-1), .int .i64 0]) := by
  have hv := sol_vs hcs h hn
  rcases hp.2 with ⟨h1, _⟩ | ⟨_, ⟨h1 | h1, _⟩ | ⟨_, _, i, rfl, hi⟩⟩
  · rw [hg] at h1; cases h1
  · exact absurd (by rw [solL_len]) h1
  · rw [vs_out hv] at h1; cases h1
  · rcases hi with ⟨rfl, _⟩ | ⟨k, rfl, ⟨c, hc, hb⟩, _⟩
    · rfl
    · have hs : gx (solL n xs) = gx xs := funext (sol_gx hcs h)
      have := (sat_iff hcs (solL_len n xs) hv).2 (by rw [hs]; exact h.sat) k c hc
      rw [this] at hb
      cases hb
/-- Holds at numbers that solve, or don't -/
theorem holds_any_vals (hcs : ∀ c ∈ cs, Con n c) (hg : gvld n cs = true) {vs : List Int} {w w' : World} {e : Ending} (hp : HoldsPost n cs vs w e w') :
    e = .returned (.tuple #[.int .i64 0, .int .i64 1]) ∨ (∃ k : Nat, e = .returned (.tuple #[.int .i64 k, .int .i64 0])) ∨ e = .returned (.tuple #[.int .i64 (-1), .int .i64 0]) ∧ vs.length = n ∧ Vs vs ∧ Sat (fun e => e ∈ esA n cs) (gx vs) := by
  rcases hp.2 with ⟨h1, _⟩ | ⟨_, ⟨_, h2⟩ | ⟨h1, h2, i, rfl, hi⟩⟩
  · rw [hg] at h1; cases h1
  · exact .inl h2
  · rcases hi with ⟨rfl, hall⟩ | ⟨k, rfl, _⟩
    · have hl : vs.length = n := by omega
      exact .inr (.inr ⟨rfl, hl, outB_any h2, (sat_iff hcs hl (outB_any h2)).1 hall⟩)
    · exact .inr (.inl ⟨k, rfl⟩)
/-- none of the numbers can be one less -/
theorem holds_less (hcs : ∀ c ∈ cs, Con n c) (h : Lst (fun e => e ∈ esA n cs) (gx xs)) (hn : n ≤ 1200) (hg : gvld n cs = true) {i : Nat} (hi : i < n) (h0 : gx xs i ≠ 0) {w w' : World} {e : Ending} (hp : HoldsPost n cs ((solL n xs).set i (gx xs i - 1)) w e w') :
    ∃ k : Nat, e = .returned (.tuple #[.int .i64 k, .int .i64 0]) := by
  have hgx : gx ((solL n xs).set i (gx xs i - 1)) = upd (gx xs) i (gx xs i - 1) := by
    rw [gx_set _ _ _ (by rw [solL_len]; exact hi), show gx (solL n xs) = gx xs from funext (sol_gx hcs h)]
  have hv : Vs ((solL n xs).set i (gx xs i - 1)) := vs_of fun v _ => by
    rw [hgx]
    have a := h.nn v
    have b := lst_le hcs h hn v
    have c := h.nn i
    have d := lst_le hcs h hn i
    by_cases hvi : v = i
    · rw [hvi, upd_same]; omega
    · rw [upd_ne _ _ hvi]; omega
  rcases holds_any_vals hcs hg hp with h1 | ⟨k, h1⟩ | ⟨_, _, _, h4⟩
  · exfalso
    rcases hp.2 with ⟨g1, _⟩ | ⟨_, ⟨g1 | g1, _⟩ | ⟨_, _, j, g2, _⟩⟩
    · rw [hg] at g1; cases g1
    · exact absurd (by rw [List.length_set, solL_len]) g1
    · rw [vs_out hv] at g1; cases g1
    · rw [h1] at g2
      injection g2 with g2
      injection g2 with g2
      injection g2 with g2
      simp at g2
  · exact ⟨k, h1⟩
  · exfalso
    have h5 := h.least _ h4 (fun v => gx_nn hv v) i
    rw [hgx, upd_same] at h5
    omega
end
end Go.Proofs.Ythjoehjfnedebaa
