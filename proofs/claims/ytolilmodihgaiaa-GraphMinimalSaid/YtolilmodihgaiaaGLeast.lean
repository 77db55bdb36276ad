/-
  'CopyInts' of tenetref00, what the least numbers do, and the law GraphLeast.
-/
import Derived.Test.YtolilmodihgaiaaGMean
import Derived.Test.YtolilmodihgaiaaGHeavy
namespace Go.Proofs.Ytolilmodihgaiaa
open Go Go.RowKit

section
variable {n : Nat} {cs : List LCn} {xs : List Int}
theorem lst_out (hcs : ∀ c ∈ cs, Con n c) (h : Lst (fun e => e ∈ esA n cs) (gx xs)) {v : Nat} (hv : n < v) : gx xs v = 0 := by
  have h1 : gx xs v ≤ if v ≤ n then gx xs v else 0 := h.least (fun v => if v ≤ n then gx xs v else 0) (fun e he => by
    have h2 := h.sat e he
    obtain ⟨h3, h4, _⟩ := esA_ok hcs he
    unfold hol at h2 ⊢
    show (if e.f ≤ n then gx xs e.f else 0) + e.b ≤ (if e.t ≤ n then gx xs e.t else 0)
    rw [if_pos (by omega), if_pos (by omega)]
    omega) (fun v => by
    show 0 ≤ if v ≤ n then gx xs v else 0
    split
    · exact h.nn v
    · omega) v
  rw [if_neg (by omega)] at h1
  have := h.nn v
  omega
theorem lst_le (hcs : ∀ c ∈ cs, Con n c) (h : Lst (fun e => e ∈ esA n cs) (gx xs)) (hn : n ≤ 1200) (v : Nat) : gx xs v ≤ 2000000 := by
  have h1 := h.bound (N := n + 1) (fun e he => by
    obtain ⟨h3, h4, _, h5, _⟩ := esA_ok hcs he
    exact ⟨h3, h4, h5⟩) (fun u hu => lst_out hcs h (by omega)) v
  omega
theorem sol_gx (hcs : ∀ c ∈ cs, Con n c) (h : Lst (fun e => e ∈ esA n cs) (gx xs)) (v : Nat) : gx (solL n xs) v = gx xs v := by
  have hz := lst_zero_node hcs h
  by_cases hv : v < n
  · rw [gx_at (solL_at xs hv)]; omega
  · rw [gx_out (solL_len n xs) (by omega)]
    by_cases hvn : v = n
    · rw [hvn, hz]
    · rw [lst_out hcs h (by omega)]
theorem vs_of {vs : List Int} (h : ∀ v, v < vs.length → 0 ≤ gx vs v ∧ gx vs v ≤ 1099511627776) : Vs vs := fun z hz => by
  obtain ⟨i, hi, rfl⟩ := List.mem_iff_getElem.1 hz
  have := h i hi
  rw [gx_at (List.getElem?_eq_getElem hi)] at this
  exact this
theorem vs_out {vs : List Int} (h : Vs vs) : vs.any outB = false := by
  refine List.any_eq_false.2 fun z hz => ?_
  have := h z hz
  simp [outB]
  omega
theorem sol_vs (hcs : ∀ c ∈ cs, Con n c) (h : Lst (fun e => e ∈ esA n cs) (gx xs)) (hn : n ≤ 1200) : Vs (solL n xs) := vs_of fun v _ => by
  rw [sol_gx hcs h]
  have := h.nn v
  have := lst_le hcs h hn v
  omega
/-- Holds at the solution -/
theorem holds_sol (hcs : ∀ c ∈ cs, Con n c) (h : Lst (fun e => e ∈ esA n cs) (gx xs)) (hn : n ≤ 1200) (hg : gvld n cs = true) {w w' : World} {e : Ending} (hp : HoldsPost n cs (solL n xs) w e w') : e = .returned (.tuple #[.int .i64 (-1), .int .i64 0]) := by
  have hv := sol_vs hcs h hn
  rcases hp.2 with ⟨h1, _⟩ | ⟨_, ⟨h1 | h1, _⟩ | ⟨_, _, i, rfl, hi⟩⟩
  · rw [hg] at h1; cases h1
  · exact absurd (by rw [solL_len]) h1
  · rw [vs_out hv] at h1; cases h1
  · rcases hi with ⟨rfl, _⟩ | ⟨k, rfl, ⟨c, hc, hb⟩, _⟩
    · rfl
    · have hs : gx (solL n xs) = gx xs := funext (sol_gx hcs h)
      have := (sat_iff hcs (solL_len n xs) hv).2 (by rw [hs]; exact h.sat) k c hc
      rw [this] at hb
      cases hb
/-- Holds at numbers that solve, or don't -/
theorem holds_any_vals (hcs : ∀ c ∈ cs, Con n c) (hg : gvld n cs = true) {vs : List Int} {w w' : World} {e : Ending} (hp : HoldsPost n cs vs w e w') :
    e = .returned (.tuple #[.int .i64 0, .int .i64 1]) ∨ (∃ k : Nat, e = .returned (.tuple #[.int .i64 k, .int .i64 0])) ∨ e = .returned (.tuple #[.int .i64 (-1), .int .i64 0]) ∧ vs.length = n ∧ Vs vs ∧ Sat (fun e => e ∈ esA n cs) (gx vs) := by
  rcases hp.2 with ⟨h1, _⟩ | ⟨_, ⟨_, h2⟩ | ⟨h1, h2, i, rfl, hi⟩⟩
  · rw [hg] at h1; cases h1
  · exact .inl h2
  · rcases hi with ⟨rfl, hall⟩ | ⟨k, rfl, _⟩
    · have hl : vs.length = n := by omega
      exact .inr (.inr ⟨rfl, hl, outB_any h2, (sat_iff hcs hl (outB_any h2)).1 hall⟩)
    · exact .inr (.inl ⟨k, rfl⟩)
/-- none of the numbers can be one less -/
theorem holds_less (hcs : ∀ c ∈ cs, Con n c) (h : Lst (fun e => e ∈ esA n cs) (gx xs)) (hn : n ≤ 1200) (hg : gvld n cs = true) {i : Nat} (hi : i < n) (h0 : gx xs i ≠ 0) {w w' : World} {e : Ending} (hp : HoldsPost n cs ((solL n xs).set i (gx xs i - 1)) w e w') :
    ∃ k : Nat, e = .returned (.tuple #[.int .i64 k, .int .i64 0]) := by
  have hgx : gx ((solL n xs).set i (gx xs i - 1)) = upd (gx xs) i (gx xs i - 1) := by
    rw [gx_set _ _ _ (by rw [solL_len]; exact hi), show gx (solL n xs) = gx xs from funext (sol_gx hcs h)]
  have hv : Vs ((solL n xs).set i (gx xs i - 1)) := vs_of fun v _ => by
    rw [hgx]
    have a := h.nn v
    have b := lst_le hcs h hn v
    have c := h.nn i
    have d := lst_le hcs h hn i
    by_cases hvi : v = i
    · rw [hvi, upd_same]; omega
    · rw [upd_ne _ _ hvi]; omega
  rcases holds_any_vals hcs hg hp with h1 | ⟨k, h1⟩ | ⟨_, _, _, h4⟩
  · exfalso
    rcases hp.2 with ⟨g1, _⟩ | ⟨_, ⟨g1 | g1, _⟩ | ⟨_, _, j, g2, _⟩⟩
    · rw [hg] at g1; cases g1
    · exact absurd (by rw [List.length_set, solL_len]) g1
    · rw [vs_out hv] at g1; cases g1
    · rw [h1] at g2
      injection g2 with g2
      injection g2 with g2
      injection g2 with g2
      simp at g2
  · exact ⟨k, h1⟩
  · exfalso
    have h5 := h.least _ h4 (fun v => gx_nn hv v) i
    rw [hgx, upd_same] at h5
    omega
end
end Go.Proofs.Ytolilmodihgaiaa
