/-
  The order of levels and their values: plain lemmas.
-/
import Derived.Test.YtpahgbnfgnmlaaaDoorLatM
import Derived.Test.YtpahgbnfgnmlaaaDoorEval
namespace Go.Proofs.YtpahgbnfgnmlaaaDoor
open Go Go.RowKit

theorem evMax_spec (vals : List Int) : ∀ (l : List (Int × Int)) (c : Int), c ≤ evMax c vals l ∧ ∀ x ∈ l, asv vals x.1 + x.2 ≤ evMax c vals l := by
  intro l
  induction l with
  | nil => intro c; exact ⟨Int.le_refl _, fun x h => by cases h⟩
  | cons y r ih =>
    intro c
    have e : evMax c vals (y :: r) = evMax (if c < asv vals y.1 + y.2 then asv vals y.1 + y.2 else c) vals r := rfl
    obtain ⟨i1, i2⟩ := ih (if c < asv vals y.1 + y.2 then asv vals y.1 + y.2 else c)
    rw [e]
    have h1 : c ≤ (if c < asv vals y.1 + y.2 then asv vals y.1 + y.2 else c) ∧ asv vals y.1 + y.2 ≤ (if c < asv vals y.1 + y.2 then asv vals y.1 + y.2 else c) := by split <;> omega
    refine ⟨by omega, fun x hx => ?_⟩
    rcases List.mem_cons.1 hx with rfl | hx
    · omega
    · exact i2 x hx
theorem evMax_le {vals : List Int} {m : Int} : ∀ (l : List (Int × Int)) (c : Int), c ≤ m → (∀ x ∈ l, asv vals x.1 + x.2 ≤ m) → evMax c vals l ≤ m := by
  intro l
  induction l with
  | nil => intro c h _; exact h
  | cons y r ih =>
    intro c h hx
    have e : evMax c vals (y :: r) = evMax (if c < asv vals y.1 + y.2 then asv vals y.1 + y.2 else c) vals r := rfl
    rw [e]
    refine ih _ ?_ (fun x h => hx x (List.mem_cons_of_mem _ h))
    have := hx y (by simp)
    split <;> omega

/-- what is at most another level is so for every assignment -/
theorem leqv_sound {ca cb : Int} {la lb : List (Int × Int)} (h : leqv ca la cb lb = true) (vals : List Int) : evMax ca vals la ≤ evMax cb vals lb := by
  obtain ⟨_, _, h3, h4⟩ := leqv_iff.1 h
  obtain ⟨s1, s2⟩ := evMax_spec vals lb cb
  refine evMax_le la ca ?_ fun x hx => ?_
  · have : gplus lb ≤ max cb (evMax cb vals lb) ∨ gplus lb ≤ evMax cb vals lb ∨ gplus lb = 0 := by
      by_cases h0 : 0 ≤ evMax cb vals lb
      · refine .inr (.inl (gplus_le h0 fun x hx => ?_))
        have := s2 x hx
        have := asv_nn vals x.1
        omega
      · refine .inr (.inr ?_)
        have hv := (vld_c (leqv_iff.1 h).2.1).1
        omega
    have hv := (vld_c (leqv_iff.1 h).2.1).1
    omega
  · obtain ⟨y, hy, e1, e2⟩ := cov_iff.1 (h4 x hx)
    have := s2 y hy
    rw [e1] at this
    omega
/-- and what is so where all are 0, and where one alone is above all numbers, is at most it -/
theorem leqv_complete {ca cb : Int} {la lb : List (Int × Int)} (ha : vld ca la = true) (hb : vld cb lb = true)
    (h0 : ∃ vals, (∀ x ∈ la ++ lb, asv vals x.1 = 0) ∧ evMax ca vals la ≤ evMax cb vals lb)
    (h1 : ∀ x ∈ la, ∃ vals, asv vals x.1 = 1001 ∧ (∀ y ∈ lb, y.1 ≠ x.1 → asv vals y.1 = 0) ∧ evMax ca vals la ≤ evMax cb vals lb) : leqv ca la cb lb = true := by
  have hc := vld_c hb
  refine leqv_iff.2 ⟨ha, hb, ?_, fun x hx => ?_⟩
  · obtain ⟨vals, hz, hle⟩ := h0
    have := (evMax_spec vals la ca).1
    have hm : evMax cb vals lb ≤ max cb (gplus lb) := evMax_le lb cb (by omega) fun y hy => by
      rw [hz y (List.mem_append_right _ hy)]
      have := (gplus_nn lb).2 y hy
      omega
    omega
  · obtain ⟨vals, h1, h2, hle⟩ := h1 x hx
    have hx2 := (evMax_spec vals la ca).2 x hx
    rw [h1] at hx2
    have hr := (vld_mem ha hx).2
    rw [← Bool.not_eq_false]
    intro hn
    have hm : evMax cb vals lb ≤ 1000 + x.2 := evMax_le lb cb (by omega) fun y hy => by
      have hr2 := (vld_mem hb hy).2
      by_cases e : y.1 = x.1
      · rw [e, h1]
        have : ¬ x.2 ≤ y.2 := fun h => by rw [cov_iff.2 ⟨y, hy, e, h⟩] at hn; cases hn
        omega
      · rw [h2 y hy e]; omega
    omega
end Go.Proofs.YtpahgbnfgnmlaaaDoor
