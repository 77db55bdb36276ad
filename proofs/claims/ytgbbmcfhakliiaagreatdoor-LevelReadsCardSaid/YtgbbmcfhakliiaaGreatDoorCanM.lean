/-
  Canonical forms: valid, with the same greatest number; coverage of parts. Plain lemmas.
-/
import Derived.Test.YtgbbmcfhakliiaaGreatDoorNormal
namespace Go.Proofs.YtgbbmcfhakliiaaGreatDoor
open Go Go.RowKit

theorem cov_iff {l : List (Int × Int)} {x : Int × Int} : cov l x = true ↔ ∃ y ∈ l, y.1 = x.1 ∧ x.2 ≤ y.2 := by
  simp only [cov, List.any_eq_true, Bool.and_eq_true, beq_iff_eq, decide_eq_true_eq]
theorem cov_self {l : List (Int × Int)} {x : Int × Int} (h : x ∈ l) : cov l x = true := cov_iff.2 ⟨x, h, rfl, Int.le_refl _⟩
theorem cov_trans {l r : List (Int × Int)} {x : Int × Int} (h : cov l x = true) (h' : ∀ y ∈ l, cov r y = true) : cov r x = true := by
  obtain ⟨y, hy, e1, e2⟩ := cov_iff.1 h
  obtain ⟨z, hz, e3, e4⟩ := cov_iff.1 (h' y hy)
  exact cov_iff.2 ⟨z, hz, by omega, by omega⟩
theorem gplus_cov {l r : List (Int × Int)} (h : ∀ x ∈ l, cov r x = true) : gplus l ≤ gplus r :=
  gplus_le (gplus_nn r).1 fun x hx => by
    obtain ⟨y, hy, _, h2⟩ := cov_iff.1 (h x hx)
    have := (gplus_nn r).2 y hy
    omega
theorem canon_cov {l : List (Int × Int)} {x : Int × Int} (h : x ∈ l) : cov (canonV l) x = true := by
  obtain ⟨y, hy, e⟩ := (canonV_canon l).all x h
  exact cov_iff.2 ⟨y, hy, e, ((canonV_canon l).top y hy).2 x h e.symm⟩
theorem canon_mem {l : List (Int × Int)} {x : Int × Int} (h : x ∈ canonV l) : x ∈ l := ((canonV_canon l).top x h).1
theorem gplus_canon (l : List (Int × Int)) : gplus (canonV l) = gplus l :=
  Int.le_antisymm (gplus_cov fun _ hx => cov_self (canon_mem hx)) (gplus_cov fun _ hx => canon_cov hx)

theorem cErr_zero {c : Int} {l : List (Int × Int)} (h : cErr c l = 0) : (canonV l).length ≤ 8 ∧ gplus l ≤ 1000 ∧ cConst c l = (if c ≤ gplus l then 0 else c) ∧ cConst c l ≤ 1000 ∧ cVars c l = canonV l := by
  have hk : cConst c l = (if c ≤ gplus l then 0 else c) := by rw [cConst, if_pos h, gplus_canon]
  have hv : cVars c l = canonV l := by rw [cVars, if_pos h]
  rw [cErr, gplus_canon] at h
  by_cases h' : (canonV l).length ≤ 8 ∧ max (if c ≤ gplus l then 0 else c) (gplus l) ≤ 1000
  · obtain ⟨h1, h2⟩ := h'
    refine ⟨h1, by omega, hk, ?_, hv⟩
    rw [hk]
    omega
  · rw [if_neg h'] at h
    exact absurd h (by decide)
theorem vld_mem {c : Int} {l : List (Int × Int)} (h : vld c l = true) {x : Int × Int} (hx : x ∈ l) : (0 ≤ x.1 ∧ x.1 ≤ 1199) ∧ 0 ≤ x.2 ∧ x.2 ≤ 1000 := by
  obtain ⟨k, hk⟩ := List.mem_iff_getElem?.1 hx
  obtain ⟨h1, h2, _⟩ := (vld_iff.1 h).ok k x (List.getElem?_eq_some_iff.1 hk).1 hk
  exact ⟨h1, h2⟩
theorem asc_hasv {l : List (Int × Int)} (h : l.Pairwise fun x y => x.1 < y.1) {i : Nat} {x : Int × Int} (hx : l[i]? = some x) : hasv (l.take i) x.1 = false := by
  rw [← Bool.not_eq_true]
  intro ht
  simp only [hasv, List.any_eq_true, beq_iff_eq] at ht
  obtain ⟨y, hy, e⟩ := ht
  obtain ⟨j, hj⟩ := List.mem_iff_getElem?.1 hy
  obtain ⟨hi, ei⟩ := List.getElem?_eq_some_iff.1 hx
  rw [List.getElem?_take] at hj
  split at hj
  · rename_i hji
    obtain ⟨hl, ej⟩ := List.getElem?_eq_some_iff.1 hj
    have := List.pairwise_iff_getElem.1 h j i hl hi hji
    rw [ei, ej] at this
    omega
  · cases hj
theorem vld_canon {c : Int} {l : List (Int × Int)} (he : cErr c l = 0) (hc : 0 ≤ c) (hl : ∀ x ∈ l, (0 ≤ x.1 ∧ x.1 ≤ 1199) ∧ 0 ≤ x.2) : vld (cConst c l) (cVars c l) = true := by
  obtain ⟨h1, h2, h3, h4, h5⟩ := cErr_zero he
  refine vld_of ⟨by rw [h3]; split <;> omega, h4, by rw [h5]; exact h1, ?_⟩
  rw [h5]
  intro i x hi hx
  have hm := canon_mem (List.mem_of_getElem? hx)
  obtain ⟨g1, g2⟩ := hl x hm
  have := (gplus_nn l).2 x hm
  exact ⟨g1, ⟨g2, by omega⟩, asc_hasv (canonV_canon l).asc hx⟩

/-- a canonical list is its own canonical form -/
theorem canonV_self {l : List (Int × Int)} (h : l.Pairwise fun x y => x.1 < y.1) : canonV l = l := by
  refine Canon.unique (canonV_canon l) ⟨h, fun x hx => ⟨hx, fun y hy e => ?_⟩, fun y hy => ⟨y, hy, rfl⟩⟩
  obtain ⟨i, hi⟩ := List.mem_iff_getElem?.1 hx
  obtain ⟨j, hj⟩ := List.mem_iff_getElem?.1 hy
  obtain ⟨hil, ei⟩ := List.getElem?_eq_some_iff.1 hi
  obtain ⟨hjl, ej⟩ := List.getElem?_eq_some_iff.1 hj
  rcases Nat.lt_trichotomy i j with h' | h' | h'
  · have := List.pairwise_iff_getElem.1 h i j hil hjl h'
    rw [ei, ej] at this; omega
  · subst h'
    rw [ei] at ej
    rw [ej]; exact Int.le_refl _
  · have := List.pairwise_iff_getElem.1 h j i hjl hil h'
    rw [ei, ej] at this; omega
/-- a canonical form is its own canonical form -/
theorem norm_self {c : Int} {l : List (Int × Int)} (he : nErr c l = 0) : nErr (nConst c l) (nVars c l) = 0 ∧ nConst (nConst c l) (nVars c l) = nConst c l ∧ nVars (nConst c l) (nVars c l) = nVars c l := by
  have hv : vld c l = true := by
    cases hv : vld c l with
    | true => rfl
    | false => rw [nErr, hv] at he; simp at he
  have hce : cErr c l = 0 := by rw [nErr, if_pos hv] at he; exact he
  obtain ⟨h1, h2, h3, h4, h5⟩ := cErr_zero hce
  have hv2 := vld_canon hce (vld_c hv).1 (fun x hx => ⟨(vld_mem hv hx).1, (vld_mem hv hx).2.1⟩)
  have hs := canonV_self (canonV_canon l).asc
  have hc0 : 0 ≤ cConst c l := (vld_c hv2).1
  have hif : (if cConst c l ≤ gplus (canonV l) then 0 else cConst c l) = cConst c l := by
    rw [h3, gplus_canon]
    have := (gplus_nn l).1
    by_cases h : c ≤ gplus l
    · rw [if_pos h, if_pos this]
    · rw [if_neg h, if_neg h]
  have hce2 : cErr (cConst c l) (canonV l) = 0 := by
    have hmx : max (cConst c l) (gplus (canonV l)) ≤ 1000 := by rw [gplus_canon]; omega
    rw [cErr, hs, hif, if_pos ⟨h1, hmx⟩]
  rw [h5] at hv2
  rw [nConst, if_pos hv, nVars, if_pos hv, h5, nErr, if_pos hv2, nConst, if_pos hv2, nVars, if_pos hv2]
  exact ⟨hce2, by rw [cConst, if_pos hce2, hs, hif], by rw [cVars, if_pos hce2, hs]⟩
end Go.Proofs.YtgbbmcfhakliiaaGreatDoor
