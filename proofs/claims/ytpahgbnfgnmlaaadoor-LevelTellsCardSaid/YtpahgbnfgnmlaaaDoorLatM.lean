/-
  The order of levels, with the greatest of two and with what is one greater: plain lemmas.
-/
import Derived.Test.YtpahgbnfgnmlaaaDoorMax
import Derived.Test.YtpahgbnfgnmlaaaDoorSuc
namespace Go.Proofs.YtpahgbnfgnmlaaaDoor
open Go Go.RowKit

theorem cell_new {X : World} {k : Nat} (hk : k = X.heap.size) (v u : Value) (t : TypeId) : (X.alloc (.cells #[v, u] t)).cell? ⟨k, 0, none⟩ = some v ∧ (X.alloc (.cells #[v, u] t)).cell? ⟨k, 1, none⟩ = some u := by
  subst hk; exact ⟨by simp, by simp⟩

theorem leqv_iff {ca cb : Int} {la lb : List (Int × Int)} : leqv ca la cb lb = true ↔ vld ca la = true ∧ vld cb lb = true ∧ ca ≤ max cb (gplus lb) ∧ ∀ x ∈ la, cov lb x = true := by
  simp only [leqv, Bool.and_eq_true, decide_eq_true_eq, List.all_eq_true]
  exact ⟨fun h => ⟨h.1.1.1, h.1.1.2, h.1.2, h.2⟩, fun h => ⟨⟨⟨h.1, h.2.1⟩, h.2.2.1⟩, h.2.2.2⟩⟩
theorem cov_iff {l : List (Int × Int)} {x : Int × Int} : cov l x = true ↔ ∃ y ∈ l, y.1 = x.1 ∧ x.2 ≤ y.2 := by
  simp only [cov, List.any_eq_true, Bool.and_eq_true, beq_iff_eq, decide_eq_true_eq]
theorem cov_self {l : List (Int × Int)} {x : Int × Int} (h : x ∈ l) : cov l x = true := cov_iff.2 ⟨x, h, rfl, Int.le_refl _⟩
theorem cov_trans {l r : List (Int × Int)} {x : Int × Int} (h : cov l x = true) (h' : ∀ y ∈ l, cov r y = true) : cov r x = true := by
  obtain ⟨y, hy, e1, e2⟩ := cov_iff.1 h
  obtain ⟨z, hz, e3, e4⟩ := cov_iff.1 (h' y hy)
  exact cov_iff.2 ⟨z, hz, by omega, by omega⟩
theorem gplus_cov {l r : List (Int × Int)} (h : ∀ x ∈ l, cov r x = true) : gplus l ≤ gplus r :=
  gplus_le (gplus_nn r).1 fun x hx => by
    obtain ⟨y, hy, _, h2⟩ := cov_iff.1 (h x hx)
    have := (gplus_nn r).2 y hy
    omega
theorem leqv_refl {c : Int} {l : List (Int × Int)} (h : vld c l = true) : leqv c l c l = true :=
  leqv_iff.2 ⟨h, h, by omega, fun _ hx => cov_self hx⟩
theorem leqv_trans {ca cb cc : Int} {la lb lc : List (Int × Int)} (h : leqv ca la cb lb = true) (h' : leqv cb lb cc lc = true) : leqv ca la cc lc = true := by
  obtain ⟨h1, _, h3, h4⟩ := leqv_iff.1 h
  obtain ⟨_, g2, g3, g4⟩ := leqv_iff.1 h'
  have := gplus_cov g4
  exact leqv_iff.2 ⟨h1, g2, by omega, fun x hx => cov_trans (h4 x hx) g4⟩

theorem canon_cov {l : List (Int × Int)} {x : Int × Int} (h : x ∈ l) : cov (canonV l) x = true := by
  obtain ⟨y, hy, e⟩ := (canonV_canon l).all x h
  exact cov_iff.2 ⟨y, hy, e, ((canonV_canon l).top y hy).2 x h e.symm⟩
theorem canon_mem {l : List (Int × Int)} {x : Int × Int} (h : x ∈ canonV l) : x ∈ l := ((canonV_canon l).top x h).1
theorem gplus_canon (l : List (Int × Int)) : gplus (canonV l) = gplus l :=
  Int.le_antisymm (gplus_cov fun _ hx => cov_self (canon_mem hx)) (gplus_cov fun _ hx => canon_cov hx)

theorem cErr_zero {c : Int} {l : List (Int × Int)} (h : cErr c l = 0) : (canonV l).length ≤ 8 ∧ gplus l ≤ 1000 ∧ cConst c l = (if c ≤ gplus l then 0 else c) ∧ cConst c l ≤ 1000 ∧ cVars c l = canonV l := by
  have hk : cConst c l = (if c ≤ gplus l then 0 else c) := by rw [cConst, if_pos h, gplus_canon]
  have hv : cVars c l = canonV l := by rw [cVars, if_pos h]
  rw [cErr, gplus_canon] at h
  by_cases h' : (canonV l).length ≤ 8 ∧ max (if c ≤ gplus l then 0 else c) (gplus l) ≤ 1000
  · obtain ⟨h1, h2⟩ := h'
    refine ⟨h1, by omega, hk, ?_, hv⟩
    rw [hk]
    omega
  · rw [if_neg h'] at h
    exact absurd h (by decide)
theorem vld_mem {c : Int} {l : List (Int × Int)} (h : vld c l = true) {x : Int × Int} (hx : x ∈ l) : (0 ≤ x.1 ∧ x.1 ≤ 1199) ∧ 0 ≤ x.2 ∧ x.2 ≤ 1000 := by
  obtain ⟨k, hk⟩ := List.mem_iff_getElem?.1 hx
  obtain ⟨h1, h2, _⟩ := (vld_iff.1 h).ok k x (List.getElem?_eq_some_iff.1 hk).1 hk
  exact ⟨h1, h2⟩
theorem asc_hasv {l : List (Int × Int)} (h : l.Pairwise fun x y => x.1 < y.1) {i : Nat} {x : Int × Int} (hx : l[i]? = some x) : hasv (l.take i) x.1 = false := by
  rw [← Bool.not_eq_true]
  intro ht
  simp only [hasv, List.any_eq_true, beq_iff_eq] at ht
  obtain ⟨y, hy, e⟩ := ht
  obtain ⟨j, hj⟩ := List.mem_iff_getElem?.1 hy
  obtain ⟨hi, ei⟩ := List.getElem?_eq_some_iff.1 hx
  rw [List.getElem?_take] at hj
  split at hj
  · rename_i hji
    obtain ⟨hl, ej⟩ := List.getElem?_eq_some_iff.1 hj
    have := List.pairwise_iff_getElem.1 h j i hl hi hji
    rw [ei, ej] at this
    omega
  · cases hj
/-- a canonical form is valid -/
theorem vld_canon {c : Int} {l : List (Int × Int)} (he : cErr c l = 0) (hc : 0 ≤ c) (hl : ∀ x ∈ l, (0 ≤ x.1 ∧ x.1 ≤ 1199) ∧ 0 ≤ x.2) : vld (cConst c l) (cVars c l) = true := by
  obtain ⟨h1, h2, h3, h4, h5⟩ := cErr_zero he
  refine vld_of ⟨by rw [h3]; split <;> omega, h4, by rw [h5]; exact h1, ?_⟩
  rw [h5]
  intro i x hi hx
  have hm := canon_mem (List.mem_of_getElem? hx)
  obtain ⟨g1, g2⟩ := hl x hm
  have := (gplus_nn l).2 x hm
  exact ⟨g1, ⟨g2, by omega⟩, asc_hasv (canonV_canon l).asc hx⟩
/-- what is at most a canonical form -/
theorem leqv_canon {ca c : Int} {la l : List (Int × Int)} (ha : vld ca la = true) (he : cErr c l = 0) (hc : 0 ≤ c) (hl : ∀ x ∈ l, (0 ≤ x.1 ∧ x.1 ≤ 1199) ∧ 0 ≤ x.2) (h1 : ca ≤ max c (gplus l)) (h2 : ∀ x ∈ la, cov l x = true) : leqv ca la (cConst c l) (cVars c l) = true := by
  obtain ⟨_, _, h3, _, h5⟩ := cErr_zero he
  refine leqv_iff.2 ⟨ha, vld_canon he hc hl, ?_, fun x hx => ?_⟩
  · rw [h3, h5, gplus_canon]; split <;> omega
  · rw [h5]
    exact cov_trans (h2 x hx) fun y hy => canon_cov hy

theorem gplus_append (l r : List (Int × Int)) : gplus (l ++ r) = max (gplus l) (gplus r) := by
  have h1 := gplus_nn (l ++ r)
  refine Int.le_antisymm (gplus_le (by have := (gplus_nn l).1; omega) fun x hx => ?_) ?_
  · rcases List.mem_append.1 hx with hx | hx
    · have := (gplus_nn l).2 x hx; omega
    · have := (gplus_nn r).2 x hx; omega
  · have e1 := gplus_le h1.1 fun x hx => h1.2 x (List.mem_append_left r hx)
    have e2 := gplus_le h1.1 fun x hx => h1.2 x (List.mem_append_right l hx)
    omega

theorem max_lat {ca cb : Int} {la lb : List (Int × Int)} (ha : vld ca la = true) (hb : vld cb lb = true) (he : mErr ca la cb lb = 0) :
    leqv ca la (mConst ca la cb lb) (mVars ca la cb lb) = true ∧ leqv cb lb (mConst ca la cb lb) (mVars ca la cb lb) = true ∧
      ∀ (cc : Int) (lc : List (Int × Int)), leqv ca la cc lc = true → leqv cb lb cc lc = true → leqv (mConst ca la cb lb) (mVars ca la cb lb) cc lc = true := by
  obtain ⟨e1, e2, e3⟩ := m_yes (ca := ca) (cb := cb) (la := la) (lb := lb) ⟨ha, hb⟩
  rw [e1] at he
  rw [e2, e3]
  have h0 := (vld_c ha).1
  have hq : ∀ x ∈ la ++ lb, (0 ≤ x.1 ∧ x.1 ≤ 1199) ∧ 0 ≤ x.2 := fun x hx => by
    rcases List.mem_append.1 hx with hx | hx
    · have := vld_mem ha hx; exact ⟨this.1, this.2.1⟩
    · have := vld_mem hb hx; exact ⟨this.1, this.2.1⟩
  refine ⟨leqv_canon ha he (by omega) hq (by omega) fun x hx => cov_self (List.mem_append_left _ hx), leqv_canon hb he (by omega) hq (by omega) fun x hx => cov_self (List.mem_append_right _ hx), fun cc lc h1 h2 => ?_⟩
  obtain ⟨_, _, h3, _, h5⟩ := cErr_zero he
  obtain ⟨_, k1, k2, k3⟩ := leqv_iff.1 h1
  obtain ⟨_, _, k4, k5⟩ := leqv_iff.1 h2
  refine leqv_iff.2 ⟨vld_canon he (by omega) hq, k1, ?_, fun x hx => ?_⟩
  · rw [h3]
    have := (vld_c k1).1
    split <;> omega
  · rw [h5] at hx
    rcases List.mem_append.1 (canon_mem hx) with hx | hx
    · exact k3 x hx
    · exact k5 x hx

theorem suc_lat {ca : Int} {la : List (Int × Int)} (ha : vld ca la = true) (he : sErr ca la = 0) :
    leqv ca la (sConst ca la) (sVars ca la) = true ∧ leqv (sConst ca la) (sVars ca la) ca la = false := by
  rw [sErr, if_pos ha] at he
  rw [sConst, if_pos ha, sVars, if_pos ha]
  have h0 := (vld_c ha).1
  have hm : ∀ {x : Int × Int}, x ∈ la → (x.1, x.2 + 1) ∈ rl 1 la := fun hx => List.mem_map.2 ⟨_, hx, rfl⟩
  have hq : ∀ x ∈ rl 1 la, (0 ≤ x.1 ∧ x.1 ≤ 1199) ∧ 0 ≤ x.2 := fun x hx => by
    obtain ⟨y, hy, rfl⟩ := List.mem_map.1 hx
    have := vld_mem ha hy
    exact ⟨this.1, by simp only; omega⟩
  refine ⟨leqv_canon ha he (by omega) hq (by omega) fun x hx => cov_iff.2 ⟨_, hm hx, rfl, by simp only; omega⟩, ?_⟩
  rw [← Bool.not_eq_true]
  intro h
  obtain ⟨_, _, k1, k2⟩ := leqv_iff.1 h
  obtain ⟨_, _, h3, _, h5⟩ := cErr_zero he
  rw [h5] at k2
  cases hl : la with
  | nil =>
    subst hl
    rw [h3] at k1
    have e1 : gplus (rl 1 ([] : List (Int × Int))) = 0 := rfl
    have e2 : gplus ([] : List (Int × Int)) = 0 := rfl
    rw [e1, e2, if_neg (by omega)] at k1
    omega
  | cons x t =>
    have hx : x ∈ la := by rw [hl]; simp
    obtain ⟨y, hy, e⟩ := (canonV_canon (rl 1 la)).all _ (hm hx)
    obtain ⟨z, hz, e1, e2⟩ := cov_iff.1 (k2 y hy)
    have := ((canonV_canon (rl 1 la)).top y hy).2 _ (hm hz) e1
    simp only at this
    omega
end Go.Proofs.YtpahgbnfgnmlaaaDoor
