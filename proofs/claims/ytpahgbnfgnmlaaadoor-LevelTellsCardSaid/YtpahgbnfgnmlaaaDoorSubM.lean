/-
  Levels put in for the variables of a level: plain lemmas.
-/
import Derived.Test.YtpahgbnfgnmlaaaDoorTelM
namespace Go.Proofs.YtpahgbnfgnmlaaaDoor
open Go Go.RowKit

theorem snoc_ind {α : Type} {P : List α → Prop} (h0 : P []) (h1 : ∀ l x, P l → P (l ++ [x])) (l : List α) : P l := by
  have : ∀ r : List α, P r.reverse := by
    intro r
    induction r with
    | nil => simpa using h0
    | cons x r ih => rw [List.reverse_cons]; exact h1 _ _ ih
  simpa using this l.reverse

/-- the level that is put in for a variable -/
def sVal (b : List (Int × List (Int × Int))) (v : Int) : Int × List (Int × Int) := match b[v.toNat]? with | some p => p | none => (0, [(v, 0)])
theorem sVal_some {b : List (Int × List (Int × Int))} {k : Nat} {p : Int × List (Int × Int)} (h : b[k]? = some p) : sVal b (k : Int) = p := by simp [sVal, h]
theorem sVal_none {b : List (Int × List (Int × Int))} {k : Nat} (h : b.length ≤ k) : sVal b (k : Int) = (0, [((k : Int), 0)]) := by simp [sVal, List.getElem?_eq_none h]

/-- some level that is put in is not valid -/
noncomputable def sBad (b : List (Int × List (Int × Int))) (l : List (Int × Int)) : Bool := l.any fun x => !vld (sVal b x.1).1 (sVal b x.1).2
/-- the constant and the parts, before they are made canonical -/
def sC (b : List (Int × List (Int × Int))) (c : Int) (l : List (Int × Int)) : Int := l.foldl (fun t x => max t ((sVal b x.1).1 + x.2)) c
def sL (b : List (Int × List (Int × Int))) (l : List (Int × Int)) : List (Int × Int) := l.flatMap fun x => rl x.2 (sVal b x.1).2
/-- the reference's constant -/
def rC (b : List (Int × List (Int × Int))) (c : Int) (l : List (Int × Int)) : Int := l.foldl (fun t x => if x.1 < (b.length : Int) then max t ((sVal b x.1).1 + x.2) else t) c
theorem sBad_snoc (b : List (Int × List (Int × Int))) (l : List (Int × Int)) (x : Int × Int) : sBad b (l ++ [x]) = (sBad b l || !vld (sVal b x.1).1 (sVal b x.1).2) := by simp [sBad]
theorem sC_snoc (b : List (Int × List (Int × Int))) (c : Int) (l : List (Int × Int)) (x : Int × Int) : sC b c (l ++ [x]) = max (sC b c l) ((sVal b x.1).1 + x.2) := by unfold sC; rw [List.foldl_append]; rfl
theorem sL_snoc (b : List (Int × List (Int × Int))) (l : List (Int × Int)) (x : Int × Int) : sL b (l ++ [x]) = sL b l ++ rl x.2 (sVal b x.1).2 := by simp [sL]
theorem rC_snoc (b : List (Int × List (Int × Int))) (c : Int) (l : List (Int × Int)) (x : Int × Int) : rC b c (l ++ [x]) = if x.1 < (b.length : Int) then max (rC b c l) ((sVal b x.1).1 + x.2) else rC b c l := by unfold rC; rw [List.foldl_append]; rfl
theorem sBad_of {b : List (Int × List (Int × Int))} {l : List (Int × Int)} {x : Int × Int} {k : Nat} (hx : l[k]? = some x) (h : vld (sVal b x.1).1 (sVal b x.1).2 = false) : sBad b l = true := by
  obtain ⟨q, rfl⟩ := List.getElem?_eq_some_iff.1 hx
  exact List.any_eq_true.2 ⟨_, List.getElem_mem q, by simp [h]⟩
theorem sBad_not {b : List (Int × List (Int × Int))} {l : List (Int × Int)} (h : sBad b l = false) {x : Int × Int} (hx : x ∈ l) : vld (sVal b x.1).1 (sVal b x.1).2 = true := by
  rw [← Bool.not_eq_false]
  intro hn
  obtain ⟨k, hk⟩ := List.mem_iff_getElem?.1 hx
  rw [sBad_of hk hn] at h
  cases h

noncomputable def uErr (c : Int) (l : List (Int × Int)) (b : List (Int × List (Int × Int))) : Int := if vld c l = true ∧ sBad b l = false then cErr (sC b c l) (sL b l) else 4
noncomputable def uConst (c : Int) (l : List (Int × Int)) (b : List (Int × List (Int × Int))) : Int := if vld c l = true ∧ sBad b l = false then cConst (sC b c l) (sL b l) else 0
noncomputable def uVars (c : Int) (l : List (Int × Int)) (b : List (Int × List (Int × Int))) : List (Int × Int) := if vld c l = true ∧ sBad b l = false then cVars (sC b c l) (sL b l) else []
theorem u_not {c : Int} {l : List (Int × Int)} {b : List (Int × List (Int × Int))} (h : ¬ (vld c l = true ∧ sBad b l = false)) : uErr c l b = 4 ∧ uConst c l b = 0 ∧ uVars c l b = [] := ⟨by rw [uErr, if_neg h], by rw [uConst, if_neg h], by rw [uVars, if_neg h]⟩
theorem u_yes {c : Int} {l : List (Int × Int)} {b : List (Int × List (Int × Int))} (h : vld c l = true ∧ sBad b l = false) : uErr c l b = cErr (sC b c l) (sL b l) ∧ uConst c l b = cConst (sC b c l) (sL b l) ∧ uVars c l b = cVars (sC b c l) (sL b l) := ⟨by rw [uErr, if_pos h], by rw [uConst, if_pos h], by rw [uVars, if_pos h]⟩

/-- a constant that is not above the parts makes no difference -/
theorem canon_same {c d : Int} {l : List (Int × Int)} (h1 : c ≤ d) (h2 : d ≤ max c (gplus l)) : cErr d l = cErr c l ∧ cConst d l = cConst c l ∧ cVars d l = cVars c l := by
  have e : (if d ≤ gplus (canonV l) then 0 else d) = (if c ≤ gplus (canonV l) then 0 else c) := by
    rw [gplus_canon]
    by_cases h : c ≤ gplus l
    · rw [if_pos h, if_pos (by omega)]
    · rw [if_neg h, if_neg (by omega)]; omega
  have he : cErr d l = cErr c l := by rw [cErr, cErr, e]
  exact ⟨he, by rw [cConst, cConst, he, e], by rw [cVars, cVars, he]⟩
theorem rC_le {b : List (Int × List (Int × Int))} {c : Int} : ∀ (l : List (Int × Int)), (∀ x ∈ l, 0 ≤ x.1) → rC b c l ≤ sC b c l ∧ sC b c l ≤ max (rC b c l) (gplus (sL b l)) := by
  refine snoc_ind (fun _ => ⟨Int.le_refl _, by show c ≤ max c _; omega⟩) ?_
  intro l x ih hx
  obtain ⟨i1, i2⟩ := ih fun y hy => hx y (List.mem_append_left _ hy)
  rw [rC_snoc, sC_snoc, sL_snoc, gplus_append]
  by_cases h : x.1 < (b.length : Int)
  · rw [if_pos h]; omega
  · rw [if_neg h]
    obtain ⟨k, hk⟩ : ∃ k : Nat, x.1 = k := ⟨x.1.toNat, by have := hx x (by simp); omega⟩
    rw [hk] at h ⊢
    rw [sVal_none (by omega)]
    have := (gplus_nn (rl x.2 [((k : Int), 0)])).2 ((k : Int), 0 + x.2) (by simp [rl])
    simp only at this ⊢
    omega
theorem sC_nn {b : List (Int × List (Int × Int))} {c : Int} (hc : 0 ≤ c) (l : List (Int × Int)) : 0 ≤ sC b c l := by
  refine snoc_ind (P := fun l => 0 ≤ sC b c l) (by simpa [sC] using hc) ?_ l
  intro l x ih
  rw [sC_snoc]; omega
theorem sC_hi {b : List (Int × List (Int × Int))} {c : Int} (hc : c ≤ 1000) : ∀ (l : List (Int × Int)), (∀ x ∈ l, x.2 ≤ 1000) → sBad b l = false → sC b c l ≤ 2000 := by
  refine snoc_ind (fun _ _ => by show c ≤ 2000; omega) ?_
  intro l x ih hx hb
  rw [sBad_snoc, Bool.or_eq_false_iff] at hb
  have := ih (fun y hy => hx y (List.mem_append_left _ hy)) hb.1
  have hv := (vld_c (by simpa using hb.2 : vld (sVal b x.1).1 (sVal b x.1).2 = true)).2
  have := hx x (by simp)
  rw [sC_snoc]; omega
theorem rC_nn {b : List (Int × List (Int × Int))} {c : Int} (hc : 0 ≤ c) (l : List (Int × Int)) : 0 ≤ rC b c l := by
  refine snoc_ind (P := fun l => 0 ≤ rC b c l) (by simpa [rC] using hc) ?_ l
  intro l x ih
  rw [rC_snoc]; split <;> omega
theorem sL_len {b : List (Int × List (Int × Int))} : ∀ (l : List (Int × Int)), sBad b l = false → (sL b l).length ≤ 8 * l.length := by
  refine snoc_ind (fun _ => by simp [sL]) ?_
  intro l x ih hb
  rw [sBad_snoc, Bool.or_eq_false_iff] at hb
  have := ih hb.1
  have hv := (vld_iff.1 (by simpa using hb.2 : vld (sVal b x.1).1 (sVal b x.1).2 = true)).len
  rw [sL_snoc, List.length_append, rl_len, List.length_append, List.length_singleton]; omega

/-! ### Values -/
theorem evMax_iff {vals : List Int} {m c : Int} {l : List (Int × Int)} : evMax c vals l ≤ m ↔ c ≤ m ∧ ∀ x ∈ l, asv vals x.1 + x.2 ≤ m := by
  obtain ⟨s1, s2⟩ := evMax_spec vals l c
  exact ⟨fun h => ⟨by omega, fun x hx => by have := s2 x hx; omega⟩, fun h => evMax_le l c h.1 h.2⟩
theorem int_eq {a b : Int} (h : ∀ m, a ≤ m ↔ b ≤ m) : a = b := Int.le_antisymm ((h b).2 (Int.le_refl _)) ((h a).1 (Int.le_refl _))
/-- a canonical form has the same value -/
theorem evMax_canon {c : Int} {l : List (Int × Int)} {vals : List Int} (he : cErr c l = 0) (hc : 0 ≤ c) : evMax (cConst c l) vals (cVars c l) = evMax c vals l := by
  obtain ⟨_, _, h3, _, h5⟩ := cErr_zero he
  rw [h3, h5]
  refine int_eq fun m => ?_
  rw [evMax_iff, evMax_iff]
  constructor
  · rintro ⟨g1, g2⟩
    have hall : ∀ x ∈ l, asv vals x.1 + x.2 ≤ m := fun x hx => by
      obtain ⟨y, hy, e1, e2⟩ := cov_iff.1 (canon_cov hx)
      have := g2 y hy
      rw [e1] at this
      omega
    refine ⟨?_, hall⟩
    by_cases h : c ≤ gplus l
    · rw [if_pos h] at g1
      have : gplus l ≤ m := gplus_le g1 fun x hx => by have := hall x hx; have := asv_nn vals x.1; omega
      omega
    · rw [if_neg h] at g1; exact g1
  · rintro ⟨g1, g2⟩
    exact ⟨by split <;> omega, fun x hx => g2 x (canon_mem hx)⟩
/-- the value of a level with levels put in, before it is made canonical -/
theorem evMax_put {b : List (Int × List (Int × Int))} {c : Int} {vals inn : List Int} : ∀ (l : List (Int × Int)), (∀ x ∈ l, asv inn x.1 = evMax (sVal b x.1).1 vals (sVal b x.1).2) → evMax (sC b c l) vals (sL b l) = evMax c inn l := by
  refine snoc_ind (fun _ => rfl) ?_
  intro l x ih hx
  have h1 := ih fun y hy => hx y (List.mem_append_left _ hy)
  have h2 := hx x (by simp)
  refine int_eq fun m => ?_
  have e1 : evMax (sC b c l) vals (sL b l) ≤ m ↔ evMax c inn l ≤ m := by rw [h1]
  rw [evMax_iff, evMax_iff] at e1
  have e2 : evMax (sVal b x.1).1 vals (sVal b x.1).2 + x.2 ≤ m ↔ asv inn x.1 + x.2 ≤ m := by rw [h2]
  have e3 : evMax (sVal b x.1).1 vals (sVal b x.1).2 ≤ m - x.2 ↔ _ := evMax_iff
  rw [evMax_iff, evMax_iff, sC_snoc, sL_snoc]
  constructor
  · rintro ⟨g1, g2⟩
    obtain ⟨k1, k2⟩ := e1.1 ⟨by omega, fun y hy => g2 y (List.mem_append_left _ hy)⟩
    refine ⟨k1, fun y hy => ?_⟩
    rcases List.mem_append.1 hy with hy | hy
    · exact k2 y hy
    · rw [List.mem_singleton.1 hy]
      refine e2.1 ?_
      have := e3.2 ⟨by omega, fun z hz => by
        have := g2 (z.1, z.2 + x.2) (List.mem_append_right _ (List.mem_map.2 ⟨z, hz, rfl⟩))
        simp only at this
        omega⟩
      omega
  · rintro ⟨g1, g2⟩
    obtain ⟨k1, k2⟩ := e1.2 ⟨g1, fun y hy => g2 y (List.mem_append_left _ hy)⟩
    have hxx := e2.2 (g2 x (by simp))
    obtain ⟨k3, k4⟩ := e3.1 (by omega)
    refine ⟨by omega, fun y hy => ?_⟩
    rcases List.mem_append.1 hy with hy | hy
    · exact k2 y hy
    · obtain ⟨z, hz, rfl⟩ := List.mem_map.1 hy
      have := k4 z hz
      simp only
      omega
end Go.Proofs.YtpahgbnfgnmlaaaDoor
