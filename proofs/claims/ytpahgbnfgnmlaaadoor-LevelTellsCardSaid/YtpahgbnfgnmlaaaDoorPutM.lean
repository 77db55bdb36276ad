/-
  The value of a level with levels put in, and the order of such levels: plain lemmas.
-/
import Derived.Test.YtpahgbnfgnmlaaaDoorSubM
namespace Go.Proofs.YtpahgbnfgnmlaaaDoor
open Go Go.RowKit

theorem asv_le {L : List Int} {m : Int} (h : ∀ z ∈ L, z ≤ m) (h0 : 0 ≤ m) (v : Int) : asv L v ≤ m := by
  unfold asv
  split
  · rename_i z hz
    have := h z (List.mem_of_getElem? hz)
    split <;> omega
  · exact h0
theorem evBad_not {L : List Int} (h : ∀ z ∈ L, z ≤ 2147483647) (l : List (Int × Int)) : evBad L l = false := by
  rw [← Bool.not_eq_true]
  intro hb
  obtain ⟨x, _, hx⟩ := List.any_eq_true.1 hb
  have := asv_le h (by decide) x.1
  simp only [decide_eq_true_eq] at hx
  omega
theorem evMax_nn {c : Int} (hc : 0 ≤ c) (L : List Int) (l : List (Int × Int)) : 0 ≤ evMax c L l := by
  have := (evMax_spec L l c).1
  omega
theorem evMax_hi {c m : Int} {L : List Int} {l : List (Int × Int)} (hv : vld c l = true) (h : ∀ z ∈ L, z ≤ m) (h0 : 0 ≤ m) : evMax c L l ≤ m + 1000 := by
  have hc := vld_c hv
  refine evMax_le l c (by omega) fun x hx => ?_
  have := asv_le h h0 x.1
  have := (vld_mem hv hx).2
  omega
theorem evV_ok {c : Int} {L : List Int} {l : List (Int × Int)} (hv : vld c l = true) (h : ∀ z ∈ L, z ≤ 2147483647) : evV c L l = evMax c L l ∧ evE c L l = 0 := by
  have := evBad_not h l
  exact ⟨by rw [evV, if_pos hv, this]; rfl, by rw [evE, if_pos hv, this]; rfl⟩

theorem sVal_vld {b : List (Int × List (Int × Int))} (hb : ∀ p ∈ b, vld p.1 p.2 = true) {v : Int} (h0 : 0 ≤ v) (h1 : v ≤ 1199) : vld (sVal b v).1 (sVal b v).2 = true := by
  obtain ⟨k, rfl⟩ : ∃ k : Nat, v = k := ⟨v.toNat, by omega⟩
  by_cases hk : k < b.length
  · rw [sVal_some (List.getElem?_eq_getElem hk)]
    exact hb _ (List.getElem_mem hk)
  · rw [sVal_none (by omega)]
    refine vld_of ⟨Int.le_refl _, by simp, by simp, fun i y hi hy => ?_⟩
    have : i = 0 := by simp at hi; omega
    subst this
    simp at hy
    subst hy
    exact ⟨⟨by simp only; omega, by simp only; omega⟩, ⟨by simp, by simp⟩, rfl⟩
theorem sBad_vld {b : List (Int × List (Int × Int))} (hb : ∀ p ∈ b, vld p.1 p.2 = true) {c : Int} {l : List (Int × Int)} (hv : vld c l = true) : sBad b l = false := by
  rw [← Bool.not_eq_true]
  intro h
  obtain ⟨x, hx, hn⟩ := List.any_eq_true.1 h
  have := (vld_mem hv hx).1
  rw [sVal_vld hb this.1 this.2] at hn
  cases hn

/-- the first k numbers are the values of the levels, the others as they were -/
def inK (b : List (Int × List (Int × Int))) (L : List Int) (k : Nat) : List Int := (List.range 1200).map fun (j : Nat) => if j < k then evMax (sVal b (j : Int)).1 L (sVal b (j : Int)).2 else L.getD j 0
theorem inK_len (b : List (Int × List (Int × Int))) (L : List Int) (k : Nat) : (inK b L k).length = 1200 := by simp [inK]
theorem inK_get (b : List (Int × List (Int × Int))) (L : List Int) (k : Nat) {j : Nat} (hj : j < 1200) : (inK b L k)[j]? = some (if j < k then evMax (sVal b (j : Int)).1 L (sVal b (j : Int)).2 else L.getD j 0) := by
  unfold inK
  rw [List.getElem?_map, List.getElem?_range hj]
  rfl
theorem inK_zero (b : List (Int × List (Int × Int))) {L : List Int} (hL : L.length = 1200) : inK b L 0 = L := by
  refine List.ext_getElem? fun j => ?_
  by_cases hj : j < 1200
  · rw [inK_get b L 0 hj, if_neg (by omega), List.getElem?_eq_getElem (by omega), List.getD_eq_getElem?_getD, List.getElem?_eq_getElem (by omega)]
    rfl
  · rw [List.getElem?_eq_none (by rw [inK_len]; omega), List.getElem?_eq_none (by omega)]
theorem inK_step (b : List (Int × List (Int × Int))) (L : List Int) {k : Nat} (_hk : k < 1200) : (inK b L k).set k (evMax (sVal b (k : Int)).1 L (sVal b (k : Int)).2) = inK b L (k + 1) := by
  refine List.ext_getElem? fun j => ?_
  by_cases hj : j < 1200
  · rw [inK_get b L (k + 1) hj, List.getElem?_set]
    by_cases e : k = j
    · subst e
      rw [if_pos rfl, if_pos (by rw [inK_len]; omega), if_pos (by omega)]
    · rw [if_neg e, inK_get b L k hj]
      by_cases h : j < k
      · rw [if_pos h, if_pos (by omega)]
      · rw [if_neg h, if_neg (by omega)]
  · rw [List.getElem?_eq_none (by simp [inK_len]; omega), List.getElem?_eq_none (by rw [inK_len]; omega)]
theorem asv_inK {b : List (Int × List (Int × Int))} {L : List Int} (hb : ∀ p ∈ b, vld p.1 p.2 = true) (hL : L.length = 1200) {v : Int} (h0 : 0 ≤ v) (h1 : v ≤ 1199) : asv (inK b L b.length) v = evMax (sVal b v).1 L (sVal b v).2 := by
  have hc := (vld_c (sVal_vld hb h0 h1)).1
  obtain ⟨k, rfl⟩ : ∃ k : Nat, v = k := ⟨v.toNat, by omega⟩
  have hn := evMax_nn hc L (sVal b (k : Int)).2
  rw [asv_some (inK_get b L b.length (show k < 1200 by omega))]
  by_cases hk : k < b.length
  · rw [if_pos hk]
    split <;> omega
  · rw [if_neg hk, sVal_none (by omega)]
    have hg : L[k]? = some (L.getD k 0) := by
      rw [List.getD_eq_getElem?_getD, List.getElem?_eq_getElem (by omega)]; rfl
    have e : evMax 0 L [((k : Int), (0 : Int))] = if 0 < asv L (k : Int) + 0 then asv L (k : Int) + 0 else 0 := rfl
    have ha := asv_nn L (k : Int)
    rw [e, ← asv_some hg]
    split <;> omega
theorem inK_hi {b : List (Int × List (Int × Int))} {L : List Int} {k : Nat} (hk : k ≤ b.length) (hb : ∀ j p, j < k → b[j]? = some p → vld p.1 p.2 = true) (hL : ∀ z ∈ L, z ≤ 1000000) : ∀ z ∈ inK b L k, z ≤ 1001000 := by
  intro z hz
  obtain ⟨j, _, rfl⟩ := List.mem_map.1 hz
  by_cases hj : j < k
  · rw [if_pos hj]
    have hx := List.getElem?_eq_getElem (show j < b.length by omega)
    rw [sVal_some hx]
    have := evMax_hi (hb j _ hj hx) hL (by decide)
    omega
  · rw [if_neg hj, List.getD_eq_getElem?_getD]
    cases hg : L[j]? with
    | none => simp
    | some y => have := hL y (List.mem_of_getElem? hg); simp; omega

/-- the values of all levels, as a list of numbers -/
def inG (b : List (Int × List (Int × Int))) (vals : List Int) : List Int := (List.range 1200).map fun (j : Nat) => evMax (sVal b (j : Int)).1 vals (sVal b (j : Int)).2
theorem asv_inG {b : List (Int × List (Int × Int))} {vals : List Int} (hb : ∀ p ∈ b, vld p.1 p.2 = true) {v : Int} (h0 : 0 ≤ v) (h1 : v ≤ 1199) : asv (inG b vals) v = evMax (sVal b v).1 vals (sVal b v).2 := by
  have hc := (vld_c (sVal_vld hb h0 h1)).1
  obtain ⟨k, rfl⟩ : ∃ k : Nat, v = k := ⟨v.toNat, by omega⟩
  have hn := evMax_nn hc vals (sVal b (k : Int)).2
  have hg : (inG b vals)[k]? = some (evMax (sVal b (k : Int)).1 vals (sVal b (k : Int)).2) := by
    unfold inG
    rw [List.getElem?_map, List.getElem?_range (by omega)]
    rfl
  rw [asv_some hg]
  split <;> omega

theorem sL_mem {b : List (Int × List (Int × Int))} (hb : ∀ p ∈ b, vld p.1 p.2 = true) {c : Int} {l : List (Int × Int)} (hv : vld c l = true) : ∀ y ∈ sL b l, (0 ≤ y.1 ∧ y.1 ≤ 1199) ∧ 0 ≤ y.2 := by
  intro y hy
  obtain ⟨x, hx, hy⟩ := List.mem_flatMap.1 hy
  obtain ⟨z, hz, rfl⟩ := List.mem_map.1 hy
  have h1 := vld_mem hv hx
  have h2 := vld_mem (sVal_vld hb h1.1.1 h1.1.2) hz
  exact ⟨h2.1, by simp only; omega⟩
theorem u_vld {b : List (Int × List (Int × Int))} (hb : ∀ p ∈ b, vld p.1 p.2 = true) {c : Int} {l : List (Int × Int)} (hv : vld c l = true) (he : uErr c l b = 0) : vld (uConst c l b) (uVars c l b) = true := by
  obtain ⟨e1, e2, e3⟩ := u_yes ⟨hv, sBad_vld hb hv⟩
  rw [e1] at he
  rw [e2, e3]
  exact vld_canon he (sC_nn (vld_c hv).1 l) (sL_mem hb hv)
/-- the value of a level with levels put in is its value with their values -/
theorem put_value {b : List (Int × List (Int × Int))} (hb : ∀ p ∈ b, vld p.1 p.2 = true) {c : Int} {l : List (Int × Int)} (hv : vld c l = true) (he : uErr c l b = 0) {vals inn : List Int}
    (hi : ∀ v, 0 ≤ v → v ≤ 1199 → asv inn v = evMax (sVal b v).1 vals (sVal b v).2) : evMax (uConst c l b) vals (uVars c l b) = evMax c inn l := by
  obtain ⟨e1, e2, e3⟩ := u_yes ⟨hv, sBad_vld hb hv⟩
  rw [e1] at he
  rw [e2, e3, evMax_canon he (sC_nn (vld_c hv).1 l)]
  exact evMax_put l fun x hx => by
    have := (vld_mem hv hx).1
    exact hi x.1 this.1 this.2
/-- what is at most another level stays so -/
theorem put_leq {b : List (Int × List (Int × Int))} (hb : ∀ p ∈ b, vld p.1 p.2 = true) {ca cb : Int} {la lb : List (Int × Int)} (ha : vld ca la = true) (hv : vld cb lb = true) (hea : uErr ca la b = 0) (heb : uErr cb lb b = 0) (h : leqv ca la cb lb = true) :
    leqv (uConst ca la b) (uVars ca la b) (uConst cb lb b) (uVars cb lb b) = true := by
  have hle : ∀ vals, evMax (uConst ca la b) vals (uVars ca la b) ≤ evMax (uConst cb lb b) vals (uVars cb lb b) := fun vals => by
    rw [put_value hb ha hea (fun v h0 h1 => asv_inG (vals := vals) hb h0 h1), put_value hb hv heb (fun v h0 h1 => asv_inG (vals := vals) hb h0 h1)]
    exact leqv_sound h _
  have va := u_vld hb ha hea
  have vb := u_vld hb hv heb
  refine leqv_complete va vb ⟨[], fun x _ => by simp [asv], hle []⟩ fun x hx => ?_
  obtain ⟨k, hk⟩ : ∃ k : Nat, x.1 = k := ⟨x.1.toNat, by have := (vld_mem va hx).1; omega⟩
  refine ⟨List.replicate k 0 ++ [1001], ?_, fun y hy hne => ?_, hle _⟩
  · rw [hk]
    have : (List.replicate k (0 : Int) ++ [1001])[k]? = some 1001 := by simp
    rw [asv_some this]; rfl
  · obtain ⟨j, hj⟩ : ∃ j : Nat, y.1 = j := ⟨y.1.toNat, by have := (vld_mem vb hy).1; omega⟩
    rw [hj]
    by_cases hjk : j < k
    · have : (List.replicate k (0 : Int) ++ [1001])[j]? = some 0 := by
        rw [List.getElem?_append_left (by simpa using hjk)]
        simp [hjk]
      rw [asv_some this]; rfl
    · refine asv_none ?_
      have : j ≠ k := fun e => hne (by rw [hj, hk, e])
      simp
      omega
end Go.Proofs.YtpahgbnfgnmlaaaDoor
