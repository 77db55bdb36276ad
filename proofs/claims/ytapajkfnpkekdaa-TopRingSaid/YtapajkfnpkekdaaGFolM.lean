/-
  What follows from a system: said by all its solutions, by the longest ways, and by contrary edges. No walk in this text.
-/
import Derived.Test.YtapajkfnpkekdaaGRSol
namespace Go.Proofs.Ytapajkfnpkekdaa

theorem bound_list {α : Type} (g : α → Int) : ∀ l : List α, ∃ M : Int, 0 ≤ M ∧ ∀ e ∈ l, g e ≤ M
  | [] => ⟨0, Int.le_refl _, fun _ h => by cases h⟩
  | a :: l => by
    obtain ⟨M, h0, h1⟩ := bound_list g l
    refine ⟨if g a ≤ M then M else g a, by split <;> omega, fun e he => ?_⟩
    rcases List.mem_cons.1 he with rfl | he
    · split <;> omega
    · have := h1 e he; split <;> omega
theorem LonE.fol {n s : Nat} {E : List Edg} {st : List (Option Int)} (h : LonE n E s st) (y0 : Nat → Int) (hy0 : ∀ e ∈ E, hol y0 e) {t : Nat} {w : Int} : (∀ y : Nat → Int, (∀ e ∈ E, hol y e) → y s + w ≤ y t) ↔ ∃ d, gw st t = some d ∧ w ≤ d := by
  constructor
  · intro hall
    obtain ⟨a, ha, ha0⟩ := h.at0
    have ha1 := h.up y0 hy0 s a ha
    obtain ⟨M, hM0, hM⟩ := bound_list (fun e : Edg => y0 e.f + e.b - (match gw st e.t with | some c => c | none => y0 e.t)) E
    have hP : ∀ P : Int, M ≤ P → ∀ e ∈ E, hol (fun v => match gw st v with | some c => c | none => y0 v - P) e := by
      intro P hP e he
      have h1 := hM e he
      have h2 := hy0 e he
      unfold hol at h2 ⊢
      dsimp only at h1 ⊢
      cases hf : gw st e.f with
      | some c =>
        obtain ⟨d, h3, h4⟩ := h.rest e he c hf
        rw [h3]
        exact h4
      | none =>
        cases ht : gw st e.t with
        | some d => rw [ht] at h1; dsimp only at h1 ⊢; omega
        | none => dsimp only; omega
    cases ht : gw st t with
    | none =>
      have h3 := hall _ (hP (M + (y0 t - y0 s - w).toNat + 1 + (a - y0 s).toNat + (y0 s - a).toNat) (by omega))
      rw [ha, ht] at h3
      first | omega | (dsimp only at h3; omega)
    | some d =>
      refine ⟨d, rfl, ?_⟩
      have h3 := hall _ (hP M (Int.le_refl _))
      rw [ha, ht] at h3
      first | omega | (dsimp only at h3; omega)
  · rintro ⟨d, hd, hw⟩ y hy
    have := h.up y hy t d hd
    omega

/-- do these edges hold in all solutions? -/
noncomputable def folB (P : (Nat → Int) → Prop) (es : List Edg) : Bool := @decide (∀ y, P y → ∀ e ∈ es, hol y e) (Classical.propDecidable _)
theorem folB_iff {P : (Nat → Int) → Prop} {es : List Edg} : folB P es = true ↔ ∀ y, P y → ∀ e ∈ es, hol y e := by
  unfold folB; exact @decide_eq_true_iff _ (Classical.propDecidable _)
theorem folB_false {P : (Nat → Int) → Prop} {es : List Edg} (h : ¬ ∀ y, P y → ∀ e ∈ es, hol y e) : folB P es = false := by
  cases hb : folB P es with
  | false => rfl
  | true => exact absurd (folB_iff.1 hb) h
theorem folB_congr {P Q : (Nat → Int) → Prop} {es fs : List Edg} (h : ∀ y, P y ↔ Q y) (g : ∀ y, (∀ e ∈ es, hol y e) ↔ ∀ e ∈ fs, hol y e) : folB P es = folB Q fs := by
  cases hb : folB Q fs with
  | true => exact folB_iff.2 fun y hy => (g y).2 (folB_iff.1 hb y ((h y).1 hy))
  | false =>
    refine folB_false fun h1 => ?_
    have : folB Q fs = true := folB_iff.2 fun y hy => (g y).1 (h1 y ((h y).2 hy))
    rw [hb] at this; cases this
/-- the system of a longer list, of which the first ones are on -/
theorem sat_pre {n : Nat} {cs ds : List LCn} {y : Nat → Int} : Sat (OnG (outE (esA n (cs ++ ds))) (onr 0 cs.length fun i => if i = (cs ++ ds).length then true else false)) y ↔ Sat (fun e => e ∈ esA n cs) y := by
  have hfo : ∀ i, i < cs.length → foC n (cs ++ ds) i = foC n cs i := fun i hi => by
    unfold foC
    rw [List.getElem?_append_left hi]
  constructor
  · intro h e he
    rcases List.mem_append.1 he with he | he
    · obtain ⟨i, hi, h1⟩ := esC_mem.1 he
      refine h e ⟨outE_mem.2 ⟨List.mem_append_left _ (esC_mem.2 ⟨i, by rw [List.length_append]; omega, by rw [hfo i hi]; exact h1⟩), rfl⟩, ?_⟩
      have hk : e.k = i := by
        unfold foC at h1
        cases hc : cs[i]? with
        | none => rw [hc] at h1; cases h1
        | some c =>
          rw [hc] at h1
          rcases List.mem_cons.1 h1 with rfl | h1
          · rfl
          · obtain ⟨x, _, rfl⟩ := List.mem_map.1 h1; rfl
      unfold onr
      rw [hk]
      simp [hi]
    · obtain ⟨u, hu, rfl⟩ := List.mem_map.1 he
      have := h ⟨n, u, 0, (cs ++ ds).length⟩ ⟨outE_mem.2 ⟨List.mem_append_right _ (List.mem_map.2 ⟨u, hu, rfl⟩), rfl⟩, by unfold onr; simp⟩
      exact this
  · intro h e he
    obtain ⟨h1, h2⟩ := he
    rcases List.mem_append.1 (outE_mem.1 h1).1 with h3 | h3
    · obtain ⟨i, hi, h4⟩ := esC_mem.1 h3
      have hk : e.k = i := by
        unfold foC at h4
        cases hc : (cs ++ ds)[i]? with
        | none => rw [hc] at h4; cases h4
        | some c =>
          rw [hc] at h4
          rcases List.mem_cons.1 h4 with rfl | h4
          · rfl
          · obtain ⟨x, _, rfl⟩ := List.mem_map.1 h4; rfl
      have hik : i < cs.length := by
        refine Classical.byContradiction fun hn => ?_
        unfold onr at h2
        rw [hk] at h2
        simp [hn] at h2
        rw [List.length_append] at hi
        omega
      exact h e (List.mem_append_left _ (esC_mem.2 ⟨i, hik, by rw [← hfo i hik]; exact h4⟩))
    · obtain ⟨u, hu, rfl⟩ := List.mem_map.1 h3
      have := h ⟨n, u, 0, cs.length⟩ (List.mem_append_right _ (List.mem_map.2 ⟨u, hu, rfl⟩))
      exact this
/-- what Follows answers -/
noncomputable def folOk (v : Int) (cs : List LCn) (c : LCn) : Bool := gvld v cs && conB v c && decide (cs.length < 3000)
noncomputable def folV (v : Int) (cs : List LCn) (c : LCn) : Bool := if folOk v cs c then folB (Sat fun e => e ∈ esA v.toNat cs) (edgC v.toNat c 0) else false
noncomputable def folC (v : Int) (cs : List LCn) (c : LCn) : Int := if folOk v cs c then 0 else 4
end Go.Proofs.Ytapajkfnpkekdaa
