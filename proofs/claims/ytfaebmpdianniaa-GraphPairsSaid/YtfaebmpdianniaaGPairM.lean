/-
  Two variables are in one set exactly if each is at most the other in every solution. No walk in this text.
-/
import Derived.Test.YtfaebmpdianniaaGClsL
import Derived.Test.YtfaebmpdianniaaGChainL
namespace Go.Proofs.Ytfaebmpdianniaa

theorem first_of {P : Nat → Nat → Bool} (E : EqP P) : ∀ (m v : Nat), v ≤ m → ∃ u, u ≤ v ∧ P u v = true ∧ fst1 P u = true
  | 0, v, hv => by
    obtain rfl : v = 0 := by omega
    exact ⟨0, Nat.le_refl _, E.refl 0, fst1_iff.2 fun z hz => by omega⟩
  | m + 1, v, hv => by
    by_cases h : fst1 P v = true
    · exact ⟨v, Nat.le_refl _, E.refl v, h⟩
    · obtain ⟨z, hz, hP⟩ : ∃ z, z < v ∧ P z v = true := Classical.byContradiction fun hn => h (fst1_iff.2 fun z hz => by
        cases hb : P z v with
        | false => rfl
        | true => exact absurd ⟨z, hz, hb⟩ hn)
      obtain ⟨u, h1, h2, h3⟩ := first_of E m z (by omega)
      exact ⟨u, by omega, E.trans _ _ _ h2 hP, h3⟩
theorem eqN_eqP (E : List Edg) : EqP (eqN E) :=
  ⟨fun v => eqN_iff.2 (EqS.refl E v), fun _ _ h => eqN_iff.2 (eqN_iff.1 h).symm, fun _ _ _ h g => eqN_iff.2 ((eqN_iff.1 h).trans (eqN_iff.1 g))⟩
theorem one_set {P : Nat → Nat → Bool} (E : EqP P) {n f t : Nat} (hf : f < n) (ht : t < n) (hne : f ≠ t) : (∃ l ∈ cls P n n, f ∈ l ∧ t ∈ l) ↔ P f t = true := by
  constructor
  · rintro ⟨l, hl, h1, h2⟩
    unfold cls at hl
    obtain ⟨u, _, rfl⟩ := List.mem_map.1 hl
    have h3 := (List.mem_filter.1 h1).2
    have h4 := (List.mem_filter.1 h2).2
    exact E.trans _ _ _ (E.symm _ _ h3) h4
  · intro h
    obtain ⟨u, h1, h2, h3⟩ := first_of E f f (Nat.le_refl _)
    have m1 : f ∈ mem1 P u n := List.mem_filter.2 ⟨List.mem_range.2 hf, h2⟩
    have m2 : t ∈ mem1 P u n := List.mem_filter.2 ⟨List.mem_range.2 ht, E.trans _ _ _ h2 h⟩
    have hlen : 1 < (mem1 P u n).length := by
      refine Classical.byContradiction fun hn => ?_
      generalize mem1 P u n = l at m1 m2 hn
      match l, m1, m2, hn with
      | [], m1, _, _ => cases m1
      | [a], m1, m2, _ =>
        rw [List.mem_singleton] at m1 m2
        exact hne (m1.trans m2.symm)
      | _ :: _ :: _, _, _, hn => simp at hn
    refine ⟨mem1 P u n, ?_, m1, m2⟩
    unfold cls
    refine List.mem_map.2 ⟨u, List.mem_filter.2 ⟨List.mem_range.2 (by omega), ?_⟩, rfl⟩
    rw [h3, decide_eq_true hlen]
    rfl
theorem zero_low {n : Nat} {cs : List LCn} {y : Nat → Int} (hy : Sat (fun e => e ∈ esA n cs) y) {u : Nat} (hu : u < n) : y n ≤ y u := by
  have h1 : (⟨n, u, 0, cs.length⟩ : Edg) ∈ esA n cs := by
    unfold esA zeC
    exact List.mem_append_right _ (List.mem_map.2 ⟨u, List.mem_range.2 hu, rfl⟩)
  have h2 := hy _ h1
  unfold hol at h2
  simpa using h2
theorem pair_fol {n f t : Nat} {cs : List LCn} (hg : gvld (n : Int) cs = true) (hK : cs.length ≤ 2999) (hn : n ≤ 1200) (hf : f < n) (ht : t < n) : (folV (n : Int) cs (lnk f 0 t) = true ↔ ∀ y, Sat (fun e => e ∈ esA n cs) y → y f ≤ y t) ∧ folC (n : Int) cs (lnk f 0 t) = 0 := by
  have hc := lnk_con (n := n) (f := f) (d := 0) (t := t) hn (by omega) (by omega) (by omega)
  have hok : folOk (n : Int) cs (lnk f 0 t) = true := by
    unfold folOk
    rw [hg, hc, decide_eq_true (by omega)]
    rfl
  obtain ⟨h1, h2⟩ := folOk_true hok
  refine ⟨?_, h2⟩
  rw [h1, folB_iff]
  constructor
  · intro h y hy
    have h3 := (lnk_hol.1 (h y hy)).2
    simpa using h3
  · intro h y hy
    refine lnk_hol.2 ⟨?_, ?_⟩
    · have := zero_low hy ht
      simpa using this
    · have := h y hy
      simpa using this
/-- the law's equation -/
theorem pair_eq {n f t : Nat} {cs : List LCn} {b r1 r2 : Bool} (hf : f < n) (ht : t < n) (hne : f ≠ t) (hb : b = true ↔ ∃ l ∈ cls (eqN (esA n cs)) n n, f ∈ l ∧ t ∈ l) (h1 : r1 = true ↔ ∀ y, Sat (fun e => e ∈ esA n cs) y → y f ≤ y t) (h2 : r2 = true ↔ ∀ y, Sat (fun e => e ∈ esA n cs) y → y t ≤ y f) : b = (r1 && r2) := by
  rw [one_set (eqN_eqP _) hf ht hne, eqN_iff] at hb
  have h3 : (r1 && r2) = true ↔ b = true := by
    rw [Bool.and_eq_true, h1, h2, hb]
    constructor
    · rintro ⟨h4, h5⟩ y hy
      exact Int.le_antisymm (h4 y hy) (h5 y hy)
    · intro h4
      exact ⟨fun y hy => Int.le_of_eq (h4 y hy), fun y hy => Int.le_of_eq (h4 y hy).symm⟩
  cases h5 : (r1 && r2) with
  | true => exact h3.1 h5
  | false =>
    cases b with
    | false => rfl
    | true => rw [h3.2 rfl] at h5; cases h5
end Go.Proofs.Ytfaebmpdianniaa
