/-
  Variables that are equal in all solutions: they have one value in a solution and tight edges lead from each to the other. The sets of them, in order. No walk in this text.
-/
import Derived.Test.YtapajkfnpkekdaaGRRea
namespace Go.Proofs.Ytapajkfnpkekdaa

theorem rch_up {V : List Int} {E : List Edg} {y : Nat → Int} (hy : ∀ e ∈ E, hol y e) {v x : Nat} (h : Rch (tn V E) v x) : y v - vv V v ≤ y x - vv V x := by
  unfold Rch at h
  induction h with
  | refl _ => exact Int.le_refl _
  | step _ h2 _ ih =>
    obtain ⟨e, he, rfl, rfl, h3⟩ := tn_mem.1 h2
    have h4 := hy e he
    have h5 := of_decide_eq_true h3
    unfold hol at h4
    omega
theorem rch_sep {V : List Int} {E : List Edg} (hV : ∀ e ∈ E, hol (vv V) e) {v x : Nat} (h : ¬ Rch (tn V E) v x) : ∃ y : Nat → Int, (∀ e ∈ E, hol y e) ∧ y v = vv V v + 1 ∧ y x = vv V x := by
  classical
  refine ⟨fun u => if Rch (tn V E) v u then vv V u + 1 else vv V u, fun e he => ?_, if_pos (.refl trivial), if_neg h⟩
  have h1 := hV e he
  unfold hol at h1 ⊢
  dsimp only
  by_cases hf : Rch (tn V E) v e.f
  · rw [if_pos hf]
    by_cases ht : tg V e = true
    · rw [if_pos (.step hf (tn_mem.2 ⟨e, he, rfl, rfl, ht⟩) trivial)]
      omega
    · have h2 : ¬ vv V e.f + e.b = vv V e.t := fun h3 => ht (decide_eq_true h3)
      split <;> omega
  · rw [if_neg hf]
    split <;> omega
/-- equal in all solutions -/
def EqS (E : List Edg) (v x : Nat) : Prop := ∀ y : Nat → Int, (∀ e ∈ E, hol y e) → y v = y x
theorem eqS_iff {V : List Int} {E : List Edg} (hV : ∀ e ∈ E, hol (vv V) e) {v x : Nat} : EqS E v x ↔ (Rch (tn V E) v x ∧ Rch (tn V E) x v) ∧ vv V x = vv V v := by
  constructor
  · intro h
    have hvx := h _ hV
    refine ⟨⟨Classical.byContradiction fun hn => ?_, Classical.byContradiction fun hn => ?_⟩, hvx.symm⟩
    · obtain ⟨y, h1, h2, h3⟩ := rch_sep hV hn
      have := h y h1
      omega
    · obtain ⟨y, h1, h2, h3⟩ := rch_sep hV hn
      have := h y h1
      omega
  · rintro ⟨⟨h1, h2⟩, h3⟩ y hy
    have h4 := rch_up hy h1
    have h5 := rch_up hy h2
    omega
theorem EqS.refl (E : List Edg) (v : Nat) : EqS E v v := fun _ _ => rfl
theorem EqS.symm {E : List Edg} {v x : Nat} (h : EqS E v x) : EqS E x v := fun y hy => (h y hy).symm
theorem EqS.trans {E : List Edg} {v x z : Nat} (h : EqS E v x) (g : EqS E x z) : EqS E v z := fun y hy => (h y hy).trans (g y hy)
/-- an edge turned around -/
def tE (e : Edg) : Edg := ⟨e.t, e.f, -e.b, e.k⟩
theorem tn_turn {V : List Int} {E : List Edg} {x y : Nat} : y ∈ tn V (E.map tE) x ↔ x ∈ tn V E y := by
  rw [tn_mem, tn_mem]
  constructor
  · rintro ⟨e, he, rfl, rfl, h⟩
    obtain ⟨e', he', rfl⟩ := List.mem_map.1 he
    have h2 := of_decide_eq_true h
    refine ⟨e', he', rfl, rfl, decide_eq_true ?_⟩
    simp only [tE] at h2
    omega
  · rintro ⟨e, he, rfl, rfl, h⟩
    have h2 := of_decide_eq_true h
    refine ⟨tE e, List.mem_map.2 ⟨e, he, rfl⟩, rfl, rfl, decide_eq_true ?_⟩
    simp only [tE]
    omega
theorem rch_turn {V : List Int} {E : List Edg} {v x : Nat} : Rch (tn V (E.map tE)) v x ↔ Rch (tn V E) x v :=
  ⟨fun h => Rc.turn (fun _ _ h => tn_turn.1 h) h, fun h => Rc.turn (fun _ _ h => tn_turn.2 h) h⟩

/-- the same as a Bool -/
noncomputable def eqN (E : List Edg) (v x : Nat) : Bool := @decide (EqS E v x) (Classical.propDecidable _)
theorem eqN_iff {E : List Edg} {v x : Nat} : eqN E v x = true ↔ EqS E v x := by
  unfold eqN; exact @decide_eq_true_iff _ (Classical.propDecidable _)
theorem eqN_congr {E F : List Edg} (h : ∀ y : Nat → Int, (∀ e ∈ E, hol y e) ↔ ∀ e ∈ F, hol y e) : eqN E = eqN F := by
  funext v x
  have h1 : EqS E v x ↔ EqS F v x := ⟨fun g y hy => g y ((h y).2 hy), fun g y hy => g y ((h y).1 hy)⟩
  cases hb : eqN F v x with
  | true => exact eqN_iff.2 (h1.2 (eqN_iff.1 hb))
  | false =>
    cases ha : eqN E v x with
    | false => rfl
    | true => rw [eqN_iff.2 (h1.1 (eqN_iff.1 ha))] at hb; cases hb
/-- those of the first j that are as u -/
def mem1 (P : Nat → Nat → Bool) (u j : Nat) : List Nat := (List.range j).filter (P u)
/-- none before u is as u -/
def fst1 (P : Nat → Nat → Bool) (u : Nat) : Bool := (List.range u).all fun z => !P z u
/-- the sets whose first member is below i -/
def cls (P : Nat → Nat → Bool) (n i : Nat) : List (List Nat) := ((List.range i).filter fun u => fst1 P u && decide (1 < (mem1 P u n).length)).map fun u => mem1 P u n
theorem mem1_succ (P : Nat → Nat → Bool) (u j : Nat) : mem1 P u (j + 1) = if P u j = true then mem1 P u j ++ [j] else mem1 P u j := by
  unfold mem1
  rw [List.range_succ, List.filter_append]
  by_cases h : P u j = true
  · rw [if_pos h]; simp [h]
  · rw [if_neg h]; simp [h]
theorem mem1_len (P : Nat → Nat → Bool) (u j : Nat) : (mem1 P u j).length ≤ j := by
  have := List.length_filter_le (P u) (List.range j)
  rwa [List.length_range] at this
theorem mem1_lt {P : Nat → Nat → Bool} {u j x : Nat} (h : x ∈ mem1 P u j) : x < j := List.mem_range.1 (List.mem_filter.1 h).1
theorem cls_succ (P : Nat → Nat → Bool) (n i : Nat) : cls P n (i + 1) = if fst1 P i = true ∧ 1 < (mem1 P i n).length then cls P n i ++ [mem1 P i n] else cls P n i := by
  unfold cls
  rw [List.range_succ, List.filter_append, List.map_append]
  by_cases h : fst1 P i = true ∧ 1 < (mem1 P i n).length
  · rw [if_pos h]; simp [h.1, h.2]
  · rw [if_neg h]
    have : (fst1 P i && decide (1 < (mem1 P i n).length)) = false := by
      cases hb : fst1 P i && decide (1 < (mem1 P i n).length) with
      | false => rfl
      | true => rw [Bool.and_eq_true, decide_eq_true_eq] at hb; exact absurd hb h
    simp [this]
theorem cls_len (P : Nat → Nat → Bool) (n i : Nat) : (cls P n i).length ≤ i := by
  unfold cls
  rw [List.length_map]
  have := List.length_filter_le (fun u => fst1 P u && decide (1 < (mem1 P u n).length)) (List.range i)
  rwa [List.length_range] at this
theorem fst1_iff {P : Nat → Nat → Bool} {u : Nat} : fst1 P u = true ↔ ∀ z, z < u → P z u = false := by
  unfold fst1
  rw [List.all_eq_true]
  constructor
  · intro h z hz
    have := h z (List.mem_range.2 hz)
    simpa using this
  · intro h z hz
    rw [h z (List.mem_range.1 hz)]; rfl
/-- nothing below a first member is as it is -/
theorem mem1_first {E : List Edg} {u : Nat} (h : fst1 (eqN E) u = true) : mem1 (eqN E) u u = [] := by
  unfold mem1
  rw [List.filter_eq_nil_iff]
  intro z hz
  have h1 := fst1_iff.1 h z (List.mem_range.1 hz)
  intro h2
  rw [eqN_iff.2 (eqN_iff.1 h2).symm] at h1
  cases h1
end Go.Proofs.Ytapajkfnpkekdaa
