/-
  Two walks, ahead and back, find which nodes are reached from each other. No program in this text.
-/
import Derived.Test.YtapajkfnpkekdaaProg
namespace Go.Proofs.Ytapajkfnpkekdaa

/-- x is reached from v through nodes of P -/
inductive Rc (next : Nat → List Nat) (P : Nat → Prop) (v : Nat) : Nat → Prop
  | refl : P v → Rc next P v v
  | step {u w : Nat} : Rc next P v u → w ∈ next u → P w → Rc next P v w
section
variable {next : Nat → List Nat} {P Q : Nat → Prop} {v u w x : Nat}
theorem Rc.mono (h : Rc next P v x) (hPQ : ∀ y, P y → Q y) : Rc next Q v x := by
  induction h with
  | refl h => exact .refl (hPQ _ h)
  | step _ h2 h3 ih => exact .step ih h2 (hPQ _ h3)
theorem Rc.trans (h : Rc next P v u) (g : Rc next P u x) : Rc next P v x := by
  induction g with
  | refl _ => exact h
  | step _ h2 h3 ih => exact .step ih h2 h3
theorem Rc.head (hv : P v) (h : u ∈ next v) (g : Rc next P u x) : Rc next P v x := by
  have hu : P u := by
    clear h
    induction g with
    | refl h => exact h
    | step _ _ _ ih => exact ih
  exact (Rc.step (Rc.refl hv) h hu).trans g
theorem Rc.of (h : Rc next P v x) : P x := by
  cases h with
  | refl h => exact h
  | step _ _ h => exact h
/-- along the edges turned around -/
theorem Rc.turn {back : Nat → List Nat} (hb : ∀ a b, b ∈ next a → a ∈ back b) (h : Rc next P v x) : Rc back P x v := by
  induction h with
  | refl h => exact .refl h
  | step h1 h2 h3 ih => exact Rc.head h3 (hb _ _ h2) ih
end
/-- plainly reached -/
def Rch (next : Nat → List Nat) (v x : Nat) : Prop := Rc next (fun _ => True) v x
/-- reached from each other -/
def Mut (next : Nat → List Nat) (v x : Nat) : Prop := Rch next v x ∧ Rch next x v
theorem Mut.refl (next : Nat → List Nat) (v : Nat) : Mut next v v := ⟨.refl trivial, .refl trivial⟩
theorem Mut.symm {next : Nat → List Nat} {v x : Nat} (h : Mut next v x) : Mut next x v := ⟨h.2, h.1⟩
theorem Mut.trans {next : Nat → List Nat} {v x y : Nat} (h : Mut next v x) (g : Mut next x y) : Mut next v y := ⟨h.1.trans g.1, g.2.trans h.2⟩

/-- each node of a list of nodes in the order in which they were left: what it stands behind it has reached, as far as what comes before does not lead there -/
def Ks (next : Nat → List Nat) (O : List Nat) : Prop :=
  ∀ (j v : Nat), O[j]? = some v → ∃ s : Nat, s ≤ j ∧ (∀ i x : Nat, s ≤ i → i ≤ j → O[i]? = some x → Rch next v x) ∧ ∀ i x : Nat, i < s → O[i]? = some x → ∀ y ∈ next x, ∀ k : Nat, s ≤ k → k ≤ j → O[k]? ≠ some y
/-- what is so of the nodes that were seen and those that were left -/
structure Wk (next : Nat → List Nat) (S : Nat → Prop) (O : List Nat) : Prop where
  sub : ∀ x ∈ O, S x
  cl : ∀ x ∈ O, ∀ y ∈ next x, S y
  nd : O.Nodup
  ks : Ks next O
/-- what a walk from a node has added -/
structure Wn (next : Nat → List Nat) (v : Nat) (S S' : Nat → Prop) (O M : List Nat) : Prop where
  wk : Wk next S' (O ++ M)
  all : ∀ x, S' x ↔ S x ∨ x ∈ M
  new : ∀ x ∈ M, ¬ S x
  rc : ∀ x ∈ M, Rc next (fun y => y ∈ M) v x
  at_ : S' v
section
variable {next : Nat → List Nat} {v : Nat} {S S' : Nat → Prop} {O M : List Nat}
theorem Wn.skip (h : Wk next S O) (hv : S v) : Wn next v S S O [] :=
  ⟨by rw [List.append_nil]; exact h, fun x => by simp, fun x hx => (by cases hx), fun x hx => (by cases hx), hv⟩
/-- what is so while the nodes next to v are walked to: v is seen and not left -/
structure Wl (next : Nat → List Nat) (v : Nat) (S Sj : Nat → Prop) (O Mj : List Nat) (done : List Nat) : Prop where
  wk : Wk next Sj (O ++ Mj)
  all : ∀ x, Sj x ↔ S x ∨ x = v ∨ x ∈ Mj
  new : ∀ x ∈ Mj, ¬ S x ∧ x ≠ v
  rc : ∀ x ∈ Mj, Rc next (fun y => y = v ∨ y ∈ Mj) v x
  dn : ∀ x ∈ done, Sj x
theorem Wl.begin (h : Wk next S O) : Wl next v S (fun x => S x ∨ x = v) O [] [] :=
  ⟨by rw [List.append_nil]; exact ⟨fun x hx => .inl (h.sub x hx), fun x hx y hy => .inl (h.cl x hx y hy), h.nd, h.ks⟩, fun x => by simp, fun x hx => (by cases hx), fun x hx => (by cases hx), fun x hx => (by cases hx)⟩
theorem Wl.step {Sj Sk : Nat → Prop} {Mj N done : List Nat} {u : Nat} (h : Wl next v S Sj O Mj done) (hu : u ∈ next v) (g : Wn next u Sj Sk (O ++ Mj) N) : Wl next v S Sk O (Mj ++ N) (done ++ [u]) := by
  refine ⟨by rw [← List.append_assoc]; exact g.wk, fun x => ?_, fun x hx => ?_, fun x hx => ?_, fun x hx => ?_⟩
  · rw [g.all, h.all, List.mem_append]
    constructor
    · rintro ((h1 | h1 | h1) | h1)
      · exact .inl h1
      · exact .inr (.inl h1)
      · exact .inr (.inr (.inl h1))
      · exact .inr (.inr (.inr h1))
    · rintro (h1 | h1 | h1 | h1)
      · exact .inl (.inl h1)
      · exact .inl (.inr (.inl h1))
      · exact .inl (.inr (.inr h1))
      · exact .inr h1
  · rcases List.mem_append.1 hx with hx | hx
    · exact h.new x hx
    · have h1 := g.new x hx
      rw [h.all] at h1
      exact ⟨fun e => h1 (.inl e), fun e => h1 (.inr (.inl e))⟩
  · rcases List.mem_append.1 hx with hx | hx
    · exact (h.rc x hx).mono fun y hy => hy.elim .inl fun hy => .inr (List.mem_append_left _ hy)
    · exact Rc.head (.inl rfl) hu ((g.rc x hx).mono fun y hy => .inr (List.mem_append_right _ hy))
  · rw [g.all]
    rcases List.mem_append.1 hx with hx | hx
    · exact .inl (h.dn x hx)
    · rw [List.mem_singleton.1 hx, ← g.all]; exact g.at_
theorem Wl.done {Sj : Nat → Prop} {Mj : List Nat} (h0 : Wk next S O) (hv : ¬ S v) (h : Wl next v S Sj O Mj (next v)) : Wn next v S Sj O (Mj ++ [v]) := by
  have hvS : Sj v := (h.all v).2 (.inr (.inl rfl))
  have hrc : ∀ x ∈ Mj ++ [v], Rc next (fun y => y ∈ Mj ++ [v]) v x := fun x hx => by
    rcases List.mem_append.1 hx with hx | hx
    · exact (h.rc x hx).mono fun y hy => by
        rcases hy with rfl | hy
        · simp
        · exact List.mem_append_left _ hy
    · rw [List.mem_singleton.1 hx]; exact .refl (by simp)
  have hnew : ∀ x ∈ Mj ++ [v], ¬ S x := fun x hx => by
    rcases List.mem_append.1 hx with hx | hx
    · exact (h.new x hx).1
    · rw [List.mem_singleton.1 hx]; exact hv
  refine ⟨⟨fun x hx => ?_, fun x hx y hy => ?_, ?_, ?_⟩, fun x => ?_, hnew, hrc, hvS⟩
  · rw [← List.append_assoc] at hx
    rcases List.mem_append.1 hx with hx | hx
    · exact h.wk.sub x hx
    · rw [List.mem_singleton.1 hx]; exact hvS
  · rw [← List.append_assoc] at hx
    rcases List.mem_append.1 hx with hx | hx
    · exact h.wk.cl x hx y hy
    · rw [List.mem_singleton.1 hx] at hy; exact h.dn y hy
  · rw [← List.append_assoc, List.nodup_append]
    refine ⟨h.wk.nd, by simp, fun x hx z hz => ?_⟩
    rw [List.mem_singleton.1 hz]
    rintro rfl
    rcases List.mem_append.1 hx with hx | hx
    · exact hv (h0.sub x hx)
    · exact (h.new x hx).2 rfl
  · intro j z hj
    rw [← List.append_assoc] at hj ⊢
    by_cases hjl : j < (O ++ Mj).length
    · rw [List.getElem?_append_left hjl] at hj
      obtain ⟨s, h1, h2, h3⟩ := h.wk.ks j z hj
      refine ⟨s, h1, fun i x h4 h5 h6 => h2 i x h4 h5 (by rwa [List.getElem?_append_left (by omega)] at h6), fun i x h4 h5 y hy k h6 h7 => ?_⟩
      rw [List.getElem?_append_left (by omega)] at h5
      rw [List.getElem?_append_left (by omega)]
      exact h3 i x h4 h5 y hy k h6 h7
    · have hje : j = (O ++ Mj).length := by
        have := (List.getElem?_eq_some_iff.1 hj).1
        simp at this
        simp at hjl
        simp
        omega
      have hz : z = v := by
        rw [hje, List.getElem?_append_right (Nat.le_refl _), Nat.sub_self] at hj
        simpa using hj.symm
      subst hz
      have hin : ∀ k x, O.length ≤ k → ((O ++ Mj) ++ [z])[k]? = some x → x ∈ Mj ++ [z] := fun k x h4 h5 => by
        rw [List.append_assoc, List.getElem?_append_right h4] at h5
        exact List.mem_of_getElem? h5
      refine ⟨O.length, by rw [hje]; simp, fun i x h4 _ h6 => ((hrc x (hin i x h4 h6)).mono fun _ _ => trivial), fun i x h4 h5 y hy k h6 _ h8 => ?_⟩
      rw [List.append_assoc, List.getElem?_append_left h4] at h5
      exact hnew y (hin k y h6 h8) (h0.cl x (List.mem_of_getElem? h5) y hy)
  · rw [h.all, List.mem_append, List.mem_singleton]
    constructor
    · rintro (h1 | h1 | h1)
      · exact .inl h1
      · exact .inr (.inr h1)
      · exact .inr (.inl h1)
    · rintro (h1 | h1 | h1)
      · exact .inl h1
      · exact .inr (.inr h1)
      · exact .inr (.inl h1)
end
/-- A walk back from the last node that is not seen yet finds the nodes that it is reached from and reaches. -/
theorem back_mut {next back : Nat → List Nat} (hb : ∀ a b, b ∈ next a ↔ a ∈ back b) {O : List Nat} (hO : Ks next O) {j v : Nat} (hj : O[j]? = some v) {T T' : Nat → Prop} {Q M : List Nat} (hT : ∀ i x : Nat, j < i → O[i]? = some x → T x) (hU : ∀ x y, T x → Mut next x y → T y) (hv : ¬ T v) (hall : ∀ x y, x ∈ O → y ∈ back x → y ∈ O)
    (h : Wn back v T T' Q M) : ∀ x, x ∈ M ↔ Mut next v x := by
  obtain ⟨s, h1, h2, h3⟩ := hO j v hj
  have hvM : v ∈ M := ((h.all v).1 h.at_).resolve_left hv
  have key : ∀ x, Rc back (fun y => y ∈ M) v x → x ∈ O ∧ ∃ i, s ≤ i ∧ i ≤ j ∧ O[i]? = some x := fun x hx => by
    induction hx with
    | refl _ => exact ⟨List.mem_of_getElem? hj, j, h1, Nat.le_refl _, hj⟩
    | @step u w hu hw hP ih =>
      obtain ⟨huO, i, h4, h5, h6⟩ := ih
      have hwO := hall u w huO hw
      obtain ⟨k, hk⟩ := List.mem_iff_getElem?.1 hwO
      refine ⟨hwO, k, ?_, ?_, hk⟩
      · refine Classical.byContradiction fun hlt => ?_
        exact h3 k w (by omega) hk u ((hb w u).2 hw) i h4 h5 h6
      · refine Classical.byContradiction fun hlt => ?_
        exact h.new w hP (hT k w (by omega) hk)
  intro x
  constructor
  · intro hx
    obtain ⟨_, i, h4, h5, h6⟩ := key x (h.rc x hx)
    refine ⟨h2 i x h4 h5 h6, ?_⟩
    exact ((h.rc x hx).turn fun a b hab => (hb b a).2 hab).mono fun _ _ => trivial
  · rintro ⟨hvx, hxv⟩
    have hbk : Rch back v x := hxv.turn fun a b hab => (hb a b).1 hab
    have key2 : ∀ z, Rch back v z → Rch next v z → z ∈ M := fun z hz => by
      induction hz with
      | refl _ => exact fun _ => hvM
      | @step u w hu hw _ ih =>
        intro hvw
        have hvu : Rch next v u := .step hvw ((hb w u).2 hw) trivial
        have huM := ih hvu
        have hwv : Rch next w v := ((Rc.step hu hw trivial : Rc back (fun _ => True) v w).turn fun a b hab => (hb b a).2 hab)
        have h8 := h.wk.cl u (List.mem_append_right _ huM) w hw
        rcases (h.all w).1 h8 with h9 | h9
        · exact (hv (hU w v h9 ⟨hwv, hvw⟩)).elim
        · exact h9
    exact key2 x hbk hvx
end Go.Proofs.Ytapajkfnpkekdaa
