/-
  Edges between nodes, numbers for which they hold, and what raising numbers along edges comes to. No program in this text.
-/
import Derived.Test.YtapajkfnpkekdaaProg
namespace Go.Proofs.Ytapajkfnpkekdaa

/-- the number of t is at least that of f plus b; k: the constraint it is of -/
structure Edg where
  f : Nat
  t : Nat
  b : Int
  k : Nat
def hol (x : Nat → Int) (e : Edg) : Prop := x e.f + e.b ≤ x e.t
instance (x : Nat → Int) (e : Edg) : Decidable (hol x e) := by unfold hol; infer_instance
def Sat (On : Edg → Prop) (x : Nat → Int) : Prop := ∀ e, On e → hol x e
def upd (x : Nat → Int) (t : Nat) (v : Int) : Nat → Int := fun u => if u = t then v else x u
theorem upd_same (x : Nat → Int) (t : Nat) (v : Int) : upd x t v t = v := by simp [upd]
theorem upd_ne (x : Nat → Int) {t u : Nat} (v : Int) (h : u ≠ t) : upd x t v u = x u := by simp [upd, h]

/-- what is so of the numbers x and the waiting nodes q while raising spreads from start -/
structure Spr (On : Edg → Prop) (old U x0 : Nat → Int) (start : Nat) (x : Nat → Int) : Prop where
  up : ∀ v, x v ≤ U v
  low : ∀ v, x0 v ≤ x v
  path : ∀ v, x v = old v ∨ ∀ y, Sat On y → y start + (x v - x0 start) ≤ y v
  least : ∀ y, Sat On y → (∀ v, x0 v ≤ y v) → ∀ v, x v ≤ y v

section
variable {On : Edg → Prop} {old U x0 x : Nat → Int} {start : Nat}
theorem Spr.begin (d : Int) (hd : 0 ≤ d) (hU : ∀ v, U v = old v + d) (h0 : x0 = upd old start (old start + d)) : Spr On old U x0 start x0 := by
  subst h0
  refine ⟨fun v => ?_, fun v => Int.le_refl _, fun v => ?_, fun y _ h => h⟩
  · by_cases h : v = start
    · subst h; rw [upd_same, hU]; exact Int.le_refl _
    · rw [upd_ne _ _ h, hU]; omega
  · by_cases h : v = start
    · subst h; right; intro y _; rw [upd_same]; omega
    · left; exact upd_ne _ _ h
theorem Spr.raise (h : Spr On old U x0 start x) (hold : Sat On old) (hlow0 : ∀ v, old v ≤ x0 v) (hU : Sat On U) {e : Edg} (he : On e) (hr : x e.t < x e.f + e.b) : Spr On old U x0 start (upd x e.t (x e.f + e.b)) := by
  have hpos := h.path e.f
  refine ⟨fun v => ?_, fun v => ?_, fun v => ?_, fun y hy hl v => ?_⟩
  · by_cases hv : v = e.t
    · subst hv; rw [upd_same]
      have h1 := h.up e.f
      have h2 := hU e he
      unfold hol at h2
      omega
    · rw [upd_ne _ _ hv]; exact h.up v
  · by_cases hv : v = e.t
    · subst hv; rw [upd_same]; have := h.low e.t; omega
    · rw [upd_ne _ _ hv]; exact h.low v
  · by_cases hv : v = e.t
    · subst hv
      rw [upd_same]
      right
      intro y hy
      rcases hpos with hp | hp
      · exfalso
        have h1 := hold e he
        unfold hol at h1
        have h2 := hlow0 e.t
        have h3 := h.low e.t
        omega
      · have h1 := hp y hy
        have h2 := hy e he
        unfold hol at h2
        omega
    · rw [upd_ne _ _ hv]; exact h.path v
  · by_cases hv : v = e.t
    · subst hv; rw [upd_same]
      have h1 := h.least y hy hl e.f
      have h2 := hy e he
      unfold hol at h2
      omega
    · rw [upd_ne _ _ hv]; exact h.least y hy hl v
/-- what was put in asks for more: nothing satisfies all -/
theorem Spr.circle (h : Spr On old U x0 start x) {W : List Edg} (hst : ∀ e ∈ W, e.t = start) (hw : ∀ e ∈ W, old e.f + e.b ≤ x0 start) (hUs : U start = x0 start) (ha : ∃ e ∈ W, x e.t < x e.f + e.b) (y : Nat → Int) (hy : Sat On y) (hyw : ∀ e ∈ W, hol y e) : False := by
  obtain ⟨e, he, hlt⟩ := ha
  have ht := hst e he
  rw [ht] at hlt
  have h1 := h.up start
  have h2 := h.low start
  have h3 := hw e he
  have h4 := hyw e he
  unfold hol at h4
  rw [ht] at h4
  rcases h.path e.f with hp | hp
  · omega
  · have := hp y hy
    omega
end

/-- how far numbers are below U, of the first N nodes together -/
def gap (U x : Nat → Int) : Nat → Nat
  | 0 => 0
  | n + 1 => gap U x n + (U n - x n).toNat
theorem gap_upd {U x : Nat → Int} {t : Nat} {v : Int} (h1 : x t < v) (h2 : v ≤ U t) : ∀ n, t < n → gap U (upd x t v) n + 1 ≤ gap U x n
  | 0, h => by omega
  | n + 1, h => by
    unfold gap
    by_cases ht : t = n
    · subst ht
      rw [upd_same]
      have hsame : ∀ m, m ≤ t → gap U (upd x t v) m = gap U x m := by
        intro m
        induction m with
        | zero => intro _; rfl
        | succ m ih =>
          intro hm
          unfold gap
          rw [ih (by omega), upd_ne _ _ (by omega)]
      rw [hsame t (Nat.le_refl _)]
      omega
    · have := gap_upd h1 h2 n (by omega)
      rw [upd_ne _ _ (fun e => ht e.symm)]
      omega

/-- the least numbers from 0 on for which all edges that are on hold -/
structure Lst (On : Edg → Prop) (x : Nat → Int) : Prop where
  sat : Sat On x
  nn : ∀ v, 0 ≤ x v
  least : ∀ y, Sat On y → (∀ v, 0 ≤ y v) → ∀ v, x v ≤ y v

theorem count_lt {α : Type} {p q : α → Bool} : ∀ {l : List α}, (∀ a ∈ l, p a = true → q a = true) → (∃ a ∈ l, q a = true ∧ p a = false) → l.countP p < l.countP q
  | [], _, ⟨a, h, _⟩ => by cases h
  | c :: l, hpq, ⟨a, ha, h1, h2⟩ => by
    have hle : ∀ (l : List α), (∀ a ∈ l, p a = true → q a = true) → l.countP p ≤ l.countP q := by
      intro l
      induction l with
      | nil => intro _; exact Nat.le_refl _
      | cons d l ih =>
        intro h
        have h3 := ih fun a ha => h a (List.mem_cons_of_mem _ ha)
        have h4 := h d (by simp)
        rw [List.countP_cons, List.countP_cons]
        cases hp : p d
        · simp; omega
        · rw [h4 hp]; simp; omega
    have h3 := hle l fun a ha => hpq a (List.mem_cons_of_mem _ ha)
    rw [List.countP_cons, List.countP_cons]
    rcases List.mem_cons.1 ha with rfl | ha
    · rw [h1, h2]; simp; omega
    · have h5 := count_lt (l := l) (fun a ha => hpq a (List.mem_cons_of_mem _ ha)) ⟨a, ha, h1, h2⟩
      have h6 := hpq c (by simp)
      cases hp : p c
      · simp; omega
      · rw [h6 hp]; simp; omega
/-- least numbers are no greater than the steps together -/
theorem Lst.bound {On : Edg → Prop} {x : Nat → Int} {N : Nat} (h : Lst On x) (hN : ∀ e, On e → e.f < N ∧ e.t < N ∧ e.b ≤ 1000) (h0 : ∀ v, N ≤ v → x v = 0) : ∀ v, x v ≤ 1000 * N := by
  intro v0
  refine Classical.byContradiction fun hv => ?_
  have hv' : 1000 * (N : Int) < x v0 := by omega
  have hvN : v0 < N := Classical.byContradiction fun hn => by have := h0 v0 (by omega); omega
  by_cases hw : ∃ j : Nat, j < N ∧ ∀ u, u < N → ¬ (1000 * (j : Int) < x u ∧ x u ≤ 1000 * (j : Int) + 1000)
  · obtain ⟨j, hj, hno⟩ := hw
    have hy := h.least (fun u => if 1000 * (j : Int) < x u then x u - 1 else x u) ?_ ?_ v0
    · rw [if_pos (by omega)] at hy
      omega
    · intro e he
      obtain ⟨h1, h2, h3⟩ := hN e he
      have h4 := h.sat e he
      unfold hol at h4 ⊢
      have h5 := hno e.t h2
      dsimp only
      split <;> split <;> omega
    · intro u
      have := h.nn u
      split <;> omega
  · have hall : ∀ j : Nat, j < N → ∃ u, u < N ∧ 1000 * (j : Int) < x u ∧ x u ≤ 1000 * (j : Int) + 1000 := fun j hj => Classical.byContradiction fun hn => hw ⟨j, hj, fun u hu hh => hn ⟨u, hu, hh⟩⟩
    have hcnt : ∀ t : Nat, t ≤ N → t ≤ (List.range N).countP fun u => decide (x u ≤ 1000 * (t : Int)) := by
      intro t
      induction t with
      | zero => intro _; exact Nat.zero_le _
      | succ t ih =>
        intro ht
        obtain ⟨u, hu, h1, h2⟩ := hall t (by omega)
        have h3 := ih (by omega)
        have h4 := count_lt (p := fun u => decide (x u ≤ 1000 * (t : Int))) (q := fun u => decide (x u ≤ 1000 * ((t + 1 : Nat) : Int))) (l := List.range N) (fun a _ ha => by simp at ha ⊢; omega) ⟨u, List.mem_range.2 hu, by simp; omega, by simp; omega⟩
        omega
    have h1 := hcnt N (Nat.le_refl _)
    have h2 := count_lt (p := fun u => decide (x u ≤ 1000 * (N : Int))) (q := fun _ => true) (l := List.range N) (fun _ _ _ => rfl) ⟨v0, List.mem_range.2 hvN, rfl, by simp; omega⟩
    rw [show (List.range N).countP (fun _ => true) = N from by simp] at h2
    omega
end Go.Proofs.Ytapajkfnpkekdaa
