/-
  'spread' of package graph from one node on, all other nodes being unreached: how far each node is from it, for Bound.
-/
import Derived.Test.YtkbhmkngipdkiaaGSpr
import Derived.Test.YtkbhmkngipdkiaaGLonM
namespace Go.Proofs.Ytkbhmkngipdkiaa
open Go Go.RowKit

/-- the number of a node that is not reached -/
def unr : Int := -4611686018427387904
/-- how many of the first nodes are reached -/
def cntR (x : Nat → Int) : Nat → Nat
  | 0 => 0
  | n + 1 => cntR x n + if x n = unr then 0 else 1
theorem cntR_le (x : Nat → Int) : ∀ n, cntR x n ≤ n
  | 0 => Nat.le_refl _
  | n + 1 => by unfold cntR; have := cntR_le x n; split <;> omega
theorem cntR_upd {x : Nat → Int} {t : Nat} {z : Int} (hz : z ≠ unr) : ∀ n, cntR x n ≤ cntR (upd x t z) n ∧ (t < n → x t = unr → cntR x n + 1 ≤ cntR (upd x t z) n)
  | 0 => ⟨Nat.le_refl _, fun h => by omega⟩
  | n + 1 => by
    obtain ⟨h1, h2⟩ := cntR_upd (x := x) (t := t) hz n
    unfold cntR
    by_cases hn : n = t
    · subst hn
      rw [upd_same, if_neg hz]
      refine ⟨by split <;> omega, fun _ h => ?_⟩
      rw [if_pos h]; omega
    · rw [upd_ne _ _ hn]
      exact ⟨by omega, fun h h3 => by have := h2 (by omega) h3; omega⟩
/-- numbers raised, the unreached ones being 0 -/
def fixR (x : Nat → Int) (v : Nat) : Int := if x v = unr then 0 else x v + 3000000
theorem fixR_upd {x : Nat → Int} {t : Nat} {z : Int} (hz : z ≠ unr) : fixR (upd x t z) = upd (fixR x) t (z + 3000000) := by
  funext v
  by_cases h : v = t
  · subst h; unfold fixR; rw [upd_same, upd_same, if_neg hz]
  · unfold fixR; rw [upd_ne _ _ h, upd_ne _ _ h]
/-- what is so of the numbers while they spread from one node -/
structure BI (On : Edg → Prop) (start N : Nat) (x : Nat → Int) : Prop where
  low : ∀ v, v < N → x v ≠ unr → -1000 * (cntR x N : Int) ≤ x v
  up : ∀ y : Nat → Int, Sat On y → ∀ v, v < N → x v ≠ unr → x v ≤ y v - y start
  reach : ∀ R : Nat → Prop, (∀ e, On e → R e.f → R e.t) → R start → ∀ v, v < N → x v ≠ unr → R v
  at0 : x start ≠ unr ∧ 0 ≤ x start
section
variable {On : Edg → Prop} {start N : Nat} {x : Nat → Int}
theorem BI.lo (h : BI On start N x) (hN : N ≤ 2000) {v : Nat} (hvN : v < N) (hv : x v ≠ unr) : -2000000 ≤ x v := by
  have h1 := h.low v hvN hv
  have h2 := cntR_le x N
  have h3 : (cntR x N : Int) ≤ 2000 := by omega
  omega
theorem BI.begin (hx : ∀ v, v < N → x v = upd (fun _ => unr) start 0 v) (hst : start < N) : BI On start N x := by
  have hu : (0 : Int) ≠ unr := by decide
  have hv : ∀ v, v < N → x v ≠ unr → v = start ∧ x v = 0 := fun v hvN h => by
    rw [hx v hvN] at h ⊢
    by_cases hne : v = start
    · exact ⟨hne, by rw [hne, upd_same]⟩
    · rw [upd_ne _ _ hne] at h; exact (h rfl).elim
  refine ⟨fun v hvN h => ?_, fun y _ v hvN h => ?_, fun R _ h0 v hvN h => ?_, ?_⟩
  · rw [(hv v hvN h).2]; omega
  · rw [(hv v hvN h).2, (hv v hvN h).1]; omega
  · rw [(hv v hvN h).1]; exact h0
  · rw [hx _ hst, upd_same]; exact ⟨hu, Int.le_refl _⟩
theorem BI.raise (h : BI On start N x) (hN : N ≤ 2000) {e : Edg} (he : On e) (hb : -1000 ≤ e.b) (hf : e.f < N) (ht : e.t < N) (hl : x e.f ≠ unr) (hr : x e.t < x e.f + e.b) : x e.f + e.b ≠ unr ∧ BI On start N (upd x e.t (x e.f + e.b)) := by
  have h1 := h.lo hN hf hl
  have hne : x e.f + e.b ≠ unr := by unfold unr; omega
  have h2 := h.low e.f hf hl
  obtain ⟨c1, c2⟩ := cntR_upd (x := x) (t := e.t) hne N
  refine ⟨hne, fun v hvN hv => ?_, fun y hy v hvN hv => ?_, fun R hR h0 v hvN hv => ?_, ?_⟩
  · by_cases hvt : v = e.t
    · subst hvt
      rw [upd_same]
      by_cases hu : x e.t = unr
      · have := c2 ht hu; omega
      · have := h.low e.t ht hu; omega
    · rw [upd_ne _ _ hvt] at hv ⊢
      have := h.low v hvN hv
      omega
  · by_cases hvt : v = e.t
    · subst hvt
      rw [upd_same]
      have h3 := h.up y hy e.f hf hl
      have h4 := hy e he
      unfold hol at h4
      omega
    · rw [upd_ne _ _ hvt] at hv ⊢
      exact h.up y hy v hvN hv
  · by_cases hvt : v = e.t
    · subst hvt
      exact hR e he (h.reach R hR h0 e.f hf hl)
    · rw [upd_ne _ _ hvt] at hv
      exact h.reach R hR h0 v hvN hv
  · by_cases hvt : start = e.t
    · rw [hvt, upd_same]
      have := h.at0
      rw [hvt] at this
      exact ⟨hne, by omega⟩
    · rw [upd_ne _ _ hvt]; exact h.at0
/-- what is told of the nodes as the reference tells it -/
def stR (n : Nat) (x : Nat → Int) : List (Option Int) := (List.range (n + 1)).map fun v => if x v = unr then none else some (x v)
theorem stR_at {n v : Nat} {x : Nat → Int} {a : Int} : gw (stR n x) v = some a ↔ v < n + 1 ∧ x v ≠ unr ∧ x v = a := by
  unfold gw stR
  by_cases hv : v < n + 1
  · by_cases hu : x v = unr
    · simp [List.getD, hv, hu]
    · simp [List.getD, hv, hu]
  · simp [List.getD, hv]
theorem BI.lon {n : Nat} {E : List Edg} (h : BI On start (n + 1) x) (hst : start < n + 1) (hE : ∀ e, On e ↔ e ∈ E) (hok : ∀ e ∈ E, e.t < n + 1) (hrest : ∀ e ∈ E, x e.f ≠ unr → x e.t ≠ unr ∧ hol x e) : LonE n E start (stR n x) where
  len := by simp [stR]
  up := fun y hy v a ha => by
    obtain ⟨h0, h1, h2⟩ := stR_at.1 ha
    have := h.up y (fun e he => hy e ((hE e).1 he)) v h0 h1
    omega
  reach := fun R hR h0 v a ha => by
    obtain ⟨h3, h1, _⟩ := stR_at.1 ha
    exact h.reach R (fun e he => hR e ((hE e).1 he)) h0 v h3 h1
  at0 := ⟨x start, stR_at.2 ⟨hst, h.at0.1, rfl⟩, h.at0.2⟩
  rest := fun e he a ha => by
    obtain ⟨_, h1, rfl⟩ := stR_at.1 ha
    obtain ⟨h2, h3⟩ := hrest e he h1
    exact ⟨x e.t, stR_at.2 ⟨hok e he, h2, rfl⟩, h3⟩
end
end Go.Proofs.Ytkbhmkngipdkiaa
