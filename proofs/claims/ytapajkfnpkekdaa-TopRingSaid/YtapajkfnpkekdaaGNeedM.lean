/-
  Which constraints are needed for there to be no solution: one after another is left out. No walk in this text.
-/
import Derived.Test.YtapajkfnpkekdaaWitAll
import Derived.Test.YtapajkfnpkekdaaGSolve
import Derived.Test.YtapajkfnpkekdaaGMinM
namespace Go.Proofs.Ytapajkfnpkekdaa
open Go Go.RowKit

/-- the marks with one more -/
def ndU (on : Nat → Bool) (a : Nat) : Nat → Bool := fun i => if i = a then true else on i
/-- the marks without one -/
def ndO (on : Nat → Bool) (k : Nat) : Nat → Bool := fun i => if i = k then false else on i
theorem sat_mono {out : Nat → List Edg} {p q : Nat → Bool} {y : Nat → Int} {K : Nat} (hk : ∀ v, ∀ e ∈ out v, e.k < K + 1) (h : ∀ i, i < K + 1 → p i = true → q i = true) (hs : Sat (OnG out q) y) : Sat (OnG out p) y :=
  fun e he => hs e ⟨he.1, h _ (hk _ e he.1) he.2⟩
/-- what is so before the constraint k is left out; a is the one that asks, those of ls are needed -/
structure Nd (out : Nat → List Edg) (K last k a : Nat) (ls : List Nat) (on : Nat → Bool) : Prop where
  no : ∀ y, Sat (OnG out (ndU on a)) y → False
  mem : a ∈ ls
  z : on K = true
  u : ∀ i, i < K → (ndU on a i = true ↔ (i ∈ ls ∨ (k ≤ i ∧ i < last)))
  need : ∀ x ∈ ls, ∃ y, Sat (OnG out (ndO (ndU on a) x)) y
  lt : ∀ x ∈ ls, x = last ∨ x < k
  nd : ls.Nodup
  fin : last < K
  he : ∀ v, ∀ e ∈ out v, e.k < K + 1
section
variable {out : Nat → List Edg} {K last k a : Nat} {ls : List Nat} {on : Nat → Bool}
theorem Nd.ne (h : Nd out K last k a ls on) (hk : k < last) : a ≠ k := fun e => by
  rcases h.lt a h.mem with h1 | h1 <;> omega
theorem Nd.new (h : Nd out K last k a ls on) (hk : k < last) : k ∉ ls := fun e => by
  rcases h.lt k e with h1 | h1 <;> omega
theorem Nd.isOn (h : Nd out K last k a ls on) (hk : k < last) : on k = true := by
  have h1 := (h.u k (by have := h.fin; omega)).2 (.inr ⟨Nat.le_refl _, hk⟩)
  unfold ndU at h1
  rw [if_neg (fun e => h.ne hk e.symm)] at h1
  exact h1
theorem Nd.not (h : Nd out K last k a ls on) (hk : k < last) (hno : ∀ y, Sat (OnG out (ndU (ndO on k) a)) y → False) : Nd out K last (k + 1) a ls (ndO on k) where
  no := hno
  mem := h.mem
  z := by unfold ndO; rw [if_neg (by have := h.fin; omega)]; exact h.z
  u := fun i hi => by
    have h1 := h.u i hi
    by_cases hik : i = k
    · subst hik
      have h2 := h.new hk
      have h3 := h.ne hk
      rw [show ndU (ndO on i) a i = false from by
        show (if i = a then true else if i = i then false else on i) = false
        rw [if_neg (fun e => h3 e.symm), if_pos rfl]]
      constructor
      · intro e; cases e
      · rintro (h4 | h4)
        · exact (h2 h4).elim
        · omega
    · have h2 : ndU (ndO on k) a i = ndU on a i := by simp only [ndU, ndO]; rw [if_neg hik]
      rw [h2, h1]
      constructor
      · rintro (h4 | h4)
        · exact .inl h4
        · exact .inr ⟨by omega, h4.2⟩
      · rintro (h4 | h4)
        · exact .inl h4
        · exact .inr ⟨by omega, h4.2⟩
  need := fun x hx => by
    obtain ⟨y, hy⟩ := h.need x hx
    refine ⟨y, sat_mono h.he (fun i _ hp => ?_) hy⟩
    simp only [ndO, ndU] at hp ⊢
    by_cases h1 : i = x
    · rw [if_pos h1] at hp; cases hp
    · rw [if_neg h1] at hp ⊢
      by_cases h2 : i = a
      · rw [if_pos h2]
      · rw [if_neg h2] at hp ⊢
        by_cases h3 : i = k
        · rw [if_pos h3] at hp; cases hp
        · rw [if_neg h3] at hp; exact hp
  lt := fun x hx => by rcases h.lt x hx with h1 | h1 <;> omega
  nd := h.nd
  fin := h.fin
  he := h.he
theorem Nd.yes (h : Nd out K last k a ls on) (hk : k < last) {y : Nat → Int} (hy : Sat (OnG out (ndU (ndO on k) a)) y) : Nd out K last (k + 1) k (ls ++ [k]) (ndU (ndO on k) a) := by
  have hU : ndU (ndU (ndO on k) a) k = ndU on a := by
    funext i
    simp only [ndU, ndO]
    by_cases h1 : i = k
    · subst h1
      rw [if_pos rfl]
      by_cases h2 : i = a
      · rw [if_pos h2]
      · rw [if_neg h2]; exact (h.isOn hk).symm
    · rw [if_neg h1]
      by_cases h2 : i = a
      · rw [if_pos h2, if_pos h2]
      · rw [if_neg h2, if_neg h2, if_neg h1]
  refine ⟨by rw [hU]; exact h.no, by simp, ?_, fun i hi => ?_, fun x hx => ?_, fun x hx => ?_, ?_, h.fin, h.he⟩
  · have := h.fin
    simp only [ndU, ndO]
    by_cases h1 : K = a
    · rw [if_pos h1]
    · rw [if_neg h1, if_neg (by omega)]; exact h.z
  · rw [hU, h.u i hi]
    simp only [List.mem_append, List.mem_singleton]
    constructor
    · rintro (h1 | h1)
      · exact .inl (.inl h1)
      · by_cases h2 : i = k
        · exact .inl (.inr h2)
        · exact .inr ⟨by omega, h1.2⟩
    · rintro ((h1 | h1) | h1)
      · exact .inl h1
      · exact .inr ⟨by omega, by omega⟩
      · exact .inr ⟨by omega, h1.2⟩
  · rw [hU]
    rcases List.mem_append.1 hx with hx | hx
    · exact h.need x hx
    · rw [List.mem_singleton.1 hx]
      refine ⟨y, sat_mono h.he (fun i _ hp => ?_) hy⟩
      simp only [ndO, ndU] at hp ⊢
      by_cases h1 : i = k
      · rw [if_pos h1] at hp; cases hp
      · rw [if_neg h1] at hp ⊢
        exact hp
  · rcases List.mem_append.1 hx with hx | hx
    · rcases h.lt x hx with h1 | h1 <;> omega
    · rw [List.mem_singleton.1 hx]; omega
  · rw [List.nodup_append]
    refine ⟨h.nd, by simp, fun x hx z hz => ?_⟩
    rw [List.mem_singleton.1 hz]
    exact fun e => h.new hk (e ▸ hx)
end
/-- constraints that alone have no solution, each of them being needed -/
structure CoreOf (n : Nat) (cs : List LCn) (l : List Nat) : Prop where
  lt : ∀ i ∈ l, i < cs.length
  nd : l.Nodup
  no : ∀ y, Sat (fun e => e ∈ esA n (pick cs l)) y → False
  need : ∀ x ∈ l, ∃ y, Sat (fun e => e ∈ esA n (pick cs (l.filter fun i => i != x))) y
theorem pick_sat {n : Nat} {cs : List LCn} {l m : List Nat} {y : Nat → Int} (h : ∀ i ∈ l, i ∈ m) (hs : Sat (fun e => e ∈ esA n (pick cs m)) y) : Sat (fun e => e ∈ esA n (pick cs l)) y := by
  rw [sat_es] at hs ⊢
  refine ⟨hs.1, fun c hc => hs.2 c ?_⟩
  obtain ⟨i, hi, h1⟩ := pick_mem.1 hc
  exact pick_mem.2 ⟨i, h i hi, h1⟩
theorem CoreOf.perm {n : Nat} {cs : List LCn} {l m : List Nat} (h : CoreOf n cs l) (hp : m.Perm l) : CoreOf n cs m where
  lt := fun i hi => h.lt i (hp.mem_iff.1 hi)
  nd := hp.nodup_iff.2 h.nd
  no := fun y hy => h.no y (pick_sat (fun i hi => hp.mem_iff.2 hi) hy)
  need := fun x hx => by
    obtain ⟨y, hy⟩ := h.need x (hp.mem_iff.1 hx)
    refine ⟨y, pick_sat (fun i hi => ?_) hy⟩
    rw [List.mem_filter] at hi ⊢
    exact ⟨hp.mem_iff.1 hi.1, hi.2⟩
theorem Nd.done {n K last a : Nat} {cs : List LCn} {ls : List Nat} {on : Nat → Bool} (hK : cs.length = K) (h : Nd (outE (esA n cs)) K last last a ls on) : CoreOf n cs ls := by
  have hlt : ∀ i ∈ ls, i < cs.length := fun i hi => by
    have := h.fin
    rcases h.lt i hi with h1 | h1 <;> omega
  have hu : ∀ i, i < K → (ndU on a i = true ↔ i ∈ ls) := fun i hi => by
    rw [h.u i hi]
    exact ⟨fun h1 => h1.resolve_right (by omega), .inl⟩
  refine ⟨hlt, h.nd, fun y hy => h.no y ?_, fun x hx => ?_⟩
  · rw [← sat_on hlt] at hy
    refine sat_mono h.he (fun i hi hp => ?_) hy
    by_cases h1 : i = cs.length
    · rw [if_pos h1]
    · rw [if_neg h1]
      exact decide_eq_true ((hu i (by omega)).1 hp)
  · obtain ⟨y, hy⟩ := h.need x hx
    refine ⟨y, ?_⟩
    rw [← sat_on (fun i hi => hlt i (List.mem_filter.1 hi).1)]
    refine sat_mono h.he (fun i hi hp => ?_) hy
    have hx2 := hlt x hx
    unfold ndO
    by_cases h1 : i = cs.length
    · rw [if_neg (by omega)]
      unfold ndU
      by_cases h2 : i = a
      · rw [if_pos h2]
      · rw [if_neg h2, h1, hK]; exact h.z
    · rw [if_neg h1] at hp
      have h2 := of_decide_eq_true hp
      rw [List.mem_filter] at h2
      rw [if_neg (by simpa using h2.2)]
      exact (hu i (by omega)).2 h2.1
/-- numbers of constraints in their order -/
def srt (l : List Nat) : List Int := (l.map fun i : Nat => (i : Int)).mergeSort fun x y => decide (x ≤ y)
theorem srt_core {n : Nat} {cs : List LCn} {l : List Nat} (h : CoreOf n cs l) : ∃ m : List Nat, srt l = m.map (fun i : Nat => (i : Int)) ∧ CoreOf n cs m ∧ m.Pairwise (· < ·) := by
  have hp : (srt l).Perm (l.map fun i : Nat => (i : Int)) := List.mergeSort_perm _ _
  have hm : (srt l).map Int.toNat = (srt l).map Int.toNat := rfl
  have hback : srt l = ((srt l).map Int.toNat).map (fun i : Nat => (i : Int)) := by
    rw [List.map_map]
    conv => lhs; rw [← List.map_id (srt l)]
    refine List.map_congr_left fun x hx => ?_
    have := hp.mem_iff.1 hx
    obtain ⟨i, _, rfl⟩ := List.mem_map.1 this
    simp
  have hp2 : ((srt l).map Int.toNat).Perm l := by
    have h1 := hp.map Int.toNat
    rw [List.map_map] at h1
    have h2 : l.map (Int.toNat ∘ fun i : Nat => (i : Int)) = l := by
      conv => rhs; rw [← List.map_id l]
      exact List.map_congr_left fun x _ => by simp
    rw [h2] at h1
    exact h1
  refine ⟨_, hback, h.perm hp2, ?_⟩
  have hs : (srt l).Pairwise fun x y => decide (x ≤ y) = true := List.pairwise_mergeSort (fun x y z h1 h2 => by
    have h1 := of_decide_eq_true h1
    have h2 := of_decide_eq_true h2
    exact decide_eq_true (by omega)) (fun x y => by
    rcases Int.le_total x y with h1 | h1
    · simp [h1]
    · simp [h1]) _
  have hnd := (h.perm hp2).nd
  have hs2 : ((srt l).map Int.toNat).Pairwise (· ≤ ·) := by
    rw [List.pairwise_map]
    exact hs.imp fun h1 => by have := of_decide_eq_true h1; omega
  exact (hs2.and hnd).imp fun h1 => by omega
end Go.Proofs.Ytapajkfnpkekdaa
