/-
  'Leq' and 'Equal' of package level and of its reference: the same Bool for every two levels.
-/
import Derived.Test.YtapajkfnpkekdaaRVld
import Derived.Test.YtapajkfnpkekdaaCov
namespace Go.Proofs.Ytapajkfnpkekdaa
open Go Go.RowKit

/-- Leq's answer -/
noncomputable def leqv (ca : Int) (la : List (Int × Int)) (cb : Int) (lb : List (Int × Int)) : Bool :=
  vld ca la && vld cb lb && decide (ca ≤ max cb (gplus lb)) && la.all (cov lb)
theorem leqv_not {ca cb : Int} {la lb : List (Int × Int)} (h : ¬ (vld ca la = true ∧ vld cb lb = true ∧ ca ≤ max cb (gplus lb) ∧ ∀ x ∈ la, cov lb x = true)) : leqv ca la cb lb = false := by
  rw [← Bool.not_eq_true]
  intro h'
  simp only [leqv, Bool.and_eq_true, decide_eq_true_eq, List.all_eq_true] at h'
  exact h ⟨h'.1.1.1, h'.1.1.2, h'.1.2, h'.2⟩
theorem leqv_of {ca cb : Int} {la lb : List (Int × Int)} (h1 : vld ca la = true) (h2 : vld cb lb = true) (h3 : ca ≤ max cb (gplus lb)) (h4 : ∀ x ∈ la, cov lb x = true) : leqv ca la cb lb = true := by
  simp only [leqv, Bool.and_eq_true, decide_eq_true_eq, List.all_eq_true]
  exact ⟨⟨⟨h1, h2⟩, h3⟩, h4⟩

theorem gplus_nn (l : List (Int × Int)) : 0 ≤ gplus l ∧ ∀ x ∈ l, x.2 ≤ gplus l := by
  have : ∀ (l : List (Int × Int)) (t : Int), t ≤ l.foldl (fun t x => if t < x.2 then x.2 else t) t ∧ ∀ x ∈ l, x.2 ≤ l.foldl (fun t x => if t < x.2 then x.2 else t) t := by
    intro l
    induction l with
    | nil => intro t; exact ⟨Int.le_refl _, fun x h => by cases h⟩
    | cons y r ih =>
      intro t
      obtain ⟨i1, i2⟩ := ih (if t < y.2 then y.2 else t)
      simp only [List.foldl_cons]
      have h1 : t ≤ (if t < y.2 then y.2 else t) ∧ y.2 ≤ (if t < y.2 then y.2 else t) := by split <;> omega
      refine ⟨by omega, fun x hx => ?_⟩
      rcases List.mem_cons.1 hx with rfl | hx
      · omega
      · exact i2 x hx
  exact this l 0
theorem gplus_le {l : List (Int × Int)} {m : Int} (h0 : 0 ≤ m) (h : ∀ x ∈ l, x.2 ≤ m) : gplus l ≤ m := by
  have : ∀ (l : List (Int × Int)) (t : Int), t ≤ m → (∀ x ∈ l, x.2 ≤ m) → l.foldl (fun t x => if t < x.2 then x.2 else t) t ≤ m := by
    intro l
    induction l with
    | nil => intro t ht _; exact ht
    | cons y r ih =>
      intro t ht hh
      simp only [List.foldl_cons]
      refine ih _ ?_ (fun x hx => hh x (List.mem_cons_of_mem _ hx))
      have := hh y (by simp)
      split <;> omega
  exact this l 0 h0 h
theorem lst_eq {c : Int} (hc : 0 ≤ c) (l : List (Int × Int)) : lst c l = max c (gplus l) := by
  have : ∀ (l : List (Int × Int)) (c t : Int), t ≤ c → l.foldl (fun t x => if t < x.2 then x.2 else t) c = max c (l.foldl (fun t x => if t < x.2 then x.2 else t) t) := by
    intro l
    induction l with
    | nil => intro c t h; simp only [List.foldl_nil]; omega
    | cons y r ih =>
      intro c t h
      simp only [List.foldl_cons]
      by_cases h1 : c < y.2
      · rw [if_pos h1, if_pos (by omega)]
        have := ih c y.2
        have g := ih y.2 y.2 (Int.le_refl _)
        have : y.2 ≤ r.foldl (fun t x => if t < x.2 then x.2 else t) y.2 := by rw [g]; omega
        omega
      · rw [if_neg h1, ih c (if t < y.2 then y.2 else t) (by split <;> omega)]
  exact this l c 0 hc

theorem vld_c {c : Int} {l : List (Int × Int)} (h : vld c l = true) : 0 ≤ c ∧ c ≤ 1000 := ⟨(vld_iff.1 h).lo, (vld_iff.1 h).hi⟩

/-- Equal's answer -/
noncomputable def eqv (ca : Int) (la : List (Int × Int)) (cb : Int) (lb : List (Int × Int)) : Bool := leqv ca la cb lb && leqv cb lb ca la

theorem box2 {w wi : World} {x0 x1 y0 y1 : Value} {t : TypeId} (hb : Below (w.heap.size + 2) ((w.alloc (.cells #[x0, x1] t)).alloc (.cells #[y0, y1] t)) wi) :
    (wi.cell? ⟨w.heap.size, 0, none⟩ = some x0 ∧ wi.cell? ⟨w.heap.size, 1, none⟩ = some x1 ∧ wi.cell? ⟨w.heap.size + 1, 0, none⟩ = some y0 ∧ wi.cell? ⟨w.heap.size + 1, 1, none⟩ = some y1) ∧
    w.heap.size + 2 ≤ wi.heap.size ∧ Below w.heap.size w wi := by
  refine ⟨⟨(hb.cell (p := ⟨w.heap.size, 0, none⟩) (by simp)).trans (by simp), (hb.cell (p := ⟨w.heap.size, 1, none⟩) (by simp)).trans (by simp), (hb.cell (p := ⟨w.heap.size + 1, 0, none⟩) (by simp)).trans (by simp), (hb.cell (p := ⟨w.heap.size + 1, 1, none⟩) (by simp)).trans (by simp)⟩, by simpa using hb.size, ?_⟩
  exact (((Below.refl _ w).alloc (Nat.le_refl _) _).alloc (by simp) _).trans (hb.mono (by omega))
theorem PL.lift {w wi : World} {n : Nat} {A : Option Addr} {l : List (Int × Int)} (h : PL w w.heap.size A n l) (hb : Below w.heap.size w wi) : PL wi wi.heap.size A n l :=
  (h.below hb).more hb.size

end Go.Proofs.Ytapajkfnpkekdaa
