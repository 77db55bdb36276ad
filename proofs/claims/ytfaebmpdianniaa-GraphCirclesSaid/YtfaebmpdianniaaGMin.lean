/-
  'Minimal' of package graph, and slices.Reverse.
-/
import Derived.Test.YtfaebmpdianniaaGMinM
import Derived.Test.YtfaebmpdianniaaGSFol2
namespace Go.Proofs.Ytfaebmpdianniaa
open Go Go.RowKit

/-- a list whose first and last i places have been exchanged -/
structure Rv (l q : List Int) (n i : Nat) : Prop where
  len : q.length = n
  at_ : ∀ k, k < n → q[k]? = if k < i ∨ n - i ≤ k then l[n - 1 - k]? else l[k]?
theorem Rv.begin {l : List Int} {n : Nat} (h : l.length = n) : Rv l l n 0 := ⟨h, fun k hk => by rw [if_neg (by omega)]⟩
theorem Rv.next {l q : List Int} {n i : Nat} {x y : Int} (h : Rv l q n i) (hi : i + i + 1 < n) (hx : q[i]? = some x) (hy : q[n - 1 - i]? = some y) : Rv l ((q.set i y).set (n - 1 - i) x) n (i + 1) := by
  have h1 := h.at_ i (by omega)
  have h2 := h.at_ (n - 1 - i) (by omega)
  rw [if_neg (by omega)] at h1 h2
  refine ⟨by simpa using h.len, fun k hk => ?_⟩
  have hl := h.len
  by_cases hk1 : k = n - 1 - i
  · subst hk1
    rw [List.getElem?_set_self (by simp; omega), if_pos (by omega), show n - 1 - (n - 1 - i) = i by omega, ← h1, hx]
  · rw [List.getElem?_set_ne (by omega)]
    by_cases hk2 : k = i
    · subst hk2
      rw [List.getElem?_set_self (by omega), if_pos (by omega), ← h2, hy]
    · rw [List.getElem?_set_ne (by omega), h.at_ k hk]
      by_cases hc : k < i ∨ n - i ≤ k
      · rw [if_pos hc, if_pos (by omega)]
      · rw [if_neg hc, if_neg (by omega)]
theorem Rv.done {l q : List Int} {n i : Nat} (h : Rv l q n i) (hl : l.length = n) (hi : ¬ i + i + 1 < n) : q = l.reverse := by
  refine List.ext_getElem? fun k => ?_
  by_cases hk : k < n
  · rw [h.at_ k hk, List.getElem?_reverse (by omega), hl]
    by_cases hc : k < i ∨ n - i ≤ k
    · rw [if_pos hc]
    · rw [if_neg hc, show n - 1 - k = k by omega]
  · rw [List.getElem?_eq_none (by have := h.len; omega), List.getElem?_eq_none (by simp; omega)]

theorem SE.on_congr {w : World} {S OF OU ON N K : Nat} {fo out : Nat → List Edg} {on on' : Nat → Bool} (h : SE w S OF OU ON N K fo out on) (ho : ∀ k, k < K + 1 → on k = on' k) : SE w S OF OU ON N K fo out on' :=
  h.keep (Nat.le_refl _) (fun _ _ _ _ _ => rfl) (fun _ _ => rfl) (fun k hk => by rw [h.k k hk, ho k hk]) h.fr
/-- the marks when these numbers are on -/
def onL (K : Nat) (l : List Nat) : Nat → Bool := fun i => if i = K then true else decide (i ∈ l)
theorem onL_set {K k : Nat} {l l' : List Nat} {x : Bool} (hk : k < K) (hx : x = decide (k ∈ l')) (h : ∀ i, i ≠ k → (i ∈ l ↔ i ∈ l')) (i : Nat) : onL K l' i = if i = k then x else onL K l i := by
  unfold onL
  by_cases hik : i = k
  · subst hik
    rw [if_neg (by omega), if_pos rfl, hx]
  · rw [if_neg hik]
    split
    · rfl
    · exact decide_eq_decide.2 (h i hik).symm
/-- the search while constraints are left out: only its marks have changed since world w3 -/
structure MI (w3 wr : World) (S OF OU ON N K V c : Nat) (fo out : Nat → List Edg) (on : Nat → Bool) (xs : List Int) : Prop where
  bb : BB w3.heap.size ON w3 wr
  k : ∀ k, k < K + 1 → wr.cell? ⟨ON, k, none⟩ = some (.bool (on k))
  fr : ∀ k, wr.frozen? ⟨ON, k, none⟩ = false
section
variable {w3 wr w' : World} {S OF OU ON N K V c : Nat} {fo out : Nat → List Edg} {on on' on0 : Nat → Bool} {xs : List Int}
theorem MI.se (h : MI w3 wr S OF OU ON N K V c fo out on xs) (h3 : SE w3 S OF OU ON N K fo out on0) : SE wr S OF OU ON N K fo out on := by
  obtain ⟨l1, l2, l3, l4⟩ := h3.lt
  obtain ⟨n1, n2, n3, n4, n5⟩ := h3.ne
  refine h3.keep h.bb.size (fun b i hb hS hO => h.bb.cell (p := ⟨b, i, none⟩) hb hO) (fun i _ => h.bb.cell (p := ⟨S, i, none⟩) l1 n3) h.k ⟨?_, h.fr⟩
  exact (World.frozen?_of_block (h.bb.block S l1 n3)).trans h3.fr.1
theorem MI.vs (h : MI w3 wr S OF OU ON N K V c fo out on xs) (h3 : SE w3 S OF OU ON N K fo out on0) (hv : VS w3 S ON N V c xs) : VS wr S ON N V c xs := by
  obtain ⟨l1, l2, l3, l4⟩ := h3.lt
  refine ⟨(h.bb.cell (p := ⟨S, 3, none⟩) l1 h3.ne.2.2.1).trans hv.s3, ⟨hv.own.1, hv.own.2.imp id fun ⟨g, cap, cur, e1, e2, e3, e4⟩ => ⟨g, cap, cur, e1, e2, ?_, e4⟩⟩, hv.len, hv.ne⟩
  have hg : g = V := by cases e1; rfl
  exact (h.bb.block g (Array.getElem?_eq_some_iff.1 e3).1 (by rw [hg]; exact hv.ne.2)).trans e3
theorem MI.begin (h3 : SE w3 S OF OU ON N K fo out on) : MI w3 w3 S OF OU ON N K V c fo out on xs := ⟨BB.of (Below.refl _ _), h3.k, h3.fr.2⟩
theorem MI.below (h : MI w3 wr S OF OU ON N K V c fo out on xs) (h3 : SE w3 S OF OU ON N K fo out on0) (hb : Below wr.heap.size wr w') : MI w3 w' S OF OU ON N K V c fo out on xs := by
  have hl : ON < wr.heap.size := Nat.lt_of_lt_of_le h3.lt.2.2.2 h.bb.size
  exact ⟨h.bb.then hb h.bb.size, fun k hk => (hb.cell (p := ⟨ON, k, none⟩) hl).trans (h.k k hk), fun k => (hb.frozen (p := ⟨ON, k, none⟩) hl).trans (h.fr k)⟩
theorem MI.grown {row : Option Nat} (h : MI w3 wr S OF OU ON N K V c fo out on xs) (h3 : SE w3 S OF OU ON N K fo out on0) (hg : wr.grownBy w' row) (hr : ∀ k, row = some k → w3.heap.size ≤ k) : MI w3 w' S OF OU ON N K V c fo out on xs := by
  have h9 := h3.lt.2.2.2
  have hl : ON < wr.heap.size := Nat.lt_of_lt_of_le h9 h.bb.size
  have hn : some ON ≠ row := fun e => by have := hr ON e.symm; omega
  exact ⟨h.bb.grown hg h.bb.size hr, fun k hk => (World.cell?_of_block (a := ⟨ON, k, none⟩) (hg.block ON hl hn)).trans (h.k k hk), fun k => (World.frozen?_of_block (a := ⟨ON, k, none⟩) (hg.block ON hl hn)).trans (h.fr k)⟩
theorem MI.set (h : MI w3 wr S OF OU ON N K V c fo out on xs) {k : Nat} (hk : k < K + 1) (x : Bool) (ho : ∀ i, on' i = if i = k then x else on i) : MI w3 (wr.setCell ⟨ON, k, none⟩ (.bool x)) S OF OU ON N K V c fo out on' xs := by
  refine ⟨h.bb.setT k _, fun i hi => ?_, fun i => by rw [World.frozen?_setCell]; exact h.fr i⟩
  rw [ho]
  by_cases hik : i = k
  · subst hik; rw [if_pos rfl]; exact World.cell?_setCell_same wr ⟨ON, i, none⟩ _ (h.k i hi)
  · rw [if_neg hik]; exact (World.cell?_setCell_other wr ⟨ON, k, none⟩ ⟨ON, i, none⟩ _ (fun e => hik (by injection e with _ e2; exact e2.symm))).trans (h.k i hi)
end
def castL (l : List Nat) : List Int := l.map fun i : Nat => (i : Int)
theorem mem_less {l : List Nat} {i k : Nat} (h : i ≠ k) : i ∈ List.range (k + 1) ++ l ↔ i ∈ List.range k ++ l := by
  rw [List.mem_append, List.mem_append, List.mem_range, List.mem_range]
  exact ⟨fun g => g.elim (fun g => .inl (by omega)) .inr, fun g => g.elim (fun g => .inl (by omega)) .inr⟩
theorem mem_back {l : List Nat} {i k : Nat} (h : i ≠ k) : i ∈ List.range k ++ l ↔ i ∈ List.range k ++ k :: l := by
  rw [List.mem_append, List.mem_append, List.mem_cons]
  exact ⟨fun g => g.elim .inl (fun g => .inr (.inr g)), fun g => g.elim .inl (fun g => g.elim (fun g => absurd g h) .inr)⟩
theorem castL_rev (l : List Nat) : (castL l.reverse).reverse = castL l := by simp [castL]
theorem castL_snoc (l : List Nat) (k : Nat) : castL (l ++ [k]) = castL l ++ [(k : Int)] := by simp [castL]
theorem castL_len (l : List Nat) : (castL l).length = l.length := by simp [castL]

end Go.Proofs.Ytfaebmpdianniaa
