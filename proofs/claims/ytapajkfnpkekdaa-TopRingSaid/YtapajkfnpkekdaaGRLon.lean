/-
  'longest' of the reference: the greatest lengths of ways, by rounds over all edges.
-/
import Derived.Test.YtapajkfnpkekdaaGREdge
import Derived.Test.YtapajkfnpkekdaaGLonM
namespace Go.Proofs.Ytapajkfnpkekdaa
open Go Go.RowKit

/-- the two cells of a way -/
def encW : Option Int → List Value
  | none => [.bool false, .int .i64 0]
  | some a => [.bool true, .int .i64 a]
def isW : Option Int → Bool
  | none => false
  | some _ => true
def numW : Option Int → Int
  | none => 0
  | some a => a
theorem encW_eq (x : Option Int) : encW x = [.bool (isW x), .int .i64 (numW x)] := by cases x <;> rfl
def flatW (l : List (Option Int)) : List Value := l.flatMap encW
theorem flatW_len (l : List (Option Int)) : (flatW l).length = l.length * 2 := by
  induction l with
  | nil => rfl
  | cons x r ih => show (encW x ++ flatW r).length = _; rw [List.length_append, ih, encW_eq]; simp; omega
theorem flatW_at {l : List (Option Int)} : ∀ {j : Nat}, j < l.length → (flatW l)[j * 2]? = some (.bool (isW (gw l j))) ∧ (flatW l)[j * 2 + 1]? = some (.int .i64 (numW (gw l j))) := by
  induction l with
  | nil => intro j h; simp at h
  | cons y r ih =>
    intro j h
    have e : flatW (y :: r) = .bool (isW y) :: .int .i64 (numW y) :: flatW r := by show encW y ++ flatW r = _; rw [encW_eq]; rfl
    rw [e]
    cases j with
    | zero => exact ⟨rfl, rfl⟩
    | succ j =>
      obtain ⟨i1, i2⟩ := ih (j := j) (by simpa using h)
      rw [show (j + 1) * 2 = j * 2 + 1 + 1 by omega]
      exact ⟨by simpa [gw] using i1, by simpa [gw] using i2⟩
theorem flatW_set {l : List (Option Int)} : ∀ {t : Nat} (x : Int), ((flatW l).set (t * 2) (.bool true)).set (t * 2 + 1) (.int .i64 x) = flatW (l.set t (some x)) := by
  induction l with
  | nil => intro t x; rfl
  | cons y r ih =>
    intro t x
    have e : ∀ y, flatW (y :: r) = .bool (isW y) :: .int .i64 (numW y) :: flatW r := by intro y; show encW y ++ flatW r = _; rw [encW_eq]; rfl
    cases t with
    | zero => rw [e]; show _ = flatW (some x :: r); rw [e]; rfl
    | succ t =>
      have e2 : flatW ((y :: r).set (t + 1) (some x)) = .bool (isW y) :: .int .i64 (numW y) :: flatW (r.set t (some x)) := by show encW y ++ flatW _ = _; rw [encW_eq]; rfl
      rw [e, e2, ← ih x, show (t + 1) * 2 = t * 2 + 1 + 1 by omega]
      rfl
theorem flatW_first {n s : Nat} (hs : s < n + 1) : (flatW (List.replicate (n + 1) none)).set (s * 2) (.bool true) = flatW ((List.replicate (n + 1) none).set s (some 0)) := by
  rw [← flatW_set 0]
  refine (List.ext_getElem? fun j => ?_)
  rw [List.getElem?_set (i := s * 2 + 1)]
  split
  · rename_i h
    subst h
    rw [if_pos (by rw [List.length_set, flatW_len]; simp; omega), List.getElem?_set_ne (by omega), (flatW_at (by simpa using hs)).2]
    have : gw (List.replicate (n + 1) (none : Option Int)) s = none := by
      unfold gw
      rw [List.getD_eq_getElem?_getD, List.getElem?_replicate]
      split <;> rfl
    rw [this]; rfl
  · rfl
theorem made_ways (n : Nat) : (madeCells #[.bool false, .int .i64 0] (n * 2)).toList = flatW (List.replicate n none) := by
  refine List.ext_getElem? fun j => ?_
  have hg : ∀ k, gw (List.replicate n (none : Option Int)) k = none := fun k => by
    unfold gw
    rw [List.getD_eq_getElem?_getD, List.getElem?_replicate]
    split <;> rfl
  by_cases hj : j < n * 2
  · have hlen : (flatW (List.replicate n none)).length = n * 2 := by rw [flatW_len]; simp
    have h := flatW_at (l := List.replicate n none) (j := j / 2) (by simp; omega)
    rw [hg] at h
    rcases Nat.mod_two_eq_zero_or_one j with h0 | h0
    · rw [show j / 2 * 2 = j by omega] at h
      rw [h.1]; simp [madeCells, hj, h0, isW]
    · rw [show j / 2 * 2 + 1 = j by omega] at h
      rw [h.2]; simp [madeCells, hj, h0, numW]
  · rw [List.getElem?_eq_none (by simp [madeCells]; omega), List.getElem?_eq_none (by rw [flatW_len]; simp; omega)]
theorem heap_two' (w : World) (a b : Obj) : ((w.alloc a).alloc b).heap[w.heap.size]? = some a ∧ ((w.alloc a).alloc b).heap[w.heap.size + 1]? = some b := heap_two w a b

end Go.Proofs.Ytapajkfnpkekdaa
