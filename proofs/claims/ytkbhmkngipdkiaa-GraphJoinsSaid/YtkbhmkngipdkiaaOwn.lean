/-
  Rows of pairs that a call has made itself: how they read, what a store and a sort make of them. Plain lemmas.
-/
import Derived.Test.YtkbhmkngipdkiaaBel
import Derived.Laws.OwnMore
import Derived.Shelf.GgSortFunc.RowK
import Derived.Shelf.GgSortFunc.InsertionK
import Derived.Shelf.SlSortFuncK.RowK2
namespace Go.Proofs.Ytkbhmkngipdkiaa
open Go Go.RowKit Go.Sort

/-- the two cells of a pair -/
def enc2 (x : Int × Int) : List Value := [.int .i64 x.1, .int .i64 x.2]
/-- the cells of a list of pairs -/
def flat2 (l : List (Int × Int)) : List Value := l.flatMap enc2
theorem flat2_len (l : List (Int × Int)) : (flat2 l).length = l.length * 2 := by
  induction l with
  | nil => rfl
  | cons x r ih => show (enc2 x ++ flat2 r).length = _; rw [List.length_append, ih]; simp [enc2]; omega
theorem flat2_app (l r : List (Int × Int)) : flat2 (l ++ r) = flat2 l ++ flat2 r := by simp [flat2]
theorem flat2_one (x : Int × Int) : flat2 [x] = [.int .i64 x.1, .int .i64 x.2] := by simp [flat2, enc2]
theorem flat2_at {l : List (Int × Int)} : ∀ {j : Nat} {x : Int × Int}, l[j]? = some x → (flat2 l)[j * 2]? = some (.int .i64 x.1) ∧ (flat2 l)[j * 2 + 1]? = some (.int .i64 x.2) := by
  induction l with
  | nil => intro j x h; simp at h
  | cons y r ih =>
    intro j x h
    have e : flat2 (y :: r) = .int .i64 y.1 :: .int .i64 y.2 :: flat2 r := rfl
    rw [e]
    cases j with
    | zero => simp at h; subst h; exact ⟨rfl, rfl⟩
    | succ j =>
      have h' : r[j]? = some x := by simpa using h
      obtain ⟨i1, i2⟩ := ih h'
      rw [show (j + 1) * 2 = j * 2 + 1 + 1 by omega]
      exact ⟨by simpa using i1, by simpa using i2⟩
theorem flat2_one_cell (l : List (Int × Int)) : ∀ u ∈ flat2 l, u.oneCell' = true := by
  intro u hu
  obtain ⟨x, _, hx⟩ := List.mem_flatMap.1 hu
  simp only [enc2, List.mem_cons, List.not_mem_nil, or_false] at hx
  rcases hx with rfl | rfl <;> rfl

section
variable {w : World} {base : Nat} {e : TypeId} {v : Value} {l : List (Int × Int)}
theorem PL.of_own (h : w.ownsRow base e 2 v l.length (flat2 l)) :
    ∃ A c, v = .slice A l.length c ∧ l.length ≤ c ∧ c ≤ maxLen ∧ PL w w.heap.size A l.length l ∧ (A = none ∨ ∃ g, A = some ⟨g, 0, none⟩ ∧ base ≤ g ∧ g < w.heap.size) := by
  have h0 := h
  rcases h.2 with ⟨rfl, hn⟩ | ⟨g, cap, cur, rfl, hb, hg, hc, hm, hs, ht⟩
  · have : l = [] := List.eq_nil_of_length_eq_zero hn
    subst this
    exact ⟨none, 0, rfl, Nat.le_refl _, Nat.zero_le _, PL.nil_ _, .inl rfl⟩
  · have hlt : g < w.heap.size := (Array.getElem?_eq_some_iff.1 hg).1
    refine ⟨_, cap, rfl, hc, hm, ⟨rfl, fun _ => ⟨g, 0, rfl, hlt, fun j x hx => ?_⟩⟩, .inr ⟨g, rfl, hb, hlt⟩⟩
    obtain ⟨f1, f2⟩ := flat2_at hx
    have hj : j < l.length := (List.getElem?_eq_some_iff.1 hx).1
    rw [Nat.zero_add]
    exact ⟨(h0.cellAt (j * 2) (by omega)).trans f1, (h0.cellAt (j * 2 + 1) (by omega)).trans f2⟩
theorem own_set2 {g n cap : Nat} {acc : List (Int × Int)} {y : Int × Int} {a b : Int} (hn : n = acc.length) (h : w.ownsRow base e 2 (.slice (some ⟨g, 0, none⟩) (n + 1) cap) (n + 1) (flat2 (acc ++ [y]))) :
    ((w.setCell ⟨g, n * 2, none⟩ (.int .i64 a)).setCell ⟨g, n * 2 + 1, none⟩ (.int .i64 b)).ownsRow base e 2 (.slice (some ⟨g, 0, none⟩) (n + 1) cap) (n + 1) (flat2 (acc ++ [(a, b)])) := by
  subst hn
  have h1 := (h.stored (acc.length * 2) (.int .i64 a)).1
  have h2 := (h1.stored (acc.length * 2 + 1) (.int .i64 b)).1
  have e1 : ((flat2 (acc ++ [y])).set (acc.length * 2) (.int .i64 a)).set (acc.length * 2 + 1) (.int .i64 b) = flat2 (acc ++ [(a, b)]) := by
    rw [flat2_app, flat2_app, flat2_one, flat2_one, ← flat2_len acc, List.set_append_right _ _ (by omega), Nat.sub_self, List.set_append_right _ _ (by omega)]
    simp
  rw [e1] at h2
  exact h2

theorem holds_of_own {g n cap : Nat} (hl : l.length = n) (h : w.ownsRow base e 2 (.slice (some ⟨g, 0, none⟩) n cap) n (flat2 l)) : HoldsK enc2 2 w g 0 l.toArray := by
  subst hl
  intro t ht
  have ht' : t < l.length * 2 := by simpa using ht
  refine ⟨?_, by rw [Nat.zero_add]; exact h.frozenAt t⟩
  rw [Nat.zero_add, h.cellAt t ht', get_flatK _ _ _ t (by simpa using ht')]
  have hd : t / 2 < l.length := by omega
  have hx : l[t / 2]? = some l[t / 2] := List.getElem?_eq_getElem hd
  obtain ⟨f1, f2⟩ := flat2_at hx
  have e0 : l.toArray[t / 2]! = l[t / 2] := by simp [hd]
  rw [e0]
  clear e0 hx
  generalize l[t / 2] = x at f1 f2 ⊢
  rcases Nat.mod_two_eq_zero_or_one t with h0 | h0
  · rw [show t / 2 * 2 = t by omega] at f1
    rw [h0, f1]; rfl
  · rw [show t / 2 * 2 + 1 = t by omega] at f2
    rw [h0, f2]; rfl
theorem PL.of_holds {g B : Nat} {d : Array (Int × Int)} (h : HoldsK enc2 2 w g 0 d) (hg : g < B) : PL w B (some ⟨g, 0, none⟩) d.size d.toList := by
  refine ⟨by simp, fun _ => ⟨g, 0, rfl, hg, fun j x hx => ?_⟩⟩
  obtain ⟨hj, rfl⟩ := List.getElem?_eq_some_iff.1 hx
  have hj' : j < d.size := by simpa using hj
  have h0 := (h.cell hj' (show 0 < 2 by omega)).1
  have h1 := (h.cell hj' (show 1 < 2 by omega)).1
  have e0 : d[j]! = d.toList[j] := by simp [hj']
  rw [e0] at h0 h1
  exact ⟨h0, h1⟩
end

theorem below_grow' {B : Nat} {a w : World} (h : Below B a w) (os : Array Obj) (hB : B ≤ w.heap.size) : Below B a (grow w os) :=
  h.trans ⟨rfl, rfl, rfl, by simp [grow], fun k hk => by
    show (w.heap ++ os)[k]? = w.heap[k]?
    rw [Array.getElem?_append_left (by omega)]⟩
theorem below_sort {α : Type} [Inhabited α] (enc : α → List Value) (k : Nat) (w : World) (blk off n B : Nat) (d : Array α) (os : Array Obj) (hB : B ≤ blk) (hw : B ≤ w.heap.size) : Below B w (Go.Proofs.sortWorldK enc k w blk off n d os) := by
  unfold Go.Proofs.sortWorldK
  refine below_grow' ?_ os (by rw [size_putRowK]; exact hw)
  refine ⟨rfl, rfl, rfl, by rw [size_putRowK]; exact Nat.le_refl _, fun j hj => ?_⟩
  show ((Sort.ahead w n).heap.modify blk _)[j]? = _
  rw [Array.getElem?_modify, if_neg (by omega)]
  rfl
end Go.Proofs.Ytkbhmkngipdkiaa
