/-
  A row of constraints that a loop makes, each with two rows of its own: what of it stays through calls, appends and stores.
-/
import Derived.Test.YtfaebmpdianniaaGChainM
import Derived.Test.YtfaebmpdianniaaGFolP
namespace Go.Proofs.Ytfaebmpdianniaa
open Go Go.RowKit

theorem own_type_ne' {w : World} {base : Nat} {e t : TypeId} {size n q : Nat} {v : Value} {xs : List Value} (h : w.ownsRow base e size v n xs) (hq : ∃ cs fr, w.heap[q]? = some (.cells cs t fr)) (ht : t ≠ e) : v.ownBlock ≠ some q := by
  rintro he
  obtain ⟨cs, fr, hq⟩ := hq
  rcases h.2 with ⟨rfl, _⟩ | ⟨g, cap, cur, rfl, _, hg, _⟩
  · simp [Value.ownBlock] at he
  · simp only [Value.ownBlock, Option.some.injEq] at he
    subst he
    rw [hg] at hq
    injection hq with hq
    injection hq with _ hq _
    exact ht hq.symm
set_option maxRecDepth 100000 in
set_option maxHeartbeats 4000000 in
/-- the first j constraints of a chain, as cells -/
def LV (w : World) (xs : List Value) (l : List Int) (j : Nat) : Prop :=
  xs.length = j * 4 ∧ ∀ i, i < j → ∃ q1 q2, xs[i * 4]? = some (.int .i64 0) ∧ xs[i * 4 + 1]? = some (.slice (some ⟨q1, 0, none⟩) 1 1) ∧ xs[i * 4 + 2]? = some (.int .i64 0) ∧ xs[i * 4 + 3]? = some (.slice (some ⟨q2, 0, none⟩) 1 1) ∧ w.heap[q1]? = some (.cells #[.int .i64 i, .int .i64 (stp l i)] 80) ∧ w.heap[q2]? = some (.cells #[.int .i64 ((i : Int) + 1), .int .i64 0] 80)
/-- rows of parts stay -/
def KV (w w' : World) : Prop := ∀ (q : Nat) (cs : Array Value), w.heap[q]? = some (.cells cs 80) → w'.heap[q]? = some (.cells cs 80)
theorem LV.keep {w w' : World} {xs : List Value} {l : List Int} {j : Nat} (h : LV w xs l j) (k : KV w w') : LV w' xs l j :=
  ⟨h.1, fun i hi => by
    obtain ⟨q1, q2, h0, h1, h2, h3, h4, h5⟩ := h.2 i hi
    exact ⟨q1, q2, h0, h1, h2, h3, k _ _ h4, k _ _ h5⟩⟩
theorem LV.nil (w : World) (l : List Int) : LV w [] l 0 := ⟨rfl, fun i hi => by omega⟩
theorem KV.below {w w' : World} (h : Below w.heap.size w w') : KV w w' := fun q _ hq => (h.block q (Array.getElem?_eq_some_iff.1 hq).1).trans hq
theorem KV.trans {a b c : World} (h : KV a b) (g : KV b c) : KV a c := fun q cs hq => g q cs (h q cs hq)
theorem KV.grown {w w' : World} {base n : Nat} {v : Value} {xs : List Value} (hown : w.ownsRow base 40 4 v n xs) (hg : w.grownBy w' v.ownBlock) : KV w w' := fun q cs hq => by
  have hne := own_type_ne' hown ⟨cs, _, hq⟩ (by decide)
  exact (hg.block q (Array.getElem?_eq_some_iff.1 hq).1 (fun e => hne e.symm)).trans hq
theorem KV.setCell {w : World} {base g n : Nat} {xs : List Value} (hown : w.ownsRow base 3 1 (.slice (some ⟨g, 0, none⟩) n n) n xs) (k : Nat) (u : Value) : KV w (w.setCell ⟨g, k, none⟩ u) := fun q cs hq => by
  have hne := own_type_ne' hown ⟨cs, _, hq⟩ (by decide)
  exact (Below.heap_setCell w ⟨g, k, none⟩ u q (fun e => hne (by subst e; rfl))).trans hq
theorem row_type {w : World} {base g n c size : Nat} {e : TypeId} {xs : List Value} (hown : w.ownsRow base e size (.slice (some ⟨g, 0, none⟩) n c) n xs) : ∃ cs fr, w.heap[g]? = some (.cells cs e fr) := by
  rcases hown.2 with ⟨h, _⟩ | ⟨g', cap, cur, h, _, hg, _⟩
  · cases h
  · cases h; exact ⟨_, _, hg⟩
/-- the row of sums is not the row of constraints -/
theorem rows_apart {w : World} {base base' g n m : Nat} {v : Value} {xs ys : List Value} (hs : w.ownsRow base 3 1 (.slice (some ⟨g, 0, none⟩) n n) n xs) (hl : w.ownsRow base' 40 4 v m ys) : v.ownBlock ≠ some g :=
  own_type_ne' hl (row_type hs) (by decide)
theorem sum_grown {w w' : World} {base base' g n m : Nat} {v : Value} {xs ys : List Value} (hs : w.ownsRow base 3 1 (.slice (some ⟨g, 0, none⟩) n n) n xs) (hl : w.ownsRow base' 40 4 v m ys) (hg : w.grownBy w' v.ownBlock) : w'.ownsRow base 3 1 (.slice (some ⟨g, 0, none⟩) n n) n xs := by
  have hne := rows_apart hs hl
  have hlt := (own_lt hs).2
  exact ⟨hs.1, hs.2.imp id fun ⟨g', cap, cur, e1, e2, e3, e4⟩ => ⟨g', cap, cur, e1, e2, by cases e1; exact (hg.block g hlt (fun e => hne e.symm)).trans e3, e4⟩⟩
theorem pl_heap {w : World} {q : Nat} {x p : Int} (h : w.heap[q]? = some (.cells #[.int .i64 x, .int .i64 p] 80)) : PL w w.heap.size (some ⟨q, 0, none⟩) 1 [(x, p)] := by
  refine ⟨rfl, fun _ => ⟨q, 0, rfl, (Array.getElem?_eq_some_iff.1 h).1, fun j y hy => ?_⟩⟩
  match j, hy with
  | 0, hy => simp at hy; subst hy; exact ⟨by simp [World.cell?, h], by simp [World.cell?, h]⟩
  | j + 1, hy => simp at hy
theorem lv_ok {w : World} {q : Nat} {x p : Int} (h : w.heap[q]? = some (.cells #[.int .i64 x, .int .i64 p] 80)) : LvOk w w.heap.size (.slice (some ⟨q, 0, none⟩) 1 1) [(x, p)] := ⟨_, _, _, rfl, pl_heap h, by omega, by omega⟩
theorem LV.cv {w : World} {xs : List Value} {l : List Int} {j : Nat} (h : LV w xs l j) : CV w w.heap.size xs (chS l j) := by
  refine ⟨by rw [chS_len, h.1], fun i c hc => ?_⟩
  have hi : i < j := by have := (List.getElem?_eq_some_iff.1 hc).1; rwa [chS_len] at this
  obtain ⟨q1, q2, h0, h1, h2, h3, h4, h5⟩ := h.2 i hi
  have e : c = chC l i := by
    have : (chS l j)[i]? = some (chC l i) := by simp [chS, hi]
    exact Option.some.inj (hc.symm.trans this)
  subst e
  exact ⟨_, _, h0, h1, h2, h3, lv_ok h4, lv_ok h5⟩
theorem LV.snoc {w : World} {xs : List Value} {l : List Int} {j q1 q2 : Nat} (h : LV w xs l j) (h4 : w.heap[q1]? = some (.cells #[.int .i64 j, .int .i64 (stp l j)] 80)) (h5 : w.heap[q2]? = some (.cells #[.int .i64 ((j : Int) + 1), .int .i64 0] 80)) :
    LV w (xs ++ [.int .i64 0, .slice (some ⟨q1, 0, none⟩) 1 1, .int .i64 0, .slice (some ⟨q2, 0, none⟩) 1 1]) l (j + 1) := by
  have hl := h.1
  refine ⟨by simp [hl]; omega, fun i hi => ?_⟩
  by_cases hij : i < j
  · obtain ⟨r1, r2, g0, g1, g2, g3, g4, g5⟩ := h.2 i hij
    refine ⟨r1, r2, ?_, ?_, ?_, ?_, g4, g5⟩ <;> (rw [List.getElem?_append_left (by omega)]; assumption)
  · obtain rfl : i = j := by omega
    refine ⟨q1, q2, ?_, ?_, ?_, ?_, h4, h5⟩
    · rw [List.getElem?_append_right (by omega), show i * 4 - xs.length = 0 by omega]; rfl
    · rw [List.getElem?_append_right (by omega), show i * 4 + 1 - xs.length = 1 by omega]; rfl
    · rw [List.getElem?_append_right (by omega), show i * 4 + 2 - xs.length = 2 by omega]; rfl
    · rw [List.getElem?_append_right (by omega), show i * 4 + 3 - xs.length = 3 by omega]; rfl
theorem at_heap (v p : Int) (w : World) :
    Calls Try.prog 14 #[.int .i64 v, .int .i64 p] w fun e w' => ∃ q, e = .returned (.agg #[.int .i64 0, .slice (some ⟨q, 0, none⟩) 1 1]) ∧ w'.heap[q]? = some (.cells #[.int .i64 v, .int .i64 p] 80) ∧ Below w.heap.size w w' := by
  go_enter Try.func14, Try.ntmps14
  go_wp2_with fail
  refine bodyPost_ret (v := .agg #[.int .i64 0, .slice (some ⟨w.heap.size + 1, 0, none⟩) 1 1]) (by simp [results, Try.results14, go_sem]) rfl ?_
  exact ⟨_, rfl, (heap_two w _ _).2, ((Below.refl _ w).alloc (Nat.le_refl _) _).alloc (by simp) _⟩
end Go.Proofs.Ytfaebmpdianniaa
