/-
  Two tables of rows of numbers that a loop makes and appends to: what of them stays, and one append with its store.
-/
import Derived.Test.YtapajkfnpkekdaaGWalk
import Derived.Test.YtapajkfnpkekdaaGRCls
namespace Go.Proofs.Ytapajkfnpkekdaa
open Go Go.RowKit

structure RW (w : World) (B : Nat) (G : Bool → Nat) (N : Nat) (val : Bool → Nat → Value) (ls : Bool → Nat → List Nat) : Prop where
  row : ∀ b, w.ownsRow 0 33 1 (.slice (some ⟨G b, 0, none⟩) N N) N ((List.range N).map (val b))
  own : ∀ b v, v < N → w.ownsRow B 3 1 (val b v) (ls b v).length (int1 (castN (ls b v)))
  ne : ∀ b v c x, v < N → x < N → ¬ (b = c ∧ v = x) → ∀ q, (val b v).ownBlock = some q → (val c x).ownBlock ≠ some q
  gne : G true ≠ G false
theorem range_set (N v : Nat) (f : Nat → Value) (y : Value) : ((List.range N).map f).set v y = (List.range N).map fun x => if x = v then y else f x := by
  refine List.ext_getElem? fun j => ?_
  rw [List.getElem?_set, List.getElem?_map, List.getElem?_map]
  by_cases hj : j < N
  · rw [List.getElem?_range hj]
    by_cases h : v = j
    · subst h; simp [hj]
    · rw [if_neg h]
      simp [Ne.symm h]
  · rw [List.getElem?_eq_none (show (List.range N).length ≤ j by simp; omega)]
    by_cases h : v = j
    · subst h; simp [hj]
    · rw [if_neg h]; rfl
section
variable {w w' : World} {B N : Nat} {G : Bool → Nat} {val : Bool → Nat → Value} {ls : Bool → Nat → List Nat}
theorem RW.cell (h : RW w B G N val ls) (b : Bool) {v : Nat} (hv : v < N) : w.cell? ⟨G b, v, none⟩ = some (val b v) ∧ w.frozen? ⟨G b, v, none⟩ = false :=
  ⟨((h.row b).cellAt v (by omega)).trans (by rw [List.getElem?_map, List.getElem?_range hv]; rfl), (h.row b).frozenAt v⟩
theorem RW.lt (h : RW w B G N val ls) (b : Bool) : 0 ≤ G b ∧ G b < w.heap.size := own_lt (h.row b)
theorem RW.gt (h : RW w B G N val ls) (b c : Bool) {v : Nat} (hv : v < N) : (val b v).ownBlock ≠ some (G c) := own_ne (h.own b v hv) (row_ty (h.row c)) (by decide)
theorem RW.below (h : RW w B G N val ls) (hb : Below w.heap.size w w') : RW w' B G N val ls :=
  ⟨fun b => own_below (h.row b) hb, fun b v hv => own_below (h.own b v hv) hb, h.ne, h.gne⟩
theorem RW.far (h : RW w B G N val ls) {b : Bool} {v : Nat} (hv : v < N) (hg : w.grownBy w' (val b v).ownBlock) (c : Bool) {x : Nat} (hx : x < N) : w'.cell? ⟨G c, x, none⟩ = some (val c x) ∧ w'.frozen? ⟨G c, x, none⟩ = false := by
  have hne : some (G c) ≠ (val b v).ownBlock := fun e => h.gt b c hv e.symm
  exact ⟨(hg.cell_far ⟨G c, x, none⟩ (h.lt c).2 hne).trans (h.cell c hx).1, (hg.frozen_far ⟨G c, x, none⟩ (h.lt c).2 hne).trans (h.cell c hx).2⟩
/-- a row has grown by t, and its new value is written into the table -/
theorem RW.put (h : RW w B G N val ls) {b : Bool} {v t g cap : Nat} (hv : v < N) (hg : w.grownBy w' (val b v).ownBlock) (ho : w'.ownsRow B 3 1 (.slice (some ⟨g, 0, none⟩) ((ls b v).length + 1) cap) ((ls b v).length + 1) (int1 (castN (ls b v)) ++ [.int .i64 t])) (hl : (val b v).ownBlock = some g ∨ g = w.heap.size) :
    RW (w'.setCell ⟨G b, v, none⟩ (.slice (some ⟨g, 0, none⟩) ((ls b v).length + 1) cap)) B G N (fun c x => if c = b ∧ x = v then .slice (some ⟨g, 0, none⟩) ((ls b v).length + 1) cap else val c x) (fun c x => if c = b ∧ x = v then ls b v ++ [t] else ls c x) := by
  have hgG : ∀ c, g ≠ G c := fun c e => by
    rcases hl with h1 | h1
    · exact h.gt b c hv (by rw [h1, e])
    · have := (h.lt c).2; omega
  have hrow : ∀ c, w'.ownsRow 0 33 1 (.slice (some ⟨G c, 0, none⟩) N N) N ((List.range N).map (val c)) := fun c => own_grown (h.row c) hg fun k hk e => by
    have : G c = k := by simpa [Value.ownBlock] using e
    exact h.gt b c hv (by rw [hk, this])
  refine ⟨fun c => ?_, fun c x hx => ?_, fun c x d y hx hy hn q hq => ?_, h.gne⟩
  · by_cases hc : c = b
    · subst hc
      have h1 := ((hrow c).stored v (.slice (some ⟨g, 0, none⟩) ((ls c v).length + 1) cap)).1
      rw [range_set] at h1
      simpa using h1
    · have h1 := own_other (hrow c) (b := G b) (by
        intro e
        have e1 : G c = G b := by simpa [Value.ownBlock] using e
        have := h.gne
        cases c <;> cases b <;> simp_all) v (.slice (some ⟨g, 0, none⟩) ((ls b v).length + 1) cap)
      simpa [hc] using h1
  · by_cases hcx : c = b ∧ x = v
    · obtain ⟨rfl, rfl⟩ := hcx
      simp only [and_self, if_true]
      rw [castN_app, int1_app, List.length_append]
      exact own_other ho (by
        intro e
        have e1 : g = G c := by simpa [Value.ownBlock] using e
        exact hgG c e1) _ _
    · simp only [hcx, if_false]
      refine own_other (own_grown (h.own c x hx) hg fun k hk e => ?_) (h.gt c b hx) _ _
      exact h.ne b v c x hv hx (fun e => hcx ⟨e.1.symm, e.2.symm⟩) k hk e
  · by_cases h1 : c = b ∧ x = v
    · obtain ⟨rfl, rfl⟩ := h1
      have h2 : ¬ (d = c ∧ y = x) := fun e => hn ⟨e.1.symm, e.2.symm⟩
      rw [if_neg h2]
      rw [if_pos ⟨rfl, rfl⟩] at hq
      have e1 : g = q := by simpa [Value.ownBlock] using hq
      subst e1
      rcases hl with h3 | h3
      · exact h.ne c x d y hv hy hn g h3
      · intro e
        have := ((h.own d y hy).lt g e).2
        omega
    · rw [if_neg h1] at hq
      by_cases h2 : d = b ∧ y = v
      · obtain ⟨rfl, rfl⟩ := h2
        rw [if_pos ⟨rfl, rfl⟩]
        intro e
        have e1 : g = q := by simpa [Value.ownBlock] using e
        subst e1
        rcases hl with h3 | h3
        · exact h.ne d y c x hy hx (fun e => h1 ⟨e.1.symm, e.2.symm⟩) g h3 hq
        · have := ((h.own c x hx).lt g hq).2
          omega
      · rw [if_neg h2]
        exact h.ne c x d y hx hy hn q hq
end
/-- all that lies below B is left alone, but for the two tables -/
structure BG2 (B : Nat) (G : Bool → Nat) (w w' : World) : Prop where
  os : w'.os = w.os
  tape : w'.tape = w.tape
  output : w'.output = w.output
  size : w.heap.size ≤ w'.heap.size
  block : ∀ k, k < B → (∀ b, k ≠ G b) → w'.heap[k]? = w.heap[k]?
section
variable {B : Nat} {G : Bool → Nat} {a w w' : World}
theorem BG2.refl (w : World) : BG2 B G w w := ⟨rfl, rfl, rfl, Nat.le_refl _, fun _ _ _ => rfl⟩
theorem BG2.then (h : BG2 B G a w) (hb : Below w.heap.size w w') (hB : B ≤ w.heap.size) : BG2 B G a w' :=
  ⟨hb.os.trans h.os, hb.tape.trans h.tape, hb.output.trans h.output, Nat.le_trans h.size hb.size, fun k h1 h2 => (hb.block k (by omega)).trans (h.block k h1 h2)⟩
theorem BG2.grown {row : Option Nat} (h : BG2 B G a w) (hg : w.grownBy w' row) (hB : B ≤ w.heap.size) (hr : ∀ k, row = some k → B ≤ k) : BG2 B G a w' :=
  ⟨hg.os.trans h.os, hg.tape.trans h.tape, hg.output.trans h.output, Nat.le_trans h.size hg.size, fun k h1 h2 => (hg.block k (by omega) (fun e => by have := hr k e.symm; omega)).trans (h.block k h1 h2)⟩
theorem BG2.set (h : BG2 B G a w) (b : Bool) (i : Nat) (u : Value) : BG2 B G a (w.setCell ⟨G b, i, none⟩ u) :=
  ⟨h.os, h.tape, h.output, by rw [World.size_setCell]; exact h.size, fun k h1 h2 => (Below.heap_setCell w ⟨G b, i, none⟩ u k (h2 b)).trans (h.block k h1 h2)⟩
theorem BG2.cell (h : BG2 B G w w') {p : Addr} (hp : p.block < B) (hn : ∀ b, p.block ≠ G b) : w'.cell? p = w.cell? p := World.cell?_of_block (h.block p.block hp hn)
theorem BG2.bel (h : BG2 B G w w') {D : Nat} (hD : D ≤ B) (hG : ∀ b, D ≤ G b) : Below D w w' :=
  ⟨h.os, h.tape, h.output, h.size, fun k hk => h.block k (by omega) (fun b e => by have := hG b; omega)⟩
end
theorem heap_three (w : World) (a b c : Obj) : (((w.alloc a).alloc b).alloc c).heap[w.heap.size]? = some a ∧ (((w.alloc a).alloc b).alloc c).heap[w.heap.size + 1]? = some b ∧ (((w.alloc a).alloc b).alloc c).heap[w.heap.size + 2]? = some c := by
  have z : ∀ (w : World) (o : Obj), (w.alloc o).heap[w.heap.size]? = some o := fun w o => by show (w.heap.push o)[w.heap.size]? = some o; simp
  have k : ∀ (w : World) (o : Obj) (i : Nat) (x : Obj), w.heap[i]? = some x → (w.alloc o).heap[i]? = some x := fun w o i x h => by
    have hi : i < w.heap.size := (Array.getElem?_eq_some_iff.1 h).1
    rw [Below.heap_alloc w o i hi]; exact h
  have s : ∀ (w : World) (o : Obj), (w.alloc o).heap.size = w.heap.size + 1 := fun w o => by simp
  refine ⟨k _ c _ _ (k _ b _ _ (z w a)), k _ c _ _ ?_, ?_⟩
  · have := z (w.alloc a) b
    rwa [s] at this
  · have := z ((w.alloc a).alloc b) c
    rwa [s, s] at this
end Go.Proofs.Ytapajkfnpkekdaa
