/-
  What the search of package graph keeps in memory, a queue in a row that is cut from the front, and laws for 'make' in a region that draws its order.
-/
import Derived.Test.YtapajkfnpkekdaaGEdges
import Derived.ArgAppend
import Derived.Deep.LoopGhost
namespace Go.Proofs.Ytapajkfnpkekdaa
open Go Go.RowKit

/-- nothing below block B is other than it was, but for block T -/
structure BB (B T : Nat) (w w' : World) : Prop where
  os : w'.os = w.os
  tape : w'.tape = w.tape
  output : w'.output = w.output
  size : w.heap.size ≤ w'.heap.size
  block : ∀ k, k < B → k ≠ T → w'.heap[k]? = w.heap[k]?
theorem BB.of {B T : Nat} {w w' : World} (h : Below B w w') : BB B T w w' := ⟨h.os, h.tape, h.output, h.size, fun k hk _ => h.block k hk⟩
theorem BB.trans {B T : Nat} {a b c : World} (h : BB B T a b) (k : BB B T b c) : BB B T a c :=
  ⟨k.os.trans h.os, k.tape.trans h.tape, k.output.trans h.output, Nat.le_trans h.size k.size, fun i h1 h2 => (k.block i h1 h2).trans (h.block i h1 h2)⟩
theorem BB.mono {B B' T : Nat} {w w' : World} (h : BB B T w w') (hB : B' ≤ B) : BB B' T w w' := ⟨h.os, h.tape, h.output, h.size, fun k hk hn => h.block k (by omega) hn⟩
theorem BB.then {B T : Nat} {a w w' : World} (h : BB B T a w) (hb : Below w.heap.size w w') (hB : B ≤ w.heap.size) : BB B T a w' := h.trans (BB.of (hb.mono hB))
theorem BB.cell {B T : Nat} {w w' : World} (h : BB B T w w') {p : Addr} (hp : p.block < B) (hn : p.block ≠ T) : w'.cell? p = w.cell? p := World.cell?_of_block (h.block p.block hp hn)
theorem BB.setT {B T : Nat} {a w : World} (h : BB B T a w) (i : Nat) (u : Value) : BB B T a (w.setCell ⟨T, i, none⟩ u) :=
  ⟨h.os, h.tape, h.output, by rw [World.size_setCell]; exact h.size, fun k h1 h2 => (Below.heap_setCell w ⟨T, i, none⟩ u k h2).trans (h.block k h1 h2)⟩
theorem BB.setNew {B T : Nat} {a w : World} (h : BB B T a w) {b : Nat} (hb : B ≤ b) (i : Nat) (u : Value) : BB B T a (w.setCell ⟨b, i, none⟩ u) :=
  ⟨h.os, h.tape, h.output, by rw [World.size_setCell]; exact h.size, fun k h1 h2 => (Below.heap_setCell w ⟨b, i, none⟩ u k (by show k ≠ b; omega)).trans (h.block k h1 h2)⟩
theorem BB.grown {B T : Nat} {a w w' : World} {row : Option Nat} (h : BB B T a w) (hg : w.grownBy w' row) (hB : B ≤ w.heap.size) (hr : ∀ k, row = some k → B ≤ k) : BB B T a w' :=
  ⟨hg.os.trans h.os, hg.tape.trans h.tape, hg.output.trans h.output, Nat.le_trans h.size hg.size, fun k h1 h2 => (hg.block k (by omega) (fun e => by have := hr k e.symm; omega)).trans (h.block k h1 h2)⟩
theorem BB.drewN {B T : Nat} {a w : World} (h : BB B T a w) (n : Nat) : BB B T a (w.drewN n) := h.trans (BB.of (below_drewN (Below.refl _ _) n))

/-- what the search holds, as it can be read in world w, all of it outside of block V -/
structure SR (w : World) (S OU ON N L : Nat) (out : Nat → List Edg) (on : Nat → Bool) (V : Nat) : Prop where
  s1 : w.cell? ⟨S, 1, none⟩ = some (.slice (some ⟨OU, 0, none⟩) N N)
  s2 : w.cell? ⟨S, 2, none⟩ = some (.slice (some ⟨ON, 0, none⟩) L L)
  o : ∀ v, v < N → ∃ A m c, w.cell? ⟨OU, v, none⟩ = some (.slice A m c) ∧ EL w w.heap.size A m (out v) ∧ m ≤ 9223372036854775807 ∧ ∀ b off, A = some ⟨b, off, none⟩ → b ≠ V
  k : ∀ k, k < L → w.cell? ⟨ON, k, none⟩ = some (.bool (on k))
  ne : S ≠ V ∧ OU ≠ V ∧ ON ≠ V
  lt : S < w.heap.size ∧ OU < w.heap.size ∧ ON < w.heap.size
theorem SR.bb {w w' : World} {S OU ON N L V : Nat} {out : Nat → List Edg} {on : Nat → Bool} (h : SR w S OU ON N L out on V) (hb : BB w.heap.size V w w') : SR w' S OU ON N L out on V := by
  obtain ⟨n1, n2, n3⟩ := h.ne
  obtain ⟨l1, l2, l3⟩ := h.lt
  refine ⟨(hb.cell (p := ⟨S, 1, none⟩) l1 n1).trans h.s1, (hb.cell (p := ⟨S, 2, none⟩) l1 n1).trans h.s2, fun v hv => ?_, fun k hk => (hb.cell (p := ⟨ON, k, none⟩) l3 n3).trans (h.k k hk), h.ne, Nat.lt_of_lt_of_le l1 hb.size, Nat.lt_of_lt_of_le l2 hb.size, Nat.lt_of_lt_of_le l3 hb.size⟩
  obtain ⟨A, m, c, h1, h2, h3, h4⟩ := h.o v hv
  exact ⟨A, m, c, (hb.cell (p := ⟨OU, v, none⟩) l2 n2).trans h1, (h2.keep fun b off e hp i => hb.cell (p := ⟨b, i, none⟩) hp (h4 b off e)).more hb.size, h3, h4⟩

theorem own_other {w : World} {base : Nat} {e : TypeId} {size n : Nat} {v : Value} {xs : List Value} (h : w.ownsRow base e size v n xs) {b : Nat} (hn : v.ownBlock ≠ some b) (i : Nat) (u : Value) : (w.setCell ⟨b, i, none⟩ u).ownsRow base e size v n xs :=
  ⟨h.1, h.2.imp id fun ⟨g, cap, cur, e1, e2, e3, e4⟩ => ⟨g, cap, cur, e1, e2, (Below.heap_setCell w ⟨b, i, none⟩ u g (fun e => hn (by rw [e1, e]; rfl))).trans e3, e4⟩⟩
theorem own_grown {w w' : World} {base : Nat} {e : TypeId} {size n : Nat} {v : Value} {xs : List Value} {row : Option Nat} (h : w.ownsRow base e size v n xs) (hg : w.grownBy w' row) (hn : ∀ k, row = some k → v.ownBlock ≠ some k) : w'.ownsRow base e size v n xs :=
  ⟨h.1, h.2.imp id fun ⟨g, cap, cur, e1, e2, e3, e4⟩ => ⟨g, cap, cur, e1, e2, (hg.block g (Array.getElem?_eq_some_iff.1 e3).1 (fun e => hn g e.symm (by rw [e1]; rfl))).trans e3, e4⟩⟩

/-- a queue: the slice at place off of block l, with room up to cap -/
structure QL (w : World) (base l off n cap : Nat) (q : List Int) : Prop where
  len : q.length = n
  lo : base ≤ l
  hi : l < w.heap.size
  cell : ∀ j u, q[j]? = some u → w.cell? ⟨l, off + j, none⟩ = some (.int .i64 u)
  spare : ∀ j, n ≤ j → j < cap → (w.cell? ⟨l, off + j, none⟩).isSome = true
  frz : ∀ i, w.frozen? ⟨l, i, none⟩ = false
  cap : n ≤ cap ∧ cap ≤ maxLen
theorem QL.of_own {w : World} {base : Nat} {e : TypeId} {v : Value} {l : List Int} (h : w.ownsRow base e 1 v l.length (int1 l)) (hl : 0 < l.length) : ∃ g cap, v = .slice (some ⟨g, 0, none⟩) l.length cap ∧ QL w base g 0 l.length cap l := by
  have h0 := h
  rcases h.2 with ⟨rfl, hn⟩ | ⟨g, cap, cur, rfl, hb, hg, hc, hm, hs, ht⟩
  · omega
  · have hlt : g < w.heap.size := (Array.getElem?_eq_some_iff.1 hg).1
    refine ⟨g, cap, rfl, ⟨rfl, hb, hlt, fun j u hj => ?_, fun j _ hj => ?_, fun i => by simp [World.frozen?, hg], hc, hm⟩⟩
    · rw [Nat.zero_add]; exact (own_cell h0 hj).1
    · rw [Nat.zero_add]
      simp only [World.cell?, hg]
      simp [hs, hj]
theorem QL.below {w w' : World} {base l off n cap : Nat} {q : List Int} (h : QL w base l off n cap q) (hb : Below w.heap.size w w') : QL w' base l off n cap q :=
  ⟨h.len, h.lo, Nat.lt_of_lt_of_le h.hi hb.size, fun j u hj => (hb.cell (p := ⟨l, off + j, none⟩) h.hi).trans (h.cell j u hj), fun j h1 h2 => by rw [hb.cell (p := ⟨l, off + j, none⟩) h.hi]; exact h.spare j h1 h2, fun i => (hb.frozen (p := ⟨l, i, none⟩) h.hi).trans (h.frz i), h.cap⟩
theorem QL.set_ne {w : World} {base l off n cap : Nat} {q : List Int} (h : QL w base l off n cap q) {b : Nat} (hn : l ≠ b) (i : Nat) (u : Value) : QL (w.setCell ⟨b, i, none⟩ u) base l off n cap q := by
  have hb : (w.setCell ⟨b, i, none⟩ u).heap[l]? = w.heap[l]? := Below.heap_setCell w ⟨b, i, none⟩ u l hn
  exact ⟨h.len, h.lo, by rw [World.size_setCell]; exact h.hi, fun j u' hj => (World.cell?_of_block hb).trans (h.cell j u' hj), fun j h1 h2 => by rw [World.cell?_of_block hb]; exact h.spare j h1 h2, fun i' => (World.frozen?_of_block hb).trans (h.frz i'), h.cap⟩
theorem QL.pop {w : World} {base l off n cap : Nat} {x : Int} {q : List Int} (h : QL w base l off (n + 1) cap (x :: q)) : QL w base l (off + 1) n (cap - 1) q :=
  ⟨by have := h.len; simpa using this, h.lo, h.hi, fun j u hj => by rw [show off + 1 + j = off + (j + 1) by omega]; exact h.cell (j + 1) u (by simpa using hj), fun j h1 h2 => by rw [show off + 1 + j = off + (j + 1) by omega]; exact h.spare (j + 1) (by omega) (by omega), h.frz, by have := h.cap; omega⟩
theorem QL.push {w : World} {base l off n cap : Nat} {q : List Int} (h : QL w base l off n cap q) (hr : n < cap) (u : Int) : QL (w.setCell ⟨l, off + n, none⟩ (.int .i64 u)) base l off (n + 1) cap (q ++ [u]) := by
  have hsp := h.spare n (Nat.le_refl _) hr
  obtain ⟨old, hold⟩ := Option.isSome_iff_exists.1 hsp
  refine ⟨by rw [List.length_append, h.len]; rfl, h.lo, by rw [World.size_setCell]; exact h.hi, fun j u' hj => ?_, fun j h1 h2 => ?_, fun i => by rw [World.frozen?_setCell]; exact h.frz i, by have := h.cap; omega⟩
  · by_cases hjn : j = n
    · subst hjn
      rw [List.getElem?_append_right (by have := h.len; omega)] at hj
      have : u' = u := by have e := h.len; simp [e] at hj; exact hj.symm
      subst this
      exact World.cell?_setCell_same _ _ _ hold
    · have hlt : j < q.length := by have h1 := (List.getElem?_eq_some_iff.1 hj).1; simp at h1; have := h.len; omega
      rw [List.getElem?_append_left hlt] at hj
      exact (World.cell?_setCell_other w ⟨l, off + n, none⟩ ⟨l, off + j, none⟩ _ (fun e => by injection e with _ e2; omega)).trans (h.cell j u' hj)
  · rw [World.cell?_setCell_other w ⟨l, off + n, none⟩ ⟨l, off + j, none⟩ _ (fun e => by injection e with _ e2; omega)]
    exact h.spare j (by omega) h2

/-- append of one number to such a queue: the queue with it, in the same row or in a new one -/
theorem wpList_append_que {P : Program} (w : World) {ops : Array Oper} {rest : List Oper} {o : Oper} {a : Act} {Q : Exit → Act → World → Prop}
    (hg : o.guard = none) (s x : Operand) (t : TypeId) (hop : o.op = Op.call { callee := Callee.builtin Builtin.append, args := #[s, x], argTypes := #[t, t] })
    (e : TypeId) (i : TypeInfo) (h1 : P.underlying t = some (.slice e)) (h2 : P.info? e = some i) (h3 : i.zero = some (.int .i64 0)) (h4 : i.size = 1) (h5 : i.bytes = 8)
    (base l off n cap : Nat) (q : List Int) (hs : a.eval s = .slice (some ⟨l, off, none⟩) n cap) (hQ : QL w base l off n cap q) (ad : Addr) (c : Nat) (u : Int) (hx : a.eval x = .slice (some ad) 1 c) (hc : w.cell? ad = some (.int .i64 u))
    (hn : n ≤ 1000000000000) (hbase : base ≤ w.heap.size)
    (hK : ∀ l' off' cap' w', QL w' base l' off' (n + 1) cap' (q ++ [u]) → (l' = l ∨ w.heap.size ≤ l') → w.grownBy w' (some l) → wpList P ops Q rest (a.put o.dst (.slice (some ⟨l', off', none⟩) (n + 1) cap')) w') :
    wpList P ops Q (o :: rest) a w := by
  refine wpList_plain hg fun K hK' => ?_
  have hc' : ∀ j v, [Value.int .i64 u][j]? = some v → w.cell? (ad.add j) = some v := by
    intro j v hj
    match j, hj with
    | 0, hj => simp at hj; subst hj; simpa [Addr.add] using hc
    | j + 1, hj => simp at hj
  by_cases hr : n < cap
  · have hrun := run_append_room_cells (P := P) w t o.type e i h1 h2 l off n cap ad 1 c [.int .i64 u] (by rw [h4]; rfl) hc' (fun v hv => by rw [List.mem_singleton.1 hv]; rfl) (by omega)
      (fun j hj => by
        have : j = 0 := by simp at hj; exact hj
        subst this
        rw [h4, Nat.mul_one, Nat.add_zero]
        exact hQ.spare n (Nat.le_refl _) hr) (fun j _ => hQ.frz _)
    have hw : w.setCells l (off + n * i.size) [.int .i64 u] = w.setCell ⟨l, off + n, none⟩ (.int .i64 u) := by rw [h4, Nat.mul_one]; rfl
    rw [hw] at hrun
    unfold Oper.wp
    simp [execOp, hop, resolve, invoke, builtin, hs, hx, hrun, Result.andThen]
    exact hK' _ _ (hK l off cap _ (hQ.push hr u) (.inl rfl) ⟨rfl, rfl, rfl, by rw [World.size_setCell]; exact Nat.le_refl _, fun k _ hk => Below.heap_setCell w ⟨l, off + n, none⟩ _ k (fun e => hk (by rw [e]))⟩)
  · obtain ⟨v', w', hrun, r1, r2⟩ := run_append_arg_grows (P := P) w t o.type e i (.int .i64 0) 1 8 h1 h2 h3 h4 h5 rfl (by decide) ⟨l, off, none⟩ n cap (int1 q) (by rw [int1_len, hQ.len, Nat.mul_one]) (fun j v hj => by
        have hjl : j < q.length := by have := (List.getElem?_eq_some_iff.1 hj).1; rwa [int1_len] at this
        have hq := int1_at (List.getElem?_eq_getElem hjl)
        rw [hq] at hj
        obtain rfl := Option.some.inj hj
        have := hQ.cell j _ (List.getElem?_eq_getElem hjl)
        rw [Addr.add_lit]
        exact this) ad 1 c [.int .i64 u] rfl hc' (by omega) (by unfold maxLen; omega) (by omega)
    have r1' : w'.ownsRow w.heap.size e 1 v' (q ++ [u]).length (int1 (q ++ [u])) := by rw [List.length_append, hQ.len, int1_app]; exact r1
    obtain ⟨g, cap', rfl, hq'⟩ := QL.of_own r1' (by simp)
    have hlen : (q ++ [u]).length = n + 1 := by rw [List.length_append, hQ.len]; rfl
    rw [hlen] at hq' hrun
    unfold Oper.wp
    simp [execOp, hop, resolve, invoke, builtin, hs, hx, hrun, Result.andThen]
    exact hK' _ _ (hK g 0 cap' w' ⟨hq'.len, Nat.le_trans hbase hq'.lo, hq'.hi, hq'.cell, hq'.spare, hq'.frz, hq'.cap⟩ (.inr hq'.lo) ⟨r2.os, r2.tape, r2.output, r2.size, fun k hk _ => r2.block k hk (by simp)⟩)
end Go.Proofs.Ytapajkfnpkekdaa
