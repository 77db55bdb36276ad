/-
  The reference's edges of a system: 'parts' appends those of one constraint, 'edges' makes those of all.
-/
import Derived.Test.YtapajkfnpkekdaaRGVld
import Derived.Test.YtapajkfnpkekdaaGSolve
import Derived.Deep.RegionLaw
namespace Go.Proofs.Ytapajkfnpkekdaa
open Go Go.RowKit

/-- the three cells of an edge of the reference -/
def enc3 (e : Edg) : List Value := [.int .i64 e.f, .int .i64 e.t, .int .i64 e.b]
def flat3 (l : List Edg) : List Value := l.flatMap enc3
theorem flat3_len (l : List Edg) : (flat3 l).length = l.length * 3 := by
  induction l with
  | nil => rfl
  | cons x r ih => show (enc3 x ++ flat3 r).length = _; rw [List.length_append, ih]; simp [enc3]; omega
theorem flat3_app (l r : List Edg) : flat3 (l ++ r) = flat3 l ++ flat3 r := by simp [flat3]
theorem flat3_one (x : Edg) : flat3 [x] = [.int .i64 x.f, .int .i64 x.t, .int .i64 x.b] := by simp [flat3, enc3]
theorem flat3_at {l : List Edg} : ∀ {j : Nat} {x : Edg}, l[j]? = some x → (flat3 l)[j * 3]? = some (.int .i64 x.f) ∧ (flat3 l)[j * 3 + 1]? = some (.int .i64 x.t) ∧ (flat3 l)[j * 3 + 2]? = some (.int .i64 x.b) := by
  induction l with
  | nil => intro j x h; simp at h
  | cons y r ih =>
    intro j x h
    have e : flat3 (y :: r) = .int .i64 y.f :: .int .i64 y.t :: .int .i64 y.b :: flat3 r := rfl
    rw [e]
    cases j with
    | zero => simp at h; subst h; exact ⟨rfl, rfl, rfl⟩
    | succ j =>
      have h' : r[j]? = some x := by simpa using h
      obtain ⟨i1, i2, i3⟩ := ih h'
      rw [show (j + 1) * 3 = j * 3 + 1 + 1 + 1 by omega]
      exact ⟨by simpa using i1, by simpa using i2, by simpa using i3⟩
/-- the slice value (A, n) reads as these edges of the reference -/
def RL (w : World) (B : Nat) (A : Option Addr) (n : Nat) (es : List Edg) : Prop :=
  es.length = n ∧ (0 < n → ∃ b off, A = some ⟨b, off, none⟩ ∧ b < B ∧ ∀ j e, es[j]? = some e → w.cell? ⟨b, off + j * 3, none⟩ = some (.int .i64 e.f) ∧ w.cell? ⟨b, off + j * 3 + 1, none⟩ = some (.int .i64 e.t) ∧ w.cell? ⟨b, off + j * 3 + 2, none⟩ = some (.int .i64 e.b))
theorem RL.at_ {w : World} {B n k : Nat} {A : Option Addr} {es : List Edg} (h : RL w B A n es) (hk : k < n) : ∃ b off e, A = some ⟨b, off, none⟩ ∧ b < B ∧ es[k]? = some e ∧ w.cell? ⟨b, off + k * 3, none⟩ = some (.int .i64 e.f) ∧ w.cell? ⟨b, off + k * 3 + 1, none⟩ = some (.int .i64 e.t) ∧ w.cell? ⟨b, off + k * 3 + 2, none⟩ = some (.int .i64 e.b) := by
  obtain ⟨b, off, e, hb, hc⟩ := h.2 (by omega)
  have hl : k < es.length := by have := h.1; omega
  exact ⟨b, off, es[k], e, hb, List.getElem?_eq_getElem hl, hc k _ (List.getElem?_eq_getElem hl)⟩
theorem RL.below {w w' : World} {B n : Nat} {A : Option Addr} {es : List Edg} (h : RL w B A n es) (hb : Below B w w') : RL w' B A n es :=
  ⟨h.1, fun hn => by
    obtain ⟨b, off, e, hlt, hc⟩ := h.2 hn
    refine ⟨b, off, e, hlt, fun j x hx => ?_⟩
    obtain ⟨h0, h1, h2⟩ := hc j x hx
    exact ⟨(hb.cell (p := ⟨b, _, none⟩) hlt).trans h0, (hb.cell (p := ⟨b, _, none⟩) hlt).trans h1, (hb.cell (p := ⟨b, _, none⟩) hlt).trans h2⟩⟩
theorem RL.more {w : World} {B B' n : Nat} {A : Option Addr} {es : List Edg} (h : RL w B A n es) (hB : B ≤ B') : RL w B' A n es :=
  ⟨h.1, fun hn => by
    obtain ⟨b, off, e, hb, hc⟩ := h.2 hn
    exact ⟨b, off, e, by omega, hc⟩⟩
theorem RL.of_own {w : World} {base : Nat} {e : TypeId} {v : Value} {es : List Edg} (h : w.ownsRow base e 3 v es.length (flat3 es)) :
    ∃ A c, v = .slice A es.length c ∧ es.length ≤ c ∧ c ≤ maxLen ∧ RL w w.heap.size A es.length es := by
  have h0 := h
  rcases h.2 with ⟨rfl, hn⟩ | ⟨g, cap, cur, rfl, hb, hg, hc, hm, hs, ht⟩
  · have : es = [] := List.eq_nil_of_length_eq_zero hn
    subst this
    exact ⟨none, 0, rfl, Nat.le_refl _, Nat.zero_le _, ⟨rfl, fun h => absurd h (by simp)⟩⟩
  · have hlt : g < w.heap.size := (Array.getElem?_eq_some_iff.1 hg).1
    refine ⟨_, cap, rfl, hc, hm, ⟨rfl, fun _ => ⟨g, 0, rfl, hlt, fun j x hx => ?_⟩⟩⟩
    obtain ⟨f1, f2, f3⟩ := flat3_at hx
    have hj : j < es.length := (List.getElem?_eq_some_iff.1 hx).1
    rw [Nat.zero_add]
    exact ⟨(h0.cellAt (j * 3) (by omega)).trans f1, (h0.cellAt (j * 3 + 1) (by omega)).trans f2, (h0.cellAt (j * 3 + 2) (by omega)).trans f3⟩
theorem news3 {w : World} {f t b : Int} {ty : TypeId} {q : Nat} (hq : q = w.heap.size) : ∀ j u, [Value.int .i64 f, .int .i64 t, .int .i64 b][j]? = some u → (w.alloc (.cells #[.int .i64 f, .int .i64 t, .int .i64 b] ty)).cell? ((⟨q, 0, none⟩ : Addr).add j) = some u := by
  subst hq
  intro j u hj
  match j, hj with
  | 0, hj => simp at hj; subst hj; simp [Addr.add]
  | 1, hj => simp at hj; subst hj; simp [Addr.add]
  | 2, hj => simp at hj; subst hj; simp [Addr.add]
  | j + 3, hj => simp at hj
theorem news3_one {f t b : Int} : ∀ u ∈ [Value.int .i64 f, .int .i64 t, .int .i64 b], u.oneCell' = true := by
  intro u hu
  simp only [List.mem_cons, List.not_mem_nil, or_false] at hu
  rcases hu with rfl | rfl | rfl <;> rfl
theorem rtype_ne {w : World} {base : Nat} {e t : TypeId} {size n q : Nat} {v : Value} {xs : List Value} (h : w.ownsRow base e size v n xs) (hq : ∃ cs fr, w.heap[q]? = some (.cells cs t fr)) (ht : t ≠ e) : v.ownBlock ≠ some q := by
  rintro he
  obtain ⟨cs, fr, hq⟩ := hq
  rcases h.2 with ⟨rfl, _⟩ | ⟨g, cap, cur, rfl, _, hg, _⟩
  · simp [Value.ownBlock] at he
  · simp only [Value.ownBlock, Option.some.injEq] at he
    subst he
    rw [hg] at hq
    injection hq with hq
    injection hq with _ hq _
    exact ht hq.symm

theorem step_append_own {P : Program} {ops : Array Oper} {o : Oper} {a : Act} {w : World} {K : Act → World → Prop} {Q : Exit → Act → World → Prop} {E : Prop}
    (hg : o.guard = none) (s x : Operand) (t : TypeId) (hop : o.op = Op.call { callee := Callee.builtin Builtin.append, args := #[s, x], argTypes := #[t, t] })
    (base : Nat) (e : TypeId) (i : TypeInfo) (z : Value) (size bytes : Nat) (h1 : P.underlying t = some (.slice e)) (h2 : P.info? e = some i) (h3 : i.zero = some z) (h4 : i.size = size) (h5 : i.bytes = bytes) (h6 : z.cells.size = size) (h7 : 0 < size)
    (v : Value) (n : Nat) (xs : List Value) (hs : a.eval s = v) (hown : w.ownsRow base e size v n xs)
    (ad : Addr) (m c : Nat) (news : List Value) (hx : a.eval x = .slice (some ad) m c) (hn : news.length = m * size) (hc : ∀ j u, news[j]? = some u → w.cell? (ad.add j) = some u) (h1c : ∀ u ∈ news, u.oneCell' = true)
    (b1 : n + m ≤ maxLen) (b2 : (n + m) * bytes ≤ 140737488355328) (b3 : base ≤ w.heap.size)
    (hK : ∀ v' w', w'.ownsRow base e size v' (n + m) (xs ++ news) → w.grownBy w' v.ownBlock → K (a.put o.dst v') w') :
    if Region.wanted o (yielded ops a.tmps) = true then Oper.wp P o a w K Q else E := by
  have hw : Region.wanted o (yielded ops a.tmps) = true := by simp [Region.wanted, hg]
  rw [if_pos hw]
  obtain ⟨v', w', hrun, r1, r2, _⟩ := run_append_own (P := P) w base t o.type e i z size bytes h1 h2 h3 h4 h5 h6 h7 v n xs hown ad m c news hn hc h1c b1 b2 b3
  unfold Oper.wp
  simp [execOp, hop, resolve, invoke, builtin, hs, hx, hrun, Result.andThen]
  exact hK v' w' r1 r2

/-- the box of the constraint stands, and nothing below base has changed -/
structure PJ (base : Nat) (w wr : World) (x0 x1 x2 x3 : Value) : Prop where
  bel : Below base w wr
  box : wr.heap[w.heap.size]? = some (.cells #[x0, x1, x2, x3] 32)
theorem heap_new (w : World) (o : Obj) : (w.alloc o).heap[w.heap.size]? = some o := by
  show (w.heap.push o)[w.heap.size]? = some o
  simp
section
variable {base : Nat} {w wr w' : World} {x0 x1 x2 x3 : Value}
theorem PJ.size (h : PJ base w wr x0 x1 x2 x3) : w.heap.size < wr.heap.size := (Array.getElem?_eq_some_iff.1 h.box).1
theorem PJ.cells (h : PJ base w wr x0 x1 x2 x3) : wr.cell? ⟨w.heap.size, 0, none⟩ = some x0 ∧ wr.cell? ⟨w.heap.size, 1, none⟩ = some x1 ∧ wr.cell? ⟨w.heap.size, 2, none⟩ = some x2 ∧ wr.cell? ⟨w.heap.size, 3, none⟩ = some x3 := by
  have hb := h.box
  exact ⟨by simp [World.cell?, hb], by simp [World.cell?, hb], by simp [World.cell?, hb], by simp [World.cell?, hb]⟩
theorem PJ.below (h : PJ base w wr x0 x1 x2 x3) (hb : Below wr.heap.size wr w') (hB : base ≤ w.heap.size) : PJ base w w' x0 x1 x2 x3 :=
  ⟨h.bel.trans (hb.mono (Nat.le_trans hB (Nat.le_of_lt h.size))), (hb.block _ h.size).trans h.box⟩
theorem PJ.start (hB : base ≤ w.heap.size) : PJ base w (w.alloc (.cells #[x0, x1, x2, x3] 32)) x0 x1 x2 x3 :=
  ⟨(Below.refl _ w).alloc hB _, heap_new w _⟩
theorem PJ.grown {row : Option Nat} (h : PJ base w wr x0 x1 x2 x3) (hg : wr.grownBy w' row) (hB : base ≤ w.heap.size) (hr : ∀ k, row = some k → base ≤ k) (hn : row ≠ some w.heap.size) : PJ base w w' x0 x1 x2 x3 :=
  ⟨h.bel.grown hg (Nat.le_trans hB (Nat.le_of_lt h.size)) hr, (hg.block _ h.size (fun e => hn e.symm)).trans h.box⟩
end

/-- the edges of the reference: none below zero, then those of the constraints -/
def rEk (n : Nat) (cs : List LCn) (j : Nat) : List Edg := ((List.range n).map fun u => (⟨n, u, 0, 0⟩ : Edg)) ++ (cs.take j).flatMap fun c => edgC n c 0
def rE (n : Nat) (cs : List LCn) : List Edg := rEk n cs cs.length
theorem rEk_succ {n j : Nat} {cs : List LCn} {c : LCn} (h : cs[j]? = some c) : rEk n cs (j + 1) = rEk n cs j ++ edgC n c 0 := by
  unfold rEk
  rw [take_snoc h, List.flatMap_append, List.append_assoc]
  simp
theorem rEk_len {n : Nat} {cs : List LCn} (hcs : ∀ c ∈ cs, Con n c) : ∀ j, (rEk n cs j).length ≤ n + 9 * j := by
  intro j
  induction j with
  | zero => simp [rEk]
  | succ j ih =>
    by_cases hj : j < cs.length
    · rw [rEk_succ (List.getElem?_eq_getElem hj), List.length_append]
      have h1 := (hcs _ (List.getElem_mem hj)).al
      have h2 : (edgC n cs[j] 0).length ≤ 9 := by unfold edgC; simp; omega
      omega
    · have : rEk n cs (j + 1) = rEk n cs j := by
        unfold rEk
        rw [List.take_of_length_le (by omega), List.take_of_length_le (by omega)]
      rw [this]; omega
theorem edgC_h {n k m : Nat} {c : LCn} {y : Nat → Int} (h : ∀ e ∈ edgC n c k, hol y e) : ∀ e ∈ edgC n c m, hol y e := by
  intro e he
  rcases List.mem_cons.1 he with rfl | he
  · have h1 := h ⟨n, toC n c, c.1.1 - lessC c, k⟩ (List.mem_cons_self ..)
    exact h1
  · obtain ⟨x, hx, rfl⟩ := List.mem_map.1 he
    have h1 := h ⟨x.1.toNat, toC n c, x.2 - lessC c, k⟩ (List.mem_cons_of_mem _ (List.mem_map.2 ⟨x, hx, rfl⟩))
    exact h1
theorem edgC_k {n k : Nat} {c : LCn} {y : Nat → Int} : (∀ e ∈ edgC n c k, hol y e) ↔ ∀ e ∈ edgC n c 0, hol y e := ⟨edgC_h, edgC_h⟩
/-- both programs' edges say the same -/
theorem rE_iff {n : Nat} {cs : List LCn} {y : Nat → Int} : (∀ e ∈ rE n cs, hol y e) ↔ Sat (fun e => e ∈ esA n cs) y := by
  constructor
  · intro h e he
    rcases List.mem_append.1 he with he | he
    · obtain ⟨i, hi, h1⟩ := esC_mem.1 he
      cases hc : cs[i]? with
      | none => exact absurd (List.getElem?_eq_none_iff.1 hc) (by omega)
      | some c =>
        rw [foC_at hc] at h1
        refine (edgC_k (k := i)).2 (fun e he => h e ?_) e h1
        refine List.mem_append_right _ (List.mem_flatMap.2 ⟨c, ?_, he⟩)
        rw [List.take_length]
        exact List.mem_of_getElem? hc
    · obtain ⟨u, hu, rfl⟩ := List.mem_map.1 he
      have := h ⟨n, u, 0, 0⟩ (List.mem_append_left _ (List.mem_map.2 ⟨u, hu, rfl⟩))
      exact this
  · intro h e he
    rcases List.mem_append.1 he with he | he
    · obtain ⟨u, hu, rfl⟩ := List.mem_map.1 he
      exact h ⟨n, u, 0, cs.length⟩ (List.mem_append_right _ (List.mem_map.2 ⟨u, hu, rfl⟩))
    · obtain ⟨c, hc, he⟩ := List.mem_flatMap.1 he
      rw [List.take_length] at hc
      obtain ⟨i, hi, rfl⟩ := List.getElem_of_mem hc
      refine (edgC_k (k := i)).1 (fun e he => h e (List.mem_append_left _ (esC_mem.2 ⟨i, hi, ?_⟩))) e he
      rw [foC_at (List.getElem?_eq_getElem hi)]
      exact he
theorem rE_ok {n : Nat} {cs : List LCn} (hcs : ∀ c ∈ cs, Con n c) {e : Edg} (he : e ∈ rE n cs) : e.f < n + 1 ∧ e.t < n + 1 ∧ -1000 ≤ e.b ∧ e.b ≤ 1000 := by
  rcases List.mem_append.1 he with he | he
  · obtain ⟨u, hu, rfl⟩ := List.mem_map.1 he
    have := List.mem_range.1 hu
    exact ⟨by show n < n + 1; omega, by show u < n + 1; omega, by show (-1000 : Int) ≤ 0; omega, by show (0 : Int) ≤ 1000; omega⟩
  · obtain ⟨c, hc, he⟩ := List.mem_flatMap.1 he
    obtain ⟨h1, h2, h3, h4, _⟩ := (hcs c (List.mem_of_mem_take hc)).ok e he
    exact ⟨h1, h2, h3, h4⟩

end Go.Proofs.Ytapajkfnpkekdaa
