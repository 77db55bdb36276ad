/-
  The reference's edges of a system: 'parts' appends those of one constraint, 'edges' makes those of all.
-/
import Derived.Test.YtfaebmpdianniaaRGVld
import Derived.Test.YtfaebmpdianniaaGSolve
import Derived.Deep.RegionLaw
namespace Go.Proofs.Ytfaebmpdianniaa
open Go Go.RowKit

/-- the three cells of an edge of the reference -/
def enc3 (e : Edg) : List Value := [.int .i64 e.f, .int .i64 e.t, .int .i64 e.b]
def flat3 (l : List Edg) : List Value := l.flatMap enc3
theorem flat3_len (l : List Edg) : (flat3 l).length = l.length * 3 := by
  induction l with
  | nil => rfl
  | cons x r ih => show (enc3 x ++ flat3 r).length = _; rw [List.length_append, ih]; simp [enc3]; omega
theorem flat3_app (l r : List Edg) : flat3 (l ++ r) = flat3 l ++ flat3 r := by simp [flat3]
theorem flat3_one (x : Edg) : flat3 [x] = [.int .i64 x.f, .int .i64 x.t, .int .i64 x.b] := by simp [flat3, enc3]
theorem flat3_at {l : List Edg} : ∀ {j : Nat} {x : Edg}, l[j]? = some x → (flat3 l)[j * 3]? = some (.int .i64 x.f) ∧ (flat3 l)[j * 3 + 1]? = some (.int .i64 x.t) ∧ (flat3 l)[j * 3 + 2]? = some (.int .i64 x.b) := by
  induction l with
  | nil => intro j x h; simp at h
  | cons y r ih =>
    intro j x h
    have e : flat3 (y :: r) = .int .i64 y.f :: .int .i64 y.t :: .int .i64 y.b :: flat3 r := rfl
    rw [e]
    cases j with
    | zero => simp at h; subst h; exact ⟨rfl, rfl, rfl⟩
    | succ j =>
      have h' : r[j]? = some x := by simpa using h
      obtain ⟨i1, i2, i3⟩ := ih h'
      rw [show (j + 1) * 3 = j * 3 + 1 + 1 + 1 by omega]
      exact ⟨by simpa using i1, by simpa using i2, by simpa using i3⟩
/-- the slice value (A, n) reads as these edges of the reference -/
def RL (w : World) (B : Nat) (A : Option Addr) (n : Nat) (es : List Edg) : Prop :=
  es.length = n ∧ (0 < n → ∃ b off, A = some ⟨b, off, none⟩ ∧ b < B ∧ ∀ j e, es[j]? = some e → w.cell? ⟨b, off + j * 3, none⟩ = some (.int .i64 e.f) ∧ w.cell? ⟨b, off + j * 3 + 1, none⟩ = some (.int .i64 e.t) ∧ w.cell? ⟨b, off + j * 3 + 2, none⟩ = some (.int .i64 e.b))
theorem RL.at_ {w : World} {B n k : Nat} {A : Option Addr} {es : List Edg} (h : RL w B A n es) (hk : k < n) : ∃ b off e, A = some ⟨b, off, none⟩ ∧ b < B ∧ es[k]? = some e ∧ w.cell? ⟨b, off + k * 3, none⟩ = some (.int .i64 e.f) ∧ w.cell? ⟨b, off + k * 3 + 1, none⟩ = some (.int .i64 e.t) ∧ w.cell? ⟨b, off + k * 3 + 2, none⟩ = some (.int .i64 e.b) := by
  obtain ⟨b, off, e, hb, hc⟩ := h.2 (by omega)
  have hl : k < es.length := by have := h.1; omega
  exact ⟨b, off, es[k], e, hb, List.getElem?_eq_getElem hl, hc k _ (List.getElem?_eq_getElem hl)⟩
theorem RL.below {w w' : World} {B n : Nat} {A : Option Addr} {es : List Edg} (h : RL w B A n es) (hb : Below B w w') : RL w' B A n es :=
  ⟨h.1, fun hn => by
    obtain ⟨b, off, e, hlt, hc⟩ := h.2 hn
    refine ⟨b, off, e, hlt, fun j x hx => ?_⟩
    obtain ⟨h0, h1, h2⟩ := hc j x hx
    exact ⟨(hb.cell (p := ⟨b, _, none⟩) hlt).trans h0, (hb.cell (p := ⟨b, _, none⟩) hlt).trans h1, (hb.cell (p := ⟨b, _, none⟩) hlt).trans h2⟩⟩
theorem RL.more {w : World} {B B' n : Nat} {A : Option Addr} {es : List Edg} (h : RL w B A n es) (hB : B ≤ B') : RL w B' A n es :=
  ⟨h.1, fun hn => by
    obtain ⟨b, off, e, hb, hc⟩ := h.2 hn
    exact ⟨b, off, e, by omega, hc⟩⟩
theorem RL.of_own {w : World} {base : Nat} {e : TypeId} {v : Value} {es : List Edg} (h : w.ownsRow base e 3 v es.length (flat3 es)) :
    ∃ A c, v = .slice A es.length c ∧ es.length ≤ c ∧ c ≤ maxLen ∧ RL w w.heap.size A es.length es := by
  have h0 := h
  rcases h.2 with ⟨rfl, hn⟩ | ⟨g, cap, cur, rfl, hb, hg, hc, hm, hs, ht⟩
  · have : es = [] := List.eq_nil_of_length_eq_zero hn
    subst this
    exact ⟨none, 0, rfl, Nat.le_refl _, Nat.zero_le _, ⟨rfl, fun h => absurd h (by simp)⟩⟩
  · have hlt : g < w.heap.size := (Array.getElem?_eq_some_iff.1 hg).1
    refine ⟨_, cap, rfl, hc, hm, ⟨rfl, fun _ => ⟨g, 0, rfl, hlt, fun j x hx => ?_⟩⟩⟩
    obtain ⟨f1, f2, f3⟩ := flat3_at hx
    have hj : j < es.length := (List.getElem?_eq_some_iff.1 hx).1
    rw [Nat.zero_add]
    exact ⟨(h0.cellAt (j * 3) (by omega)).trans f1, (h0.cellAt (j * 3 + 1) (by omega)).trans f2, (h0.cellAt (j * 3 + 2) (by omega)).trans f3⟩
theorem infoR : (Try.prog.info? 75).map (fun i => (i.zero, i.size, i.bytes)) = some (some (.agg #[.int .i64 0, .int .i64 0, .int .i64 0]), 3, 24) := by kernel_rfl
theorem news3 {w : World} {f t b : Int} {ty : TypeId} {q : Nat} (hq : q = w.heap.size) : ∀ j u, [Value.int .i64 f, .int .i64 t, .int .i64 b][j]? = some u → (w.alloc (.cells #[.int .i64 f, .int .i64 t, .int .i64 b] ty)).cell? ((⟨q, 0, none⟩ : Addr).add j) = some u := by
  subst hq
  intro j u hj
  match j, hj with
  | 0, hj => simp at hj; subst hj; simp [Addr.add]
  | 1, hj => simp at hj; subst hj; simp [Addr.add]
  | 2, hj => simp at hj; subst hj; simp [Addr.add]
  | j + 3, hj => simp at hj
theorem news3_one {f t b : Int} : ∀ u ∈ [Value.int .i64 f, .int .i64 t, .int .i64 b], u.oneCell' = true := by
  intro u hu
  simp only [List.mem_cons, List.not_mem_nil, or_false] at hu
  rcases hu with rfl | rfl | rfl <;> rfl
theorem rtype_ne {w : World} {base : Nat} {e t : TypeId} {size n q : Nat} {v : Value} {xs : List Value} (h : w.ownsRow base e size v n xs) (hq : ∃ cs fr, w.heap[q]? = some (.cells cs t fr)) (ht : t ≠ e) : v.ownBlock ≠ some q := by
  rintro he
  obtain ⟨cs, fr, hq⟩ := hq
  rcases h.2 with ⟨rfl, _⟩ | ⟨g, cap, cur, rfl, _, hg, _⟩
  · simp [Value.ownBlock] at he
  · simp only [Value.ownBlock, Option.some.injEq] at he
    subst he
    rw [hg] at hq
    injection hq with hq
    injection hq with _ hq _
    exact ht hq.symm

theorem step_append_own {P : Program} {ops : Array Oper} {o : Oper} {a : Act} {w : World} {K : Act → World → Prop} {Q : Exit → Act → World → Prop} {E : Prop}
    (hg : o.guard = none) (s x : Operand) (t : TypeId) (hop : o.op = Op.call { callee := Callee.builtin Builtin.append, args := #[s, x], argTypes := #[t, t] })
    (base : Nat) (e : TypeId) (i : TypeInfo) (z : Value) (size bytes : Nat) (h1 : P.underlying t = some (.slice e)) (h2 : P.info? e = some i) (h3 : i.zero = some z) (h4 : i.size = size) (h5 : i.bytes = bytes) (h6 : z.cells.size = size) (h7 : 0 < size)
    (v : Value) (n : Nat) (xs : List Value) (hs : a.eval s = v) (hown : w.ownsRow base e size v n xs)
    (ad : Addr) (m c : Nat) (news : List Value) (hx : a.eval x = .slice (some ad) m c) (hn : news.length = m * size) (hc : ∀ j u, news[j]? = some u → w.cell? (ad.add j) = some u) (h1c : ∀ u ∈ news, u.oneCell' = true)
    (b1 : n + m ≤ maxLen) (b2 : (n + m) * bytes ≤ 140737488355328) (b3 : base ≤ w.heap.size)
    (hK : ∀ v' w', w'.ownsRow base e size v' (n + m) (xs ++ news) → w.grownBy w' v.ownBlock → K (a.put o.dst v') w') :
    if Region.wanted o (yielded ops a.tmps) = true then Oper.wp P o a w K Q else E := by
  have hw : Region.wanted o (yielded ops a.tmps) = true := by simp [Region.wanted, hg]
  rw [if_pos hw]
  obtain ⟨v', w', hrun, r1, r2, _⟩ := run_append_own (P := P) w base t o.type e i z size bytes h1 h2 h3 h4 h5 h6 h7 v n xs hown ad m c news hn hc h1c b1 b2 b3
  unfold Oper.wp
  simp [execOp, hop, resolve, invoke, builtin, hs, hx, hrun, Result.andThen]
  exact hK v' w' r1 r2

/-- the box of the constraint stands, and nothing below base has changed -/
structure PJ (base : Nat) (w wr : World) (x0 x1 x2 x3 : Value) : Prop where
  bel : Below base w wr
  box : wr.heap[w.heap.size]? = some (.cells #[x0, x1, x2, x3] 40)
theorem heap_new (w : World) (o : Obj) : (w.alloc o).heap[w.heap.size]? = some o := by
  show (w.heap.push o)[w.heap.size]? = some o
  simp
section
variable {base : Nat} {w wr w' : World} {x0 x1 x2 x3 : Value}
theorem PJ.size (h : PJ base w wr x0 x1 x2 x3) : w.heap.size < wr.heap.size := (Array.getElem?_eq_some_iff.1 h.box).1
theorem PJ.cells (h : PJ base w wr x0 x1 x2 x3) : wr.cell? ⟨w.heap.size, 0, none⟩ = some x0 ∧ wr.cell? ⟨w.heap.size, 1, none⟩ = some x1 ∧ wr.cell? ⟨w.heap.size, 2, none⟩ = some x2 ∧ wr.cell? ⟨w.heap.size, 3, none⟩ = some x3 := by
  have hb := h.box
  exact ⟨by simp [World.cell?, hb], by simp [World.cell?, hb], by simp [World.cell?, hb], by simp [World.cell?, hb]⟩
theorem PJ.below (h : PJ base w wr x0 x1 x2 x3) (hb : Below wr.heap.size wr w') (hB : base ≤ w.heap.size) : PJ base w w' x0 x1 x2 x3 :=
  ⟨h.bel.trans (hb.mono (Nat.le_trans hB (Nat.le_of_lt h.size))), (hb.block _ h.size).trans h.box⟩
theorem PJ.start (hB : base ≤ w.heap.size) : PJ base w (w.alloc (.cells #[x0, x1, x2, x3] 40)) x0 x1 x2 x3 :=
  ⟨(Below.refl _ w).alloc hB _, heap_new w _⟩
theorem PJ.grown {row : Option Nat} (h : PJ base w wr x0 x1 x2 x3) (hg : wr.grownBy w' row) (hB : base ≤ w.heap.size) (hr : ∀ k, row = some k → base ≤ k) (hn : row ≠ some w.heap.size) : PJ base w w' x0 x1 x2 x3 :=
  ⟨h.bel.grown hg (Nat.le_trans hB (Nat.le_of_lt h.size)) hr, (hg.block _ h.size (fun e => hn e.symm)).trans h.box⟩
end

set_option maxRecDepth 100000 in
set_option maxHeartbeats 4000000 in
theorem parts_any (n : Nat) (c : LCn) (A1 : Option Addr) (n1 c1 : Nat) (A2 : Option Addr) (n2 c2 : Nat) (base : Nat) (Al : Option Addr) (nl cl : Nat) (q : List Edg) (w : World) (p1 : PL w base A1 n1 c.1.2) (p2 : PL w base A2 n2 c.2.2) (hc : Con n c)
    (hB : base ≤ w.heap.size) (hq : w.ownsRow base 75 3 (.slice Al nl cl) q.length (flat3 q)) (hql : q.length ≤ 100000) :
    Calls Try.prog 49 #[.int .i64 n, .agg #[.int .i64 c.1.1, .slice A1 n1 c1, .int .i64 c.2.1, .slice A2 n2 c2], .slice Al nl cl] w fun e w' => ∃ v, e = .returned v ∧ w'.ownsRow base 75 3 v (q ++ edgC n c 0).length (flat3 (q ++ edgC n c 0)) ∧ Below base w w' := by
  obtain ⟨i0, hi, hz0, hz1, hz2⟩ := info_parts infoR
  obtain ⟨t0, t1, t2⟩ := hc.to
  have hl1 : c.1.2.length = n1 := p1.1
  have hl2 : c.2.2.length = n2 := p2.1
  have ha0 := hc.a0
  have ha1 := Lib.hid hc.a1
  have hal := hc.al
  have HJ : PJ base w (w.alloc (.cells #[.int .i64 c.1.1, .slice A1 n1 c1, .int .i64 c.2.1, .slice A2 n2 c2] 40)) (.int .i64 c.1.1) (.slice A1 n1 c1) (.int .i64 c.2.1) (.slice A2 n2 c2) := PJ.start hB
  have HQ : (w.alloc (.cells #[.int .i64 c.1.1, .slice A1 n1 c1, .int .i64 c.2.1, .slice A2 n2 c2] 40)).ownsRow base 75 3 (.slice Al nl cl) q.length (flat3 q) := own_below hq ((Below.refl _ _).alloc (Nat.le_refl _) _)
  go_enter Try.func49, Try.ntmps49
  go_wp2_with fail
  go_quiet (fail)
  have HJ0 := HJ.below (below_drewN (Below.refl _ _) nq) hB
  have HQ0 := own_below HQ (below_drewN (Below.refl _ _) nq)
  generalize (w.alloc (.cells #[.int .i64 c.1.1, .slice A1 n1 c1, .int .i64 c.2.1, .slice A2 n2 c2] 40)).drewN nq = W0 at HJ0 HQ0 ⊢
  clear HJ HQ
  have HE : Hid (edgC n c 0 = ⟨n, toC n c, c.1.1 - lessC c, 0⟩ :: c.1.2.map fun x => ⟨x.1.toNat, toC n c, x.2 - lessC c, 0⟩) := rfl
  obtain ⟨ms, hms⟩ : ∃ ms, (c.1.2.map fun x => (⟨x.1.toNat, toC n c, x.2 - lessC c, 0⟩ : Edg)) = ms := ⟨_, rfl⟩
  rw [hms] at HE
  have Hms : Hid (ms = c.1.2.map fun x => (⟨x.1.toNat, toC n c, x.2 - lessC c, 0⟩ : Edg)) := hms.symm
  have hmsl : ms.length = n1 := by rw [← hms, List.length_map]; exact hl1
  have hbw : base ≤ W0.heap.size := by have := HJ0.size; omega
  clear hms hq
  obtain ⟨g0, g1, g2, g3⟩ := HJ0.cells
  go_upto_if 18 with fail
  go_cut [7, 8] (fun a b wx => a = .int .i64 (toC n c : Nat) ∧ b = .int .i64 (lessC c) ∧ PJ base w wx (.int .i64 c.1.1) (.slice A1 n1 c1) (.int .i64 c.2.1) (.slice A2 n2 c2) ∧ wx.ownsRow base 75 3 (.slice Al nl cl) q.length (flat3 q))
  case first =>
    rcases hc.b1 with hb | ⟨bx, hb, hb0, ⟨hx0, hx1⟩, hx2, hx3⟩
    · have Ht : Hid (toC n c = n) := by rw [Hid]; unfold toC; rw [hb]
      have Hs : Hid (lessC c = c.2.1) := by rw [Hid]; unfold lessC; rw [hb]
      have hn2 : n2 = 0 := by rw [← hl2, hb]; rfl
      have hn2i : ((n2 : Int) == 1) = false := by rw [hn2]; rfl
      clear hb hn2 hl2
      go_wp2_with fail
      go_meet
      exact ⟨by rw [Ht.out], by rw [Hs.out], HJ0, HQ0⟩
    · have Ht : Hid (toC n c = bx.1.toNat) := by rw [Hid]; unfold toC; rw [hb]
      have Hs : Hid (lessC c = bx.2) := by rw [Hid]; unfold lessC; rw [hb]
      have hn2 : n2 = 1 := by rw [← hl2, hb]; rfl
      have hn2i : ((n2 : Int) == 1) = true := by rw [hn2]; rfl
      have hbn : ((bx.1.toNat : Nat) : Int) = bx.1 := by omega
      obtain ⟨bb, ob, xb, rfl, hbb, hxb, k0, k1⟩ := (p2.below HJ0.bel).at_ (show 0 < n2 by omega)
      rw [hb] at hxb
      obtain rfl : bx = xb := by simpa using hxb
      have k0' : W0.cell? ⟨bb, ob, none⟩ = some (.int .i64 bx.1) := by simpa using k0
      have k1' : W0.cell? ⟨bb, ob + 1, none⟩ = some (.int .i64 bx.2) := by simpa using k1
      have hn2p : (0 : Int) < (n2 : Int) := by omega
      have hn2q : 0 < n2 := by omega
      clear hb hn2 hl2 hxb k0 k1 hb0
      go_wp2_with fail
      go_quiet (fail)
      have HJ1 := HJ0.below (below_drewN (Below.refl _ _) nq) hB
      have HQ1 := own_below HQ0 (below_drewN (Below.refl _ _) nq)
      generalize W0.drewN nq = W1 at HJ1 HQ1 ⊢
      go_wp2_with fail
      go_meet
      exact ⟨by rw [Ht.out, hbn], by rw [Hs.out], HJ1, HQ1⟩
  case rest =>
    obtain ⟨rfl, rfl, HJ1, HQ1⟩ := hcut
    clear HJ0 HQ0 hbw g0 g1 g2 g3 W0
    generalize hto : toC n c = tt at t0 HE Hms ⊢
    generalize hls : lessC c = ls at t1 t2 HE Hms ⊢
    clear hto hls p2 hl2
    obtain ⟨g0, g1, g2, g3⟩ := HJ1.cells
    have hsz := HJ1.size
    have hbw : base ≤ wc.heap.size := by omega
    have hownX : ∀ W, Below wc.heap.size wc W → W.ownsRow base 75 3 (.slice Al nl cl) q.length (flat3 q) := fun W hW => own_below HQ1 hW
    go_wp2_with (at_builtin; refine wpList_append_own _ rfl _ _ 72 rfl base 75 i0 (.agg #[.int .i64 0, .int .i64 0, .int .i64 0]) 3 24 Try.underlying72 hi hz0 hz1 hz2 rfl (by decide) (.slice Al nl cl) q.length (flat3 q) rfl (hownX _ ((Below.refl _ wc).alloc (Nat.le_refl _) _)) _ 1 1 [.int .i64 n, .int .i64 tt, .int .i64 (c.1.1 - ls)] rfl rfl (news3 rfl) news3_one (by unfold maxLen; omega) (by omega) (by simp; omega) ?_)
    intro v5 w5 hown5 hgrow _
    have hJa : PJ base w (wc.alloc (.cells #[.int .i64 n, .int .i64 tt, .int .i64 (c.1.1 - ls)] 75)) (.int .i64 c.1.1) (.slice A1 n1 c1) (.int .i64 c.2.1) (.slice A2 n2 c2) := HJ1.below ((Below.refl _ _).alloc (Nat.le_refl _) _) hB
    have hJ5 := hJa.grown hgrow hB (fun j hj => (HQ1.lt j hj).1) (rtype_ne HQ1 ⟨_, _, HJ1.box⟩ (by decide))
    have hown6 : w5.ownsRow base 75 3 v5 (q ++ [(⟨n, tt, c.1.1 - ls, 0⟩ : Edg)]).length (flat3 (q ++ [(⟨n, tt, c.1.1 - ls, 0⟩ : Edg)])) := by
      rw [List.length_append, flat3_app, flat3_one]
      exact hown5
    have Hall : Hid (q ++ edgC n c 0 = (q ++ [(⟨n, tt, c.1.1 - ls, 0⟩ : Edg)]) ++ ms) := by rw [Hid, HE.out]; simp
    have hql2 : (q ++ [(⟨n, tt, c.1.1 - ls, 0⟩ : Edg)]).length ≤ 100001 := by simp; omega
    generalize q ++ [(⟨n, tt, c.1.1 - ls, 0⟩ : Edg)] = q2 at hown6 Hall hql2
    clear hown5 hgrow hownX hJa HJ1 HQ1 g0 g1 g2 g3 hsz hbw
    obtain ⟨A5, c5, rfl, _, _, _⟩ := RL.of_own hown6
    go_wp2_with fail
    go_loopw [2, 9] (fun v i wr => ∃ j : Nat, j ≤ n1 ∧ i = .int .i64 j ∧ ∃ (A' : Option Addr) (n' c' : Nat), v = .slice A' n' c' ∧ wr.ownsRow base 75 3 (.slice A' n' c') (q2 ++ ms.take j).length (flat3 (q2 ++ ms.take j)) ∧ PJ base w wr (.int .i64 c.1.1) (.slice A1 n1 c1) (.int .i64 c.2.1) (.slice A2 n2 c2)) (fun _ i _ => n1 - (intOf i).toNat)
    case atStart => exact ⟨0, Nat.zero_le _, rfl, _, _, _, rfl, by simpa using hown6, hJ5⟩
    case round =>
      obtain ⟨j, hj, rfl, A', n', c', rfl, hown, hbr⟩ := hrel
      obtain ⟨g0, g1, g2, g3⟩ := hbr.cells
      have hszr := hbr.size
      have hbwr : base ≤ wr.heap.size := by omega
      by_cases hlt : j < n1
      · obtain ⟨b, off, x, rfl, hbl, hx, h0, h1⟩ := (p1.below hbr.bel).at_ hlt
        obtain ⟨⟨x0, x1⟩, x2, x3⟩ := ha1.out x (List.mem_of_getElem? hx)
        have hmx : ms[j]? = some ⟨x.1.toNat, tt, x.2 - ls, 0⟩ := by rw [Hms.out, List.getElem?_map, hx]; rfl
        have hxn : ((x.1.toNat : Nat) : Int) = x.1 := by omega
        have Hst : Hid (ms.take (j + 1) = ms.take j ++ [⟨x.1.toNat, tt, x.2 - ls, 0⟩]) := take_snoc hmx
        have hml : (ms.take j).length ≤ 8 := by rw [List.length_take]; omega
        generalize ms.take j = mj at hown Hst hml
        generalize hq : q2 ++ mj = q at hown
        have hql : q.length ≤ 100009 := by rw [← hq]; simp; omega
        have Hq := Lib.hid hq
        have Hnew : Hid (q2 ++ (mj ++ [⟨x.1.toNat, tt, x.2 - ls, 0⟩]) = q ++ [⟨x.1.toNat, tt, x.2 - ls, 0⟩]) := by rw [Hid, ← hq]; simp
        have Hxn := Lib.hid hxn
        clear hq hx hmx hxn
        have hbn : b < wr.heap.size := by omega
        have hsub : IntKind.i64.wrap (x.2 - ls) = x.2 - ls := by rw [IntKind.wrap_i64]; omega
        go_wp2_with fail
        go_region_law (refine step_append_own rfl (.tmp 50) (.tmp 69) 72 rfl base 75 i0 (.agg #[.int .i64 0, .int .i64 0, .int .i64 0]) 3 24 Try.underlying72 hi hz0 hz1 hz2 rfl (by decide) (.slice A' n' c') q.length (flat3 q) rfl (by first | exact hown.drew.alloc _ | exact (hown.alloc _).drew | exact hown.alloc _) ⟨wr.heap.size, 0, none⟩ 1 1 [.int .i64 x.1, .int .i64 tt, .int .i64 (x.2 - ls)] rfl rfl (news3 (by simp)) news3_one (by unfold maxLen; omega) (by omega) (by simp; omega) ?_; intro v' w5 hown5 hgrow)
        all_goals
          have hJa : PJ base w (wr.drew.alloc (.cells #[.int .i64 x.1, .int .i64 tt, .int .i64 (x.2 - ls)] 75)) (.int .i64 c.1.1) (.slice (some ⟨b, off, none⟩) n1 c1) (.int .i64 c.2.1) (.slice A2 n2 c2) := hbr.below ((Below.refl _ wr).drew.alloc (by simp) _) hB
          have hne5 : (Value.slice A' n' c').ownBlock ≠ some w.heap.size := rtype_ne (t := 40) hown ⟨_, _, hbr.box⟩ (by decide)
          have hJ5 := hJa.grown hgrow hB (fun j hj => (hown.lt j hj).1) hne5
          have hown6 : w5.ownsRow base 75 3 v' (q2 ++ (mj ++ [(⟨x.1.toNat, tt, x.2 - ls, 0⟩ : Edg)])).length (flat3 (q2 ++ (mj ++ [(⟨x.1.toNat, tt, x.2 - ls, 0⟩ : Edg)]))) := by
            rw [Hnew.out, List.length_append, flat3_app, flat3_one]
            show w5.ownsRow _ _ 3 v' (q.length + 1) (flat3 q ++ [.int .i64 ((x.1.toNat : Nat) : Int), _, _])
            rw [Hxn.out]
            exact hown5
          obtain ⟨A7, n7, c7, rfl⟩ : ∃ A n c, v' = Value.slice A n c := by
            obtain ⟨A, c, h, _⟩ := RL.of_own hown6
            exact ⟨_, _, _, h⟩
          go_wp2_with fail
          go_roundw
          case rel => exact ⟨j + 1, by omega, by go_num, A7, n7, c7, rfl, by rw [Hst.out]; exact hown6, hJ5⟩
          case measure => simp [intOf]; omega
      · have hfull : ms.take j = ms := List.take_of_length_le (by omega)
        rw [hfull] at hown
        clear hfull
        go_wp2_with fail
        go_ret
        exact ⟨_, rfl, by rw [Hall.out]; exact hown, hbr.bel⟩

/-- the edges of the reference: none below zero, then those of the constraints -/
def rEk (n : Nat) (cs : List LCn) (j : Nat) : List Edg := ((List.range n).map fun u => (⟨n, u, 0, 0⟩ : Edg)) ++ (cs.take j).flatMap fun c => edgC n c 0
def rE (n : Nat) (cs : List LCn) : List Edg := rEk n cs cs.length
theorem rEk_succ {n j : Nat} {cs : List LCn} {c : LCn} (h : cs[j]? = some c) : rEk n cs (j + 1) = rEk n cs j ++ edgC n c 0 := by
  unfold rEk
  rw [take_snoc h, List.flatMap_append, List.append_assoc]
  simp
theorem rEk_len {n : Nat} {cs : List LCn} (hcs : ∀ c ∈ cs, Con n c) : ∀ j, (rEk n cs j).length ≤ n + 9 * j := by
  intro j
  induction j with
  | zero => simp [rEk]
  | succ j ih =>
    by_cases hj : j < cs.length
    · rw [rEk_succ (List.getElem?_eq_getElem hj), List.length_append]
      have h1 := (hcs _ (List.getElem_mem hj)).al
      have h2 : (edgC n cs[j] 0).length ≤ 9 := by unfold edgC; simp; omega
      omega
    · have : rEk n cs (j + 1) = rEk n cs j := by
        unfold rEk
        rw [List.take_of_length_le (by omega), List.take_of_length_le (by omega)]
      rw [this]; omega
theorem edgC_h {n k m : Nat} {c : LCn} {y : Nat → Int} (h : ∀ e ∈ edgC n c k, hol y e) : ∀ e ∈ edgC n c m, hol y e := by
  intro e he
  rcases List.mem_cons.1 he with rfl | he
  · have h1 := h ⟨n, toC n c, c.1.1 - lessC c, k⟩ (List.mem_cons_self ..)
    exact h1
  · obtain ⟨x, hx, rfl⟩ := List.mem_map.1 he
    have h1 := h ⟨x.1.toNat, toC n c, x.2 - lessC c, k⟩ (List.mem_cons_of_mem _ (List.mem_map.2 ⟨x, hx, rfl⟩))
    exact h1
theorem edgC_k {n k : Nat} {c : LCn} {y : Nat → Int} : (∀ e ∈ edgC n c k, hol y e) ↔ ∀ e ∈ edgC n c 0, hol y e := ⟨edgC_h, edgC_h⟩
/-- both programs' edges say the same -/
theorem rE_iff {n : Nat} {cs : List LCn} {y : Nat → Int} : (∀ e ∈ rE n cs, hol y e) ↔ Sat (fun e => e ∈ esA n cs) y := by
  constructor
  · intro h e he
    rcases List.mem_append.1 he with he | he
    · obtain ⟨i, hi, h1⟩ := esC_mem.1 he
      cases hc : cs[i]? with
      | none => exact absurd (List.getElem?_eq_none_iff.1 hc) (by omega)
      | some c =>
        rw [foC_at hc] at h1
        refine (edgC_k (k := i)).2 (fun e he => h e ?_) e h1
        refine List.mem_append_right _ (List.mem_flatMap.2 ⟨c, ?_, he⟩)
        rw [List.take_length]
        exact List.mem_of_getElem? hc
    · obtain ⟨u, hu, rfl⟩ := List.mem_map.1 he
      have := h ⟨n, u, 0, 0⟩ (List.mem_append_left _ (List.mem_map.2 ⟨u, hu, rfl⟩))
      exact this
  · intro h e he
    rcases List.mem_append.1 he with he | he
    · obtain ⟨u, hu, rfl⟩ := List.mem_map.1 he
      exact h ⟨n, u, 0, cs.length⟩ (List.mem_append_right _ (List.mem_map.2 ⟨u, hu, rfl⟩))
    · obtain ⟨c, hc, he⟩ := List.mem_flatMap.1 he
      rw [List.take_length] at hc
      obtain ⟨i, hi, rfl⟩ := List.getElem_of_mem hc
      refine (edgC_k (k := i)).1 (fun e he => h e (List.mem_append_left _ (esC_mem.2 ⟨i, hi, ?_⟩))) e he
      rw [foC_at (List.getElem?_eq_getElem hi)]
      exact he
theorem rE_ok {n : Nat} {cs : List LCn} (hcs : ∀ c ∈ cs, Con n c) {e : Edg} (he : e ∈ rE n cs) : e.f < n + 1 ∧ e.t < n + 1 ∧ -1000 ≤ e.b ∧ e.b ≤ 1000 := by
  rcases List.mem_append.1 he with he | he
  · obtain ⟨u, hu, rfl⟩ := List.mem_map.1 he
    have := List.mem_range.1 hu
    exact ⟨by show n < n + 1; omega, by show u < n + 1; omega, by show (-1000 : Int) ≤ 0; omega, by show (0 : Int) ≤ 1000; omega⟩
  · obtain ⟨c, hc, he⟩ := List.mem_flatMap.1 he
    obtain ⟨h1, h2, h3, h4, _⟩ := (hcs c (List.mem_of_mem_take hc)).ok e he
    exact ⟨h1, h2, h3, h4⟩

set_option maxRecDepth 100000 in
set_option maxHeartbeats 4000000 in
theorem redges_any (n : Nat) (A : Option Addr) (K cap : Nat) (cs : List LCn) (w : World) (h : CL w w.heap.size A K cs) (hcs : ∀ c ∈ cs, Con n c) (hn : n ≤ 1200) (hK : K ≤ 3000) :
    Calls Try.prog 30 #[.int .i64 n, .slice A K cap] w fun e w' => ∃ v, e = .returned v ∧ w'.ownsRow w.heap.size 75 3 v (rE n cs).length (flat3 (rE n cs)) ∧ Below w.heap.size w w' := by
  obtain ⟨i0, hi, hz0, hz1, hz2⟩ := info_parts infoR
  have Hcs := Lib.hid hcs
  have hl := Lib.hid h.1
  clear hcs
  obtain ⟨zs, hzs⟩ : ∃ zs, ((List.range n).map fun u => (⟨n, u, 0, 0⟩ : Edg)) = zs := ⟨_, rfl⟩
  have hzl : zs.length = n := by rw [← hzs]; simp
  have Hz : Hid (∀ j, j < n → zs[j]? = some ⟨n, j, 0, 0⟩) := by
    intro j hj
    rw [← hzs]
    simp [hj]
  have Hzs := Lib.hid hzs
  have Hzl := Lib.hid hzl
  clear hzs hzl
  go_enter Try.func30, Try.ntmps30
  go_wp2_with fail
  go_loopw [5, 6] (fun v i wr => ∃ j : Nat, j ≤ n ∧ i = .int .i64 j ∧ ∃ (A' : Option Addr) (n' c' : Nat), v = .slice A' n' c' ∧ wr.ownsRow w.heap.size 75 3 (.slice A' n' c') (zs.take j).length (flat3 (zs.take j)) ∧ Below w.heap.size w wr) (fun _ i _ => n - (intOf i).toNat)
  case atStart => exact ⟨0, Nat.zero_le _, rfl, none, 0, 0, rfl, World.ownsRow_nil _ _ _ _, Below.refl _ _⟩
  case round =>
    obtain ⟨j, hj, rfl, A', n', c', rfl, hown, hbr⟩ := hrel
    have hszr := hbr.size
    by_cases hlt : j < n
    · have Hst : Hid (zs.take (j + 1) = zs.take j ++ [⟨n, j, 0, 0⟩]) := take_snoc (Hz.out j hlt)
      have hql : (zs.take j).length ≤ 1200 := by rw [List.length_take]; omega
      generalize zs.take j = q at hown Hst hql
      have hownX : ∀ W, Below wr.heap.size wr W → W.ownsRow w.heap.size 75 3 (.slice A' n' c') q.length (flat3 q) := fun W hW => own_below hown hW
      go_wp2_with (at_builtin; refine wpList_append_own _ rfl _ _ 72 rfl w.heap.size 75 i0 (.agg #[.int .i64 0, .int .i64 0, .int .i64 0]) 3 24 Try.underlying72 hi hz0 hz1 hz2 rfl (by decide) (.slice A' n' c') q.length (flat3 q) rfl (hownX _ ((Below.refl _ wr).alloc (Nat.le_refl _) _)) _ 1 1 [.int .i64 n, .int .i64 j, .int .i64 0] rfl rfl (news3 rfl) news3_one (by unfold maxLen; omega) (by omega) (by simp; omega) ?_)
      intro v5 w5 hown5 hgrow _
      have hown6 : w5.ownsRow w.heap.size 75 3 v5 (q ++ [(⟨n, j, 0, 0⟩ : Edg)]).length (flat3 (q ++ [(⟨n, j, 0, 0⟩ : Edg)])) := by
        rw [List.length_append, flat3_app, flat3_one]
        exact hown5
      have hb5 : Below w.heap.size w w5 := (hbr.alloc hszr _).grown hgrow (by simp; omega) (fun j hj => (hown.lt j hj).1)
      clear hown5 hgrow hown hownX
      obtain ⟨A7, n7, c7, rfl⟩ : ∃ A n c, v5 = Value.slice A n c := by
        obtain ⟨A, c, h, _⟩ := RL.of_own hown6
        exact ⟨_, _, _, h⟩
      go_wp2_with fail
      go_roundw
      case rel => exact ⟨j + 1, by omega, by go_num, A7, n7, c7, rfl, by rw [Hst.out]; exact hown6, hb5⟩
      case measure => simp [intOf]; omega
    · have hfull : zs.take j = zs := List.take_of_length_le (by rw [Hzl.out]; omega)
      rw [hfull] at hown
      have hown0 : wr.ownsRow w.heap.size 75 3 (.slice A' n' c') (rEk n cs 0).length (flat3 (rEk n cs 0)) := by
        have : rEk n cs 0 = zs := by unfold rEk; rw [Hzs.out]; simp
        rw [this]; exact hown
      clear hfull hown
      have hbr0 := hbr
      clear hbr hszr
      go_wp2_with fail
      go_loopw [5, 7] (fun v i wx => ∃ j : Nat, j ≤ K ∧ i = .int .i64 j ∧ ∃ (A' : Option Addr) (n' c' : Nat), v = .slice A' n' c' ∧ wx.ownsRow w.heap.size 75 3 (.slice A' n' c') (rEk n cs j).length (flat3 (rEk n cs j)) ∧ Below w.heap.size w wx) (fun _ i _ => K - (intOf i).toNat)
      case atStart => exact ⟨0, Nat.zero_le _, rfl, A', n', c', rfl, hown0, hbr0⟩
      case round =>
        clear hown0 hbr0
        obtain ⟨k, hk, rfl, A', n', c', rfl, hown, hbr⟩ := hrel
        by_cases hltk : k < K
        · obtain ⟨b, off, c, A1, n1, c1, A2, n2, c2, rfl, hbl, hc, z0, z1, z2, z3, p1, p2, q1, r1, q2, r2⟩ := (h.below hbr).at_ hltk
          have Hst : Hid (rEk n cs (k + 1) = rEk n cs k ++ edgC n c 0) := rEk_succ hc
          have hlen := rEk_len Hcs.out k
          have hP := Lib.hid (parts_any n c A1 n1 c1 A2 n2 c2 w.heap.size A' n' c' (rEk n cs k) wr p1 p2 (Hcs.out c (List.mem_of_getElem? hc)) hbr.size hown (by omega))
          clear hc p1 p2 hlen
          go_wp2_with fail
          refine hP.out.mono ?_
          rintro e w1 ⟨v, rfl, hown1, hb1⟩
          rw [← Hst.out] at hown1
          obtain ⟨A7, n7, c7, rfl⟩ : ∃ A n c, v = Value.slice A n c := by
            obtain ⟨A, c, h, _⟩ := RL.of_own hown1
            exact ⟨_, _, _, h⟩
          go_wp2_with fail
          go_roundw
          case rel => exact ⟨k + 1, by omega, by go_num, A7, n7, c7, rfl, hown1, hbr.trans hb1⟩
          case measure => simp [intOf]; omega
        · have hkK : k = K := by omega
          have Hend : Hid (rEk n cs k = rE n cs) := by rw [Hid, hkK, ← hl.out]; rfl
          clear hkK
          rw [Hend.out] at hown
          go_wp2_with fail
          go_ret
          exact ⟨_, rfl, hown, hbr⟩
end Go.Proofs.Ytfaebmpdianniaa
