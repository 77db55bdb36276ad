/-
  'CopyLevel' of tenetref00, with the row that it makes told as one's own; the constraints with their variables numbered from the other end ('turned').
-/
import Derived.Test.YtkbhmkngipdkiaaGJoinM
import Derived.Test.YtkbhmkngipdkiaaGChainW
import Derived.Test.YtkbhmkngipdkiaaOwn
import Derived.Deep.RegionLaw
namespace Go.Proofs.Ytkbhmkngipdkiaa
open Go Go.RowKit Go.Sort Go.Shelf

theorem infoV : (Try.prog.info? 90).map (fun i => (i.zero, i.size, i.bytes)) = some (some (.agg #[.int .i64 0, .int .i64 0]), 2, 16) := by kernel_rfl
theorem cell_alloc {w : World} {a : Addr} {v : Value} (o : Obj) (h : w.cell? a = some v) : (w.alloc o).cell? a = some v := (World.cell?_alloc_lt w o a (World.block_lt_of_cell? w a h)).trans h
theorem newV {w : World} {x : Int × Int} {t : TypeId} {k : Nat} (hk : k = w.heap.size) : ∀ j u, [Value.int .i64 x.1, Value.int .i64 x.2][j]? = some u → (w.alloc (.cells #[.int .i64 x.1, .int .i64 x.2] t)).cell? ((⟨k, 0, none⟩ : Addr).add j) = some u := by
  subst hk
  intro j u h
  match j, h with
  | 0, h => simp at h; subst h; simp [Addr.add]
  | 1, h => simp at h; subst h; simp [Addr.add]
  | j + 2, h => simp at h

theorem newV_one {x : Int × Int} : ∀ u ∈ [Value.int .i64 x.1, Value.int .i64 x.2], u.oneCell' = true := by
  intro u hu
  simp only [List.mem_cons, List.not_mem_nil, or_false] at hu
  rcases hu with rfl | rfl <;> rfl

theorem step_append_own_t {P : Program} {ops : Array Oper} {o : Oper} {a : Act} {w : World} {K : Act → World → Prop} {Q : Exit → Act → World → Prop} {E : Prop}
    (hg : o.guard = none) (s x : Operand) (t : TypeId) (hop : o.op = Op.call { callee := Callee.builtin Builtin.append, args := #[s, x], argTypes := #[t, t] })
    (base : Nat) (e : TypeId) (i : TypeInfo) (z : Value) (size bytes : Nat) (h1 : P.underlying t = some (.slice e)) (h2 : P.info? e = some i) (h3 : i.zero = some z) (h4 : i.size = size) (h5 : i.bytes = bytes) (h6 : z.cells.size = size) (h7 : 0 < size)
    (v : Value) (n : Nat) (xs : List Value) (hs : a.eval s = v) (hown : w.ownsRow base e size v n xs)
    (ad : Addr) (m c : Nat) (news : List Value) (hx : a.eval x = .slice (some ad) m c) (hn : news.length = m * size) (hc : ∀ j u, news[j]? = some u → w.cell? (ad.add j) = some u) (h1c : ∀ u ∈ news, u.oneCell' = true)
    (b1 : n + m ≤ maxLen) (b2 : (n + m) * bytes ≤ 140737488355328) (b3 : base ≤ w.heap.size)
    (hK : ∀ v' w', w'.ownsRow base e size v' (n + m) (xs ++ news) → w.grownBy w' v.ownBlock → K (a.put o.dst v') w') :
    if Region.wanted o (yielded ops a.tmps) = true then Oper.wp P o a w K Q else E := by
  have hw : Region.wanted o (yielded ops a.tmps) = true := by simp [Region.wanted, hg]
  rw [if_pos hw]
  obtain ⟨v', w', hrun, r1, r2, _⟩ := run_append_own (P := P) w base t o.type e i z size bytes h1 h2 h3 h4 h5 h6 h7 v n xs hown ad m c news hn hc h1c b1 b2 b3
  unfold Oper.wp
  simp [execOp, hop, resolve, invoke, builtin, hs, hx, hrun, Result.andThen]
  exact hK v' w' r1 r2

/-- the three boxes of a copy, and the list that it has made -/
structure CB (w wr : World) (c : Int) (A : Option Addr) (n cap : Nat) (v : Value) (q : List (Int × Int)) : Prop where
  bel : Go.RowKit.Below w.heap.size w wr
  size : w.heap.size + 3 ≤ wr.heap.size
  a1 : wr.cell? ⟨w.heap.size, 1, none⟩ = some (.slice A n cap)
  r0 : wr.cell? ⟨w.heap.size + 1, 0, none⟩ = some (.int .i64 0)
  r1 : wr.cell? ⟨w.heap.size + 1, 1, none⟩ = some (.slice none 0 0)
  r2 : wr.frozen? ⟨w.heap.size + 1, 0, none⟩ = false
  r3 : wr.frozen? ⟨w.heap.size + 1, 1, none⟩ = false
  s0 : wr.cell? ⟨w.heap.size + 1 + 1, 0, none⟩ = some (.int .i64 c)
  s1 : wr.cell? ⟨w.heap.size + 1 + 1, 1, none⟩ = some v
  s3 : wr.frozen? ⟨w.heap.size + 1 + 1, 1, none⟩ = false
  own : wr.ownsRow (w.heap.size + 3) 90 2 v q.length (flat2 q)
theorem new_cells (X : World) (c : Int) (t : TypeId) {k : Nat} (hk : k = X.heap.size) : (X.alloc (.cells #[.int .i64 c, .slice none 0 0] t)).cell? ⟨k, 0, none⟩ = some (.int .i64 c) ∧ (X.alloc (.cells #[.int .i64 c, .slice none 0 0] t)).cell? ⟨k, 1, none⟩ = some (.slice none 0 0) ∧ (X.alloc (.cells #[.int .i64 c, .slice none 0 0] t)).frozen? ⟨k, 1, none⟩ = false := by
  subst hk
  exact ⟨by simp, by simp, by simp⟩
theorem CB.start (w : World) (c : Int) (A : Option Addr) (n cap : Nat) : CB w (((w.alloc (.cells #[.int .i64 c, .slice A n cap] 43)).alloc (.cells #[.int .i64 0, .slice none 0 0] 43)).alloc (.cells #[.int .i64 c, .slice none 0 0] 43)) c A n cap (.slice none 0 0) [] := by
  have e : ((w.alloc (.cells #[.int .i64 c, .slice A n cap] 43)).alloc (.cells #[.int .i64 0, .slice none 0 0] 43)).heap.size = w.heap.size + 1 + 1 := by simp
  refine ⟨((((Go.RowKit.Below.refl _ w).alloc (Nat.le_refl _) _).alloc (by simp) _).alloc (by simp; omega) _), by simp, ?_, ?_, ?_, ?_, ?_, ?_, ?_, ?_, World.ownsRow_nil _ _ _ _⟩
  · exact cell_alloc _ (cell_alloc _ (by simp))
  · exact cell_alloc _ (by simp)
  · exact cell_alloc _ (by simp)
  · rw [World.frozen?_alloc_old _ _ _ (by simp)]; simp
  · rw [World.frozen?_alloc_old _ _ _ (by simp)]; simp
  · exact (new_cells _ c _ e.symm).1
  · exact (new_cells _ c _ e.symm).2.1
  · exact (new_cells _ c _ e.symm).2.2
theorem CB.go {w wr w5 : World} {c : Int} {A : Option Addr} {n cap : Nat} {v v' : Value} {q q' : List (Int × Int)} (h : CB w wr c A n cap v q) (hb : Go.RowKit.Below (w.heap.size + 3) wr w5) (ho : w5.ownsRow (w.heap.size + 3) 90 2 v' q'.length (flat2 q')) :
    CB w (w5.setCell ⟨w.heap.size + 1 + 1, 1, none⟩ v') c A n cap v' q' := by
  have c1 := (hb.cell (p := ⟨w.heap.size, 1, none⟩) (show w.heap.size < _ by omega)).trans h.a1
  have d0 := (hb.cell (p := ⟨w.heap.size + 1, 0, none⟩) (show w.heap.size + 1 < _ by omega)).trans h.r0
  have d1 := (hb.cell (p := ⟨w.heap.size + 1, 1, none⟩) (show w.heap.size + 1 < _ by omega)).trans h.r1
  have d2 := (hb.frozen (p := ⟨w.heap.size + 1, 0, none⟩) (show w.heap.size + 1 < _ by omega)).trans h.r2
  have d3 := (hb.frozen (p := ⟨w.heap.size + 1, 1, none⟩) (show w.heap.size + 1 < _ by omega)).trans h.r3
  have e0 := (hb.cell (p := ⟨w.heap.size + 1 + 1, 0, none⟩) (show w.heap.size + 1 + 1 < _ by omega)).trans h.s0
  have e1 := (hb.cell (p := ⟨w.heap.size + 1 + 1, 1, none⟩) (show w.heap.size + 1 + 1 < _ by omega)).trans h.s1
  have e3 := (hb.frozen (p := ⟨w.heap.size + 1 + 1, 1, none⟩) (show w.heap.size + 1 + 1 < _ by omega)).trans h.s3
  have hsz : (w5.setCell ⟨w.heap.size + 1 + 1, 1, none⟩ v').heap.size = w5.heap.size := by simp
  exact ⟨(h.bel.trans (hb.mono (by omega))).setCell (by show w.heap.size ≤ w.heap.size + 1 + 1; omega) _, by rw [hsz]; have := hb.size; have := h.size; omega, keep_set (by omega) c1, keep_set (by omega) d0, keep_set (by omega) d1, by rw [World.frozen?_setCell]; exact d2, by rw [World.frozen?_setCell]; exact d3,
    keep_off (by decide) e0, World.cell?_setCell_same _ _ _ e1, by rw [World.frozen?_setCell]; exact e3, ownsRow_setCell_below ho (by show w.heap.size + 1 + 1 < _; omega) _⟩

set_option maxRecDepth 100000 in
set_option maxHeartbeats 4000000 in
theorem copyO_any (c : Int) (A : Option Addr) (n cap : Nat) (l : List (Int × Int)) (w : World) (h : PL w w.heap.size A n l) (hn : n ≤ 1000000) :
    Calls Try.prog 54 #[.agg #[.int .i64 c, .slice A n cap]] w fun e w' => ∃ A' c', e = .returned (.agg #[.int .i64 c, .slice A' n c']) ∧ w'.ownsRow w.heap.size 90 2 (.slice A' n c') n (flat2 l) ∧ Go.RowKit.Below w.heap.size w w' := by
  obtain ⟨i0, hi, hz0, hz1, hz2⟩ := info_parts infoV
  go_enter Try.func54, Try.ntmps54
  go_wp2_with fail
  go_loopw [4] (fun i wr => ∃ k : Nat, k ≤ n ∧ i = .int .i64 k ∧ ∃ v, CB w wr c A n cap v (l.take k)) (fun i _ => n - (intOf i).toNat)
  case atStart => exact ⟨0, Nat.zero_le _, rfl, _, CB.start w c A n cap⟩
  case round =>
    obtain ⟨k, hk, rfl, v, hcb⟩ := hrel
    have a1 := hcb.a1
    by_cases hlt : k < n
    · obtain ⟨b, off, x, rfl, hbl, hx, hx0, hx1⟩ := (h.below hcb.bel).at_ hlt
      have Hst : Hid (l.take (k + 1) = l.take k ++ [x]) := take_snoc hx
      have hql : (l.take k).length ≤ 1000000 := by rw [List.length_take]; omega
      generalize l.take k = q at hcb Hst hql
      have s1 := hcb.s1
      have s3 := hcb.s3
      have hsz := hcb.size
      have hne : w.heap.size + 1 + 1 ≠ wr.heap.size := by omega
      have hne' : w.heap.size + 1 + 1 < wr.heap.size := by omega
      have hown := hcb.own
      go_wp2_with fail
      go_region_law (refine step_append_own_t rfl (.tmp 16) (.tmp 22) 41 rfl (w.heap.size + 3) 90 i0 (.agg #[.int .i64 0, .int .i64 0]) 2 16 Try.underlying41 hi hz0 hz1 hz2 rfl (by decide) v q.length (flat2 q) (by simp [Act.eval]) (by first | exact hown.drew.alloc _ | exact (hown.alloc _).drew | exact hown.alloc _) ⟨wr.heap.size, 0, none⟩ 1 1 [.int .i64 x.1, .int .i64 x.2] (by simp [Act.eval]) rfl (newV (x := x) (by simp)) (newV_one (x := x)) (by unfold maxLen; omega) (by omega) (by simp; omega) ?_; intro v' w5 hown5 hgrow; have hown6 : w5.ownsRow (w.heap.size + 3) 90 2 v' (q ++ [x]).length (flat2 (q ++ [x])) := (by rw [List.length_append, flat2_app, flat2_one]; exact hown5); have hb5 : Go.RowKit.Below (w.heap.size + 3) wr w5 := ((Go.RowKit.Below.refl _ wr).drew.alloc (by simpa using hsz) _).grown hgrow (by simp; omega) (fun j hj => (hown.lt j hj).1); clear hown5 hgrow; obtain ⟨A5, c5, rfl, hl5, hm5, hp5, ho5⟩ := PL.of_own hown6; have y1 := (hb5.cell (p := ⟨w.heap.size + 1 + 1, 1, none⟩) (show w.heap.size + 1 + 1 < _ by omega)).trans s1; have y3 := (hb5.frozen (p := ⟨w.heap.size + 1 + 1, 1, none⟩) (show w.heap.size + 1 + 1 < _ by omega)).trans s3)
      all_goals
        have hgo := hcb.go hb5 hown6
        rw [show (q ++ [x]).length = q.length + 1 by simp] at hgo
        clear y1 y3 s1 s3
        go_wp2_with fail
        go_roundw
        case rel => exact ⟨k + 1, by omega, by go_num, _, by rw [Hst.out]; exact hgo⟩
        case measure => simp [intOf]; omega
    · have hfull : l.take k = l := List.take_of_length_le (by have := h.1; omega)
      rw [hfull] at hcb
      clear hfull
      obtain ⟨A3, c3, rfl, hl3, hm3, hp3, ho3⟩ := PL.of_own hcb.own
      have s0 := hcb.s0
      have s1 := hcb.s1
      have r0 := hcb.r0
      have r1 := hcb.r1
      have r2 := hcb.r2
      have r3 := hcb.r3
      have e0 := World.cell?_setCell_same wr ⟨w.heap.size + 1, 0, none⟩ (.int .i64 c) hcb.r0
      have e1 := World.cell?_setCell_same (wr.setCell ⟨w.heap.size + 1, 0, none⟩ (.int .i64 c)) ⟨w.heap.size + 1, 1, none⟩ (.slice A3 l.length c3) (keep_off (by decide) hcb.r1)
      go_wp2_with fail
      refine bodyPost_ret (v := .agg #[.int .i64 c, .slice A3 l.length c3]) (by simp [results, Try.results54, go_sem, e0, e1]) rfl ?_
      have hln : l.length = n := h.1
      have hown9 := own_lower hcb.own (show w.heap.size ≤ w.heap.size + 3 by omega)
      have hown8 := ownsRow_setCell_below hcb.own (a := ⟨w.heap.size + 1, 0, none⟩) (show w.heap.size + 1 < _ by omega) (.int .i64 c)
      have hown7 := ownsRow_setCell_below hown8 (a := ⟨w.heap.size + 1, 1, none⟩) (show w.heap.size + 1 < _ by omega) (.slice A3 l.length c3)
      refine ⟨A3, c3, by rw [hln], ?_, (hcb.bel.setCell (by show w.heap.size ≤ w.heap.size + 1; omega) _).setCell (by show w.heap.size ≤ w.heap.size + 1; omega) _⟩
      rw [← hln]
      exact own_lower hown7 (by omega)

/-- constraints as cells, each with two rows of its own -/
def TV (w : World) (xs : List Value) (cs : List LCn) : Prop :=
  xs.length = cs.length * 4 ∧ ∀ i c, cs[i]? = some c → ∃ v1 v2, xs[i * 4]? = some (.int .i64 c.1.1) ∧ xs[i * 4 + 1]? = some v1 ∧ xs[i * 4 + 2]? = some (.int .i64 c.2.1) ∧ xs[i * 4 + 3]? = some v2 ∧ w.ownsRow 0 90 2 v1 c.1.2.length (flat2 c.1.2) ∧ w.ownsRow 0 90 2 v2 c.2.2.length (flat2 c.2.2)
theorem TV.nil (w : World) : TV w [] [] := ⟨rfl, fun i c h => by simp at h⟩
theorem TV.below {w w' : World} {xs : List Value} {cs : List LCn} (h : TV w xs cs) (hb : Below w.heap.size w w') : TV w' xs cs :=
  ⟨h.1, fun i c hc => by
    obtain ⟨v1, v2, h0, h1, h2, h3, h4, h5⟩ := h.2 i c hc
    exact ⟨v1, v2, h0, h1, h2, h3, own_below h4 hb, own_below h5 hb⟩⟩
theorem row_kept {w w' : World} {base base' m n : Nat} {v u : Value} {ys xs : List Value} (hown : w.ownsRow base 46 4 v m ys) (hg : w.grownBy w' v.ownBlock) (h : w.ownsRow base' 90 2 u n xs) : w'.ownsRow base' 90 2 u n xs :=
  own_grown h hg fun k hk he => by
    rcases h.2 with ⟨rfl, _⟩ | ⟨g, cap, cur, rfl, _, hg', _⟩
    · simp [Value.ownBlock] at he
    · simp only [Value.ownBlock, Option.some.injEq] at he
      subst he
      exact own_type_ne' hown ⟨_, _, hg'⟩ (by decide) hk
theorem TV.grown {w w' : World} {base m : Nat} {v : Value} {ys xs : List Value} {cs : List LCn} (h : TV w xs cs) (hown : w.ownsRow base 46 4 v m ys) (hg : w.grownBy w' v.ownBlock) : TV w' xs cs :=
  ⟨h.1, fun i c hc => by
    obtain ⟨v1, v2, h0, h1, h2, h3, h4, h5⟩ := h.2 i c hc
    exact ⟨v1, v2, h0, h1, h2, h3, row_kept hown hg h4, row_kept hown hg h5⟩⟩
theorem lvok_own {w : World} {v : Value} {l : List (Int × Int)} (h : w.ownsRow 0 90 2 v l.length (flat2 l)) : LvOk w w.heap.size v l := by
  obtain ⟨A, c, rfl, h1, h2, h3, _⟩ := PL.of_own h
  exact ⟨A, _, c, rfl, h3, h1, by unfold maxLen at h2; omega⟩
theorem TV.cv {w : World} {xs : List Value} {cs : List LCn} (h : TV w xs cs) : CV w w.heap.size xs cs := by
  refine ⟨h.1, fun i c hc => ?_⟩
  obtain ⟨v1, v2, h0, h1, h2, h3, h4, h5⟩ := h.2 i c hc
  exact ⟨v1, v2, h0, h1, h2, h3, lvok_own h4, lvok_own h5⟩
theorem TV.snoc {w : World} {xs : List Value} {cs : List LCn} {c : LCn} {v1 v2 : Value} (h : TV w xs cs) (h4 : w.ownsRow 0 90 2 v1 c.1.2.length (flat2 c.1.2)) (h5 : w.ownsRow 0 90 2 v2 c.2.2.length (flat2 c.2.2)) :
    TV w (xs ++ [.int .i64 c.1.1, v1, .int .i64 c.2.1, v2]) (cs ++ [c]) := by
  refine ⟨by simp [h.1]; omega, fun i d hd => ?_⟩
  have hl := h.1
  by_cases hi : i < cs.length
  · rw [List.getElem?_append_left hi] at hd
    obtain ⟨u1, u2, g0, g1, g2, g3, g4, g5⟩ := h.2 i d hd
    exact ⟨u1, u2, by rw [List.getElem?_append_left (by omega)]; exact g0, by rw [List.getElem?_append_left (by omega)]; exact g1, by rw [List.getElem?_append_left (by omega)]; exact g2, by rw [List.getElem?_append_left (by omega)]; exact g3, g4, g5⟩
  · have hi2 : i = cs.length := by
      have := (List.getElem?_eq_some_iff.1 hd).1
      simp at this
      omega
    subst hi2
    simp at hd
    subst hd
    refine ⟨v1, v2, ?_, ?_, ?_, ?_, h4, h5⟩
    · rw [List.getElem?_append_right (by omega), show cs.length * 4 - xs.length = 0 by omega]; rfl
    · rw [List.getElem?_append_right (by omega), show cs.length * 4 + 1 - xs.length = 1 by omega]; rfl
    · rw [List.getElem?_append_right (by omega), show cs.length * 4 + 2 - xs.length = 2 by omega]; rfl
    · rw [List.getElem?_append_right (by omega), show cs.length * 4 + 3 - xs.length = 3 by omega]; rfl
/-- a store into one part of a row of parts -/
theorem own_part {w : World} {base g n cap k : Nat} {l : List (Int × Int)} {x : Int × Int} (h : w.ownsRow base 90 2 (.slice (some ⟨g, 0, none⟩) n cap) n (flat2 l)) (hx : l[k]? = some x) (z : Int) :
    w.cell? ⟨g, k * 2, none⟩ = some (.int .i64 x.1) ∧ w.frozen? ⟨g, k * 2, none⟩ = false ∧ (w.setCell ⟨g, k * 2, none⟩ (.int .i64 z)).ownsRow base 90 2 (.slice (some ⟨g, 0, none⟩) n cap) n (flat2 (l.set k (z, x.2))) := by
  have hk : k < l.length := (List.getElem?_eq_some_iff.1 hx).1
  have hl : (flat2 l).length = n * 2 := h.1
  rw [flat2_len] at hl
  refine ⟨(h.cellAt (k * 2) (by omega)).trans (flat2_at hx).1, h.frozenAt _, ?_⟩
  have h1 := (h.stored (k * 2) (.int .i64 z)).1
  have e : (flat2 l).set (k * 2) (.int .i64 z) = flat2 (l.set k (z, x.2)) := by
    clear h h1 hl
    induction l generalizing k with
    | nil => simp at hk
    | cons y l ih =>
      cases k with
      | zero => simp at hx; subst hx; rfl
      | succ k =>
        have h2 := ih (k := k) (by simpa using hx) (by simpa using hk)
        show (Value.int .i64 y.1 :: Value.int .i64 y.2 :: flat2 l).set ((k + 1) * 2) _ = Value.int .i64 y.1 :: Value.int .i64 y.2 :: flat2 (l.set k (z, x.2))
        rw [show (k + 1) * 2 = k * 2 + 1 + 1 by omega, List.set_cons_succ, List.set_cons_succ, h2]
  rw [e] at h1
  exact h1

/-- the first k parts turned -/
def tk (n : Nat) (l : List (Int × Int)) (k : Nat) : List (Int × Int) := (l.take k).map (turn1 n) ++ l.drop k
theorem tk_zero (n : Nat) (l : List (Int × Int)) : tk n l 0 = l := by simp [tk]
theorem tk_len (n : Nat) (l : List (Int × Int)) (k : Nat) : (tk n l k).length = l.length := by simp [tk]; omega
theorem tk_all {n : Nat} {l : List (Int × Int)} {k : Nat} (h : l.length ≤ k) : tk n l k = turnV n l := by simp [tk, turnV, List.take_of_length_le h, List.drop_of_length_le h]
theorem tk_at {n : Nat} {l : List (Int × Int)} {k : Nat} {x : Int × Int} (h : l[k]? = some x) : (tk n l k)[k]? = some x := by
  have hk : k < l.length := (List.getElem?_eq_some_iff.1 h).1
  unfold tk
  rw [List.getElem?_append_right (by simp; omega)]
  simp [List.getElem?_drop, Nat.min_eq_left (Nat.le_of_lt hk), h]
theorem tk_next {n : Nat} {l : List (Int × Int)} {k : Nat} {x : Int × Int} (h : l[k]? = some x) : (tk n l k).set k ((n : Int) - 1 - x.1, x.2) = tk n l (k + 1) := by
  have hk : k < l.length := (List.getElem?_eq_some_iff.1 h).1
  unfold tk
  rw [take_snoc h, List.drop_eq_getElem_cons hk]
  have e : ((l.take k).map (turn1 n)).length = k := by simp; omega
  rw [List.set_append_right _ _ (by omega), e, Nat.sub_self]
  simp [turn1, (List.getElem?_eq_some_iff.1 h).2]
/-- a constraint in a box, and the two rows of it -/
structure TB (S : Nat) (wr wi : World) (q : Nat) (a b : Int) (v1 v2 : Value) (n1 n2 : Nat) (l1 l2 : List (Int × Int)) : Prop where
  bel : Below S wr wi
  c0 : wi.cell? ⟨q, 0, none⟩ = some (.int .i64 a)
  c1 : wi.cell? ⟨q, 1, none⟩ = some v1
  c2 : wi.cell? ⟨q, 2, none⟩ = some (.int .i64 b)
  c3 : wi.cell? ⟨q, 3, none⟩ = some v2
  o1 : wi.ownsRow S 90 2 v1 n1 (flat2 l1)
  o2 : wi.ownsRow S 90 2 v2 n2 (flat2 l2)
  n1 : v1.ownBlock ≠ some q
  n2 : v2.ownBlock ≠ some q
  ap : ∀ g, v1.ownBlock = some g → v2.ownBlock ≠ some g
theorem TB.put1 {S : Nat} {wr wi : World} {q : Nat} {a b : Int} {v2 : Value} {g cap n1 n2 k : Nat} {l1 l2 : List (Int × Int)} (h : TB S wr wi q a b (.slice (some ⟨g, 0, none⟩) n1 cap) v2 n1 n2 l1 l2) {x : Int × Int} (hx : l1[k]? = some x) (z : Int) :
    TB S wr (wi.setCell ⟨g, k * 2, none⟩ (.int .i64 z)) q a b (.slice (some ⟨g, 0, none⟩) n1 cap) v2 n1 n2 (l1.set k (z, x.2)) l2 := by
  have hq : q ≠ g := fun e => h.n1 (by simp [Value.ownBlock, e])
  have hlt := own_lt h.o1
  exact ⟨h.bel.setCell hlt.1 _, keep_set hq h.c0, keep_set hq h.c1, keep_set hq h.c2, keep_set hq h.c3, (own_part h.o1 hx z).2.2, own_other h.o2 (h.ap g rfl) _ _, h.n1, h.n2, h.ap⟩
theorem TB.put2 {S : Nat} {wr wi : World} {q : Nat} {a b : Int} {v1 : Value} {g cap n1 n2 k : Nat} {l1 l2 : List (Int × Int)} (h : TB S wr wi q a b v1 (.slice (some ⟨g, 0, none⟩) n2 cap) n1 n2 l1 l2) {x : Int × Int} (hx : l2[k]? = some x) (z : Int) :
    TB S wr (wi.setCell ⟨g, k * 2, none⟩ (.int .i64 z)) q a b v1 (.slice (some ⟨g, 0, none⟩) n2 cap) n1 n2 l1 (l2.set k (z, x.2)) := by
  have hq : q ≠ g := fun e => h.n2 (by simp [Value.ownBlock, e])
  have hlt := own_lt h.o2
  exact ⟨h.bel.setCell hlt.1 _, keep_set hq h.c0, keep_set hq h.c1, keep_set hq h.c2, keep_set hq h.c3, own_other h.o1 (fun e => h.ap g e rfl) _ _, (own_part h.o2 hx z).2.2, h.n1, h.n2, h.ap⟩
theorem TB.then {S : Nat} {wr wi w' : World} {q : Nat} {a b : Int} {v1 v2 : Value} {n1 n2 : Nat} {l1 l2 : List (Int × Int)} (h : TB S wr wi q a b v1 v2 n1 n2 l1 l2) (hq : q < wi.heap.size) (hS : S ≤ wi.heap.size) (hb : Below wi.heap.size wi w') : TB S wr w' q a b v1 v2 n1 n2 l1 l2 :=
  ⟨h.bel.trans (hb.mono hS), (hb.cell (p := ⟨q, 0, none⟩) hq).trans h.c0, (hb.cell (p := ⟨q, 1, none⟩) hq).trans h.c1, (hb.cell (p := ⟨q, 2, none⟩) hq).trans h.c2, (hb.cell (p := ⟨q, 3, none⟩) hq).trans h.c3, own_below h.o1 hb, own_below h.o2 hb, h.n1, h.n2, h.ap⟩
theorem Below.al {a w : World} (h : Below a.heap.size a w) (o : Obj) : Below a.heap.size a (w.alloc o) := h.alloc h.size o
theorem cpA_of (wr : World) (c : Int) (A : Option Addr) (n cap : Nat) (l : List (Int × Int)) (h : PL wr wr.heap.size A n l) (hn : n ≤ 1000000) : ∀ W, Below wr.heap.size wr W → Calls Try.prog 54 #[.agg #[.int .i64 c, .slice A n cap]] W fun e w' => ∃ A' c', e = .returned (.agg #[.int .i64 c, .slice A' n c']) ∧ w'.ownsRow W.heap.size 90 2 (.slice A' n c') n (flat2 l) ∧ Below wr.heap.size wr w' ∧ Below W.heap.size W w' := fun W hW =>
  (copyO_any c A n cap l W ((h.below hW).more hW.size) hn).mono fun _ _ ⟨v, c', h1, h2, h3⟩ => ⟨v, c', h1, h2, hW.trans (h3.mono hW.size), h3⟩
theorem cpB_of (wr : World) (c : Int) (A : Option Addr) (n cap : Nat) (l : List (Int × Int)) (h : PL wr wr.heap.size A n l) (hn : n ≤ 1000000) : ∀ (W : World) (v1 : Value) (B m : Nat) (l1 : List (Int × Int)), Below wr.heap.size wr W → W.ownsRow B 90 2 v1 m (flat2 l1) → Calls Try.prog 54 #[.agg #[.int .i64 c, .slice A n cap]] W fun e w' => ∃ A' c', e = .returned (.agg #[.int .i64 c, .slice A' n c']) ∧ w'.ownsRow B 90 2 v1 m (flat2 l1) ∧ w'.ownsRow W.heap.size 90 2 (.slice A' n c') n (flat2 l) ∧ (∀ g, v1.ownBlock = some g → (Value.slice A' n c').ownBlock ≠ some g) ∧ Below wr.heap.size wr w' ∧ Below W.heap.size W w' := fun W v1 B m l1 hW h1 =>
  (copyO_any c A n cap l W ((h.below hW).more hW.size) hn).mono fun _ _ ⟨v, c', e1, h2, h3⟩ => ⟨v, c', e1, own_below h1 h3, h2, fun g hg hv => by
    have a := (h2.lt g hv).1
    have b := (h1.lt g hg).2
    omega, hW.trans (h3.mono hW.size), h3⟩
theorem Below.st4 {a w : World} {q : Nat} (h : Below a.heap.size a w) (hq : a.heap.size ≤ q) (u0 u1 u2 u3 : Value) : Below a.heap.size a ((((w.setCell ⟨q, 0, none⟩ u0).setCell ⟨q, 1, none⟩ u1).setCell ⟨q, 2, none⟩ u2).setCell ⟨q, 3, none⟩ u3) :=
  (((h.setCell (by exact hq) _).setCell (by exact hq) _).setCell (by exact hq) _).setCell (by exact hq) _
/-- a box for a constraint, as it is made -/
def Z4 (W : World) (q : Nat) : Prop := W.heap[q]? = some (.cells #[.int .i64 0, .slice none 0 0, .int .i64 0, .slice none 0 0] 46)
theorem z4_alloc {X w' : World} (h : Below (X.alloc (.cells #[.int .i64 0, .slice none 0 0, .int .i64 0, .slice none 0 0] 46)).heap.size (X.alloc (.cells #[.int .i64 0, .slice none 0 0, .int .i64 0, .slice none 0 0] 46)) w') : Z4 w' X.heap.size := by
  have h1 := h.block X.heap.size (by simp)
  unfold Z4
  rw [h1]
  show (X.heap.push _)[X.heap.size]? = _
  rw [Array.getElem?_push]
  simp
theorem z4_allocD {X w' : World} (h : Below (X.alloc (.cells #[.int .i64 0, .slice none 0 0, .int .i64 0, .slice none 0 0] 46)).drew.heap.size (X.alloc (.cells #[.int .i64 0, .slice none 0 0, .int .i64 0, .slice none 0 0] 46)).drew w') : Z4 w' X.heap.size := z4_alloc ⟨h.os, h.tape, h.output, h.size, h.block⟩
theorem Z4.keep {W w' : World} {q : Nat} (h : Z4 W q) (hb : Below W.heap.size W w') : Z4 w' q := (hb.block q (Array.getElem?_eq_some_iff.1 h).1).trans h
theorem Z4.cells {W : World} {q : Nat} (h : Z4 W q) : W.cell? ⟨q, 0, none⟩ = some (.int .i64 0) ∧ W.cell? ⟨q, 1, none⟩ = some (.slice none 0 0) ∧ W.cell? ⟨q, 2, none⟩ = some (.int .i64 0) ∧ W.cell? ⟨q, 3, none⟩ = some (.slice none 0 0) ∧ W.frozen? ⟨q, 0, none⟩ = false ∧ W.frozen? ⟨q, 1, none⟩ = false ∧ W.frozen? ⟨q, 2, none⟩ = false ∧ W.frozen? ⟨q, 3, none⟩ = false := by
  unfold Z4 at h
  refine ⟨?_, ?_, ?_, ?_, ?_, ?_, ?_, ?_⟩ <;> simp [World.cell?, World.frozen?, h]
theorem TB.last {wr W : World} {a b : Int} {v1 v2 : Value} {n1 n2 B1 B2 : Nat} {l1 l2 : List (Int × Int)} (hb : Below wr.heap.size wr W) (o1 : W.ownsRow B1 90 2 v1 n1 (flat2 l1)) (o2 : W.ownsRow B2 90 2 v2 n2 (flat2 l2)) (h1 : wr.heap.size ≤ B1) (h2 : wr.heap.size ≤ B2) (ap : ∀ g, v1.ownBlock = some g → v2.ownBlock ≠ some g) :
    W.heap.size < (W.alloc (.cells #[.int .i64 a, v1, .int .i64 b, v2] 46)).heap.size ∧ TB wr.heap.size wr (W.alloc (.cells #[.int .i64 a, v1, .int .i64 b, v2] 46)) W.heap.size a b v1 v2 n1 n2 l1 l2 :=
  ⟨by simp, Below.al hb _, by simp, by simp, by simp, by simp, (own_lower o1 h1).alloc _, (own_lower o2 h2).alloc _, fun e => by have := (o1.lt _ e).2; omega, fun e => by have := (o2.lt _ e).2; omega, ap⟩
theorem TB.first {wr W : World} {q : Nat} {a b : Int} {v1 v2 : Value} {n1 n2 B1 B2 : Nat} {l1 l2 : List (Int × Int)} (hz : Z4 W q) (hq : wr.heap.size ≤ q) (hb : Below wr.heap.size wr W) (o1 : W.ownsRow B1 90 2 v1 n1 (flat2 l1)) (o2 : W.ownsRow B2 90 2 v2 n2 (flat2 l2)) (h1 : wr.heap.size ≤ B1) (h2 : wr.heap.size ≤ B2) (ap : ∀ g, v1.ownBlock = some g → v2.ownBlock ≠ some g) :
    q < ((((W.setCell ⟨q, 0, none⟩ (.int .i64 a)).setCell ⟨q, 1, none⟩ v1).setCell ⟨q, 2, none⟩ (.int .i64 b)).setCell ⟨q, 3, none⟩ v2).heap.size ∧ TB wr.heap.size wr ((((W.setCell ⟨q, 0, none⟩ (.int .i64 a)).setCell ⟨q, 1, none⟩ v1).setCell ⟨q, 2, none⟩ (.int .i64 b)).setCell ⟨q, 3, none⟩ v2) q a b v1 v2 n1 n2 l1 l2 := by
  obtain ⟨c0, c1, c2, c3, _⟩ := hz.cells
  have hlt : q < W.heap.size := (Array.getElem?_eq_some_iff.1 hz).1
  have e1 := own_type_ne' o1 ⟨_, _, hz⟩ (by decide)
  have e2 := own_type_ne' o2 ⟨_, _, hz⟩ (by decide)
  refine ⟨by simp only [World.size_setCell]; exact hlt, Below.st4 hb hq _ _ _ _, ?_, ?_, ?_, ?_, ?_, ?_, e1, e2, ap⟩
  · exact keep_off (by decide) (keep_off (by decide) (keep_off (by decide) (World.cell?_setCell_same _ _ _ c0)))
  · exact keep_off (by decide) (keep_off (by decide) (World.cell?_setCell_same _ _ _ (keep_off (by decide) c1)))
  · exact keep_off (by decide) (World.cell?_setCell_same _ _ _ (keep_off (by decide) (keep_off (by decide) c2)))
  · exact World.cell?_setCell_same _ _ _ (keep_off (by decide) (keep_off (by decide) (keep_off (by decide) c3)))
  · exact own_other (own_other (own_other (own_other (own_lower o1 h1) e1 _ _) e1 _ _) e1 _ _) e1 _ _
  · exact own_other (own_other (own_other (own_other (own_lower o2 h2) e2 _ _) e2 _ _) e2 _ _) e2 _ _

set_option maxRecDepth 100000 in
set_option maxHeartbeats 4000000 in
theorem turned_any (n : Nat) (A : Option Addr) (K cap : Nat) (cs : List LCn) (w : World) (h : CL w w.heap.size A K cs) (hcs : ∀ c ∈ cs, Con n c) (hn : n ≤ 1200) (hK : K ≤ 100000) :
    Calls Try.prog 29 #[.int .i64 n, .slice A K cap] w fun e w' => ∃ A' c', e = .returned (.slice A' K c') ∧ CL w' w'.heap.size A' K (turnL n cs) ∧ Below w.heap.size w w' := by
  obtain ⟨i0, hi, hz0, hz1, hz2⟩ := info_parts infoC
  have Hcs := Lib.hid hcs
  clear hcs
  go_enter Try.func29, Try.ntmps29
  go_wp2_with fail
  go_loopw [5, 6] (fun o i wr => ∃ j : Nat, j ≤ K ∧ i = .int .i64 j ∧ ∃ xs, wr.ownsRow w.heap.size 46 4 o j xs ∧ TV wr xs (turnL n (cs.take j)) ∧ Below w.heap.size w wr) (fun _ i _ => K - (intOf i).toNat)
  case atStart => exact ⟨0, Nat.zero_le _, rfl, [], World.ownsRow_nil _ _ _ _, TV.nil _, Below.refl _ _⟩
  case round =>
    obtain ⟨j, hj, rfl, xs, hown, htv, hbr⟩ := hrel
    obtain ⟨wo, hwo⟩ : ∃ wo, wo = wr := ⟨_, rfl⟩
    subst hwo
    have hl := h.1
    by_cases hlt : j < K
    · obtain ⟨b, off, c, A1, n1, c1, A2, n2, c2, rfl, hbl, hc, q0, q1, q2, q3, p1, p2⟩ := (h.lift hbr).at_ hlt
      have hcpA := Lib.hid (cpA_of wo c.1.1 A1 n1 c1 c.1.2 p1 (by have := (Hcs.out c (List.mem_of_getElem? hc)).al; have := p1.1; omega))
      have hcpB := Lib.hid (cpB_of wo c.2.1 A2 n2 c2 c.2.2 p2.1 (by rcases (Hcs.out c (List.mem_of_getElem? hc)).b1 with h | ⟨x, h, _⟩ <;> (have h9 := p2.1.1; rw [h] at h9; simp at h9; omega)))
      have HS5 : Hid (∀ W, Below wo.heap.size wo W → W.cell? ⟨b, off + j * 4, none⟩ = some (.int .i64 c.1.1) ∧ W.cell? ⟨b, off + j * 4 + 1, none⟩ = some (.slice A1 n1 c1) ∧ W.cell? ⟨b, off + j * 4 + 2, none⟩ = some (.int .i64 c.2.1) ∧ W.cell? ⟨b, off + j * 4 + 3, none⟩ = some (.slice A2 n2 c2)) := fun W hW => ⟨(hW.cell (p := ⟨b, off + j * 4, none⟩) hbl).trans q0, (hW.cell (p := ⟨b, off + j * 4 + 1, none⟩) hbl).trans q1, (hW.cell (p := ⟨b, off + j * 4 + 2, none⟩) hbl).trans q2, (hW.cell (p := ⟨b, off + j * 4 + 3, none⟩) hbl).trans q3⟩
      have hzr : Below wo.heap.size wo wo := Below.refl _ _
      go_upto_region 5 with fail
      go_cut [7] (fun bx wx => ∃ q B1 d1 B2 d2, bx = .pointer (some ⟨q, 0, none⟩) ∧ q < wx.heap.size ∧ TB wo.heap.size wo wx q c.1.1 c.2.1 (.slice B1 n1 d1) (.slice B2 n2 d2) n1 n2 c.1.2 c.2.2)
      --<F
      case first =>
        go_region_held3 (fun w' => w'.cell? ⟨b, off + j * 4, none⟩ = some (.int .i64 c.1.1) ∧ w'.cell? ⟨b, off + j * 4 + 1, none⟩ = some (.slice A1 n1 c1) ∧ w'.cell? ⟨b, off + j * 4 + 2, none⟩ = some (.int .i64 c.2.1) ∧ w'.cell? ⟨b, off + j * 4 + 3, none⟩ = some (.slice A2 n2 c2))
          (first | exact HS5.out _ (by first | assumption | exact hzr.drew | exact (Below.al hzr _).drew | exact Below.al (a := wo) (by assumption) _ | exact Below.st4 (a := wo) (by assumption) (by first | exact Nat.le_refl _ | exact hzA.size) _ _ _ _))
          (first | (go_at_call 54; with_reducible refine (hcpA.out _ (by first | assumption | exact hzr.drew | exact (Below.al hzr _).drew | exact Below.al (a := wo) (by assumption) _)).mono ?_; rintro e w5 ⟨B1, d1, rfl, ho1, hzA, hy⟩; try (first | have Z := z4_alloc hy | have Z := z4_allocD hy); try (obtain ⟨y0, y1, y2, y3, y4, y5, y6, y7⟩ := Z.cells)) | (go_at_call 54; with_reducible refine (hcpB.out _ _ _ _ _ (by first | assumption | exact hzr.drew | exact (Below.al hzr _).drew | exact Below.al (a := wo) (by assumption) _) (by first | assumption | exact World.ownsRow.alloc (by assumption) _)).mono ?_; rintro e w5 ⟨B2, d2, rfl, ho1, ho2, hap, hz, hy2⟩; first | (have Z2 := z4_alloc hy2; obtain ⟨y0, y1, y2, y3, y4, y5, y6, y7⟩ := Z2.cells) | (have Z2 := Z4.keep (by assumption) hy2; obtain ⟨y0, y1, y2, y3, y4, y5, y6, y7⟩ := Z2.cells) | skip))
        all_goals go_wp2_with fail
        all_goals go_meet
        all_goals first | exact ⟨_, _, _, _, _, rfl, TB.last hz ho1 ho2 (by first | exact Nat.le_refl _ | exact hzA.size) (by exact hzA.size) hap⟩ | exact ⟨_, _, _, _, _, rfl, TB.first (by assumption) (by first | exact Nat.le_refl _ | exact hzA.size) hz ho1 ho2 (by first | exact Nat.le_refl _ | exact (Below.al hzr _).size) (by first | exact hzA.size | exact (Below.al hzA _).size) hap⟩
      --F>
      case rest =>
        obtain ⟨q, B1, d1, B2, d2, rfl, hql, htb⟩ := hcut
        have hS := htb.bel.size
        clear hcpA hcpB HS5 hzr q0 q1 q2 q3
        have hcc := Hcs.out c (List.mem_of_getElem? hc)
        have hl1 : c.1.2.length = n1 := p1.1
        have hl2 : c.2.2.length = n2 := p2.1.1
        have hn1 : n1 ≤ 8 := by have := hcc.al; omega
        have hn2 : n2 ≤ 1 := by rcases hcc.b1 with h | ⟨x, h, _⟩ <;> (rw [h] at hl2; simp at hl2; omega)
        have hb2 : ∀ (k : Nat) x, c.2.2[k]? = some x → 0 ≤ x.1 ∧ x.1 < n := fun k x hx => by
          rcases hcc.b1 with h | ⟨y, h, _, h3, _⟩
          · rw [h] at hx; simp at hx
          · rw [h] at hx
            have := List.mem_of_getElem? hx
            rw [List.mem_singleton.1 this]; exact h3
        rw [← tk_zero n c.1.2, ← tk_zero n c.2.2] at htb
        clear p1 p2
        go_wp2_with fail
        go_loopw [8] (fun i wi => ∃ k : Nat, k ≤ n1 ∧ i = .int .i64 k ∧ q < wi.heap.size ∧ TB wo.heap.size wo wi q c.1.1 c.2.1 (.slice B1 n1 d1) (.slice B2 n2 d2) n1 n2 (tk n c.1.2 k) (tk n c.2.2 0)) (fun i _ => n1 - (intOf i).toNat)
        case atStart => exact ⟨0, Nat.zero_le _, rfl, hql, htb⟩
        case round =>
          clear htb hql
          obtain ⟨k, hk, rfl, hql, htb⟩ := hrel
          have y1 := htb.c1
          by_cases hkl : k < n1
          · obtain ⟨x, hx⟩ : ∃ x, c.1.2[k]? = some x := ⟨_, List.getElem?_eq_getElem (by omega)⟩
            obtain ⟨g, d, he⟩ := own_some htb.o1 (by omega)
            cases he
            obtain ⟨e1, e2, _⟩ := own_part htb.o1 (tk_at (n := n) hx) 0
            have hxm := (hcc.a1 x (List.mem_of_getElem? hx)).1
            have hki : (k : Int) < (n1 : Int) := by omega
            have Hput := Lib.hid (htb.put1 (tk_at (n := n) hx) ((n : Int) - 1 - x.1))
            rw [tk_next hx] at Hput
            have hw1 : IntKind.i64.wrap ((n : Int) - 1) = (n : Int) - 1 := by rw [IntKind.wrap_i64]; omega
            have hw2 : IntKind.i64.wrap ((n : Int) - 1 - x.1) = (n : Int) - 1 - x.1 := by rw [IntKind.wrap_i64]; omega
            have Hx := Lib.hid hx
            clear hx htb
            go_wp2_with fail
            have hqs : q < (wr.setCell ⟨g, k * 2, none⟩ (.int .i64 ((n : Int) - 1 - x.1))).drew.heap.size := by
              show q < (wr.setCell ⟨g, k * 2, none⟩ (.int .i64 ((n : Int) - 1 - x.1))).heap.size
              rw [World.size_setCell]; exact hql
            have hss : wo.heap.size ≤ (wr.setCell ⟨g, k * 2, none⟩ (.int .i64 ((n : Int) - 1 - x.1))).heap.size := Hput.out.bel.size
            go_region_law (fail)
            all_goals
              go_wp2_with fail
              go_roundw
              case rel => exact ⟨k + 1, by omega, by go_num, hqs, Hput.out.then (by rw [World.size_setCell]; exact hql) hss (Below.refl _ _).drew⟩
              case measure => simp [intOf]; omega
          · obtain rfl : n1 = k := by omega
            rw [tk_all (by omega)] at htb
            go_wp2_with fail
            go_loopw [9] (fun i wi => ∃ k : Nat, k ≤ n2 ∧ i = .int .i64 k ∧ q < wi.heap.size ∧ TB wo.heap.size wo wi q c.1.1 c.2.1 (.slice B1 n1 d1) (.slice B2 n2 d2) n1 n2 (turnV n c.1.2) (tk n c.2.2 k)) (fun i _ => n2 - (intOf i).toNat)
            case atStart => exact ⟨0, Nat.zero_le _, rfl, hql, htb⟩
            case round =>
              clear htb hql
              obtain ⟨k, hk, rfl, hql, htb⟩ := hrel
              have y1 := htb.c3
              by_cases hkl : k < n2
              · obtain ⟨x, hx⟩ : ∃ x, c.2.2[k]? = some x := ⟨_, List.getElem?_eq_getElem (by omega)⟩
                obtain ⟨g, d, he⟩ := own_some htb.o2 (by omega)
                cases he
                obtain ⟨e1, e2, _⟩ := own_part htb.o2 (tk_at (n := n) hx) 0
                have hxm := hb2 k x hx
                have hki : (k : Int) < (n2 : Int) := by omega
                have Hput := Lib.hid (htb.put2 (tk_at (n := n) hx) ((n : Int) - 1 - x.1))
                rw [tk_next hx] at Hput
                have hw1 : IntKind.i64.wrap ((n : Int) - 1) = (n : Int) - 1 := by rw [IntKind.wrap_i64]; omega
                have hw2 : IntKind.i64.wrap ((n : Int) - 1 - x.1) = (n : Int) - 1 - x.1 := by rw [IntKind.wrap_i64]; omega
                have Hx := Lib.hid hx
                clear hx htb
                go_wp2_with fail
                have hqs : q < (wr.setCell ⟨g, k * 2, none⟩ (.int .i64 ((n : Int) - 1 - x.1))).drew.heap.size := by
                  show q < (wr.setCell ⟨g, k * 2, none⟩ (.int .i64 ((n : Int) - 1 - x.1))).heap.size
                  rw [World.size_setCell]; exact hql
                have hss : wo.heap.size ≤ (wr.setCell ⟨g, k * 2, none⟩ (.int .i64 ((n : Int) - 1 - x.1))).heap.size := Hput.out.bel.size
                go_region_law (fail)
                all_goals
                  go_wp2_with fail
                  go_roundw
                  case rel => exact ⟨k + 1, by omega, by go_num, hqs, Hput.out.then (by rw [World.size_setCell]; exact hql) hss (Below.refl _ _).drew⟩
                  case measure => simp [intOf]; omega
              · obtain rfl : n2 = k := by omega
                rw [tk_all (by omega)] at htb
                have z0 := htb.c0
                have z1 := htb.c1
                have z2 := htb.c2
                have z3 := htb.c3
                have hbel := htb.bel
                have hz5 : Below wo.heap.size wo (wr.alloc (.cells #[.int .i64 c.1.1, .slice B1 n1 d1, .int .i64 c.2.1, .slice B2 n2 d2] 46)) := Below.al hbel _
                have hown5 := own_below hown hz5
                have htv5 := htv.below hz5
                have ho1 := (own_lower htb.o1 (Nat.zero_le _)).alloc (.cells #[.int .i64 c.1.1, .slice B1 n1 d1, .int .i64 c.2.1, .slice B2 n2 d2] 46)
                have ho2 := (own_lower htb.o2 (Nat.zero_le _)).alloc (.cells #[.int .i64 c.1.1, .slice B1 n1 d1, .int .i64 c.2.1, .slice B2 n2 d2] 46)
                have hbr5 : Below w.heap.size w (wr.alloc (.cells #[.int .i64 c.1.1, .slice B1 n1 d1, .int .i64 c.2.1, .slice B2 n2 d2] 46)) := hbr.trans (hz5.mono hbr.size)
                have hsw : w.heap.size ≤ wr.heap.size := Nat.le_trans hbr.size hbel.size
                have hone : ∀ u ∈ [Value.int .i64 c.1.1, .slice B1 n1 d1, .int .i64 c.2.1, .slice B2 n2 d2], u.oneCell' = true := by simp [Value.oneCell']
                have Hst : Hid (turnL n (cs.take (j + 1)) = turnL n (cs.take j) ++ [turnC n c]) := by
                  unfold Hid turnL
                  rw [take_snoc hc, List.map_append]
                  rfl
                have e1 : n1 = (turnC n c).1.2.length := by show n1 = (turnV n c.1.2).length; unfold turnV; rw [List.length_map]; exact hl1.symm
                have e2 : n2 = (turnC n c).2.2.length := by show n2 = (turnV n c.2.2).length; unfold turnV; rw [List.length_map]; exact hl2.symm
                have Hkeep : Hid (∀ w6 : World, (wr.alloc (.cells #[.int .i64 c.1.1, .slice B1 n1 d1, .int .i64 c.2.1, .slice B2 n2 d2] 46)).grownBy w6 u5.ownBlock → TV w6 (xs ++ [.int .i64 c.1.1, .slice B1 n1 d1, .int .i64 c.2.1, .slice B2 n2 d2]) (turnL n (cs.take (j + 1)))) := fun w6 hg => by
                  rw [Hst.out]
                  refine TV.snoc (c := turnC n c) (htv5.grown hown5 hg) ?_ ?_
                  · rw [← e1]; exact row_kept hown5 hg ho1
                  · rw [← e2]; exact row_kept hown5 hg ho2
                clear htb hown htv htv5 ho1 ho2 e1 e2 Hst hc hcc hb2 hl1 hl2
                go_wp2_with (at_builtin; refine wpList_append_own _ rfl _ _ 22 rfl w.heap.size 46 i0 (.agg #[.int .i64 0, .slice none 0 0, .int .i64 0, .slice none 0 0]) 4 64 Try.underlying22 hi hz0 hz1 hz2 rfl (by decide) _ j xs rfl hown5 _ 1 1 [.int .i64 c.1.1, .slice B1 n1 d1, .int .i64 c.2.1, .slice B2 n2 d2] rfl rfl (news4c rfl) hone (by unfold maxLen; omega) (by omega) (by simp; omega) ?_)
                intro v6 w6 hown6 hgrow6 _
                have hb6 : Below w.heap.size w w6 := hbr5.grown hgrow6 (by simp; omega) (fun j hj => (hown5.lt j hj).1)
                have htv6 := Hkeep.out w6 hgrow6
                go_wp2_with fail
                go_roundw
                case rel => exact ⟨j + 1, by omega, by go_num, _, hown6, htv6, hb6⟩
                case measure => simp [intOf]; omega
    · obtain rfl : j = K := by omega
      rw [List.take_of_length_le (by omega)] at htv
      obtain ⟨A7, c7, rfl, hCL, _, _⟩ := CL.of_own hown htv.cv (Nat.le_refl _)
      go_wp2_with fail
      go_ret
      exact ⟨A7, c7, rfl, hCL, hbr⟩
end Go.Proofs.Ytkbhmkngipdkiaa
