/-
  'CopyLevel' of tenetref00: the same level, its list in new memory.
-/
import Derived.Test.YtpahgbnfgnmlaaaDoorRCanon
import Derived.Deep.RegionLaw
namespace Go.Proofs.YtpahgbnfgnmlaaaDoor
open Go Go.RowKit Go.Sort Go.Shelf

theorem step_append_own {P : Program} {ops : Array Oper} {o : Oper} {a : Act} {w : World} {K : Act → World → Prop} {Q : Exit → Act → World → Prop} {E : Prop}
    (hg : o.guard = none) (s x : Operand) (t : TypeId) (hop : o.op = Op.call { callee := Callee.builtin Builtin.append, args := #[s, x], argTypes := #[t, t] })
    (base : Nat) (e : TypeId) (i : TypeInfo) (z : Value) (size bytes : Nat) (h1 : P.underlying t = some (.slice e)) (h2 : P.info? e = some i) (h3 : i.zero = some z) (h4 : i.size = size) (h5 : i.bytes = bytes) (h6 : z.cells.size = size) (h7 : 0 < size)
    (v : Value) (n : Nat) (xs : List Value) (hs : a.eval s = v) (hown : w.ownsRow base e size v n xs)
    (ad : Addr) (m c : Nat) (news : List Value) (hx : a.eval x = .slice (some ad) m c) (hn : news.length = m * size) (hc : ∀ j u, news[j]? = some u → w.cell? (ad.add j) = some u) (h1c : ∀ u ∈ news, u.oneCell' = true)
    (b1 : n + m ≤ maxLen) (b2 : (n + m) * bytes ≤ 140737488355328) (b3 : base ≤ w.heap.size)
    (hK : ∀ v' w', w'.ownsRow base e size v' (n + m) (xs ++ news) → w.grownBy w' v.ownBlock → K (a.put o.dst v') w') :
    if Region.wanted o (yielded ops a.tmps) = true then Oper.wp P o a w K Q else E := by
  have hw : Region.wanted o (yielded ops a.tmps) = true := by simp [Region.wanted, hg]
  rw [if_pos hw]
  obtain ⟨v', w', hrun, r1, r2, _⟩ := run_append_own (P := P) w base t o.type e i z size bytes h1 h2 h3 h4 h5 h6 h7 v n xs hown ad m c news hn hc h1c b1 b2 b3
  unfold Oper.wp
  simp [execOp, hop, resolve, invoke, builtin, hs, hx, hrun, Result.andThen]
  exact hK v' w' r1 r2

/-- the three boxes of a copy, and the list that it has made -/
structure CB (w wr : World) (c : Int) (A : Option Addr) (n cap : Nat) (v : Value) (q : List (Int × Int)) : Prop where
  bel : Go.RowKit.Below w.heap.size w wr
  size : w.heap.size + 3 ≤ wr.heap.size
  a1 : wr.cell? ⟨w.heap.size, 1, none⟩ = some (.slice A n cap)
  r0 : wr.cell? ⟨w.heap.size + 1, 0, none⟩ = some (.int .i64 0)
  r1 : wr.cell? ⟨w.heap.size + 1, 1, none⟩ = some (.slice none 0 0)
  r2 : wr.frozen? ⟨w.heap.size + 1, 0, none⟩ = false
  r3 : wr.frozen? ⟨w.heap.size + 1, 1, none⟩ = false
  s0 : wr.cell? ⟨w.heap.size + 1 + 1, 0, none⟩ = some (.int .i64 c)
  s1 : wr.cell? ⟨w.heap.size + 1 + 1, 1, none⟩ = some v
  s3 : wr.frozen? ⟨w.heap.size + 1 + 1, 1, none⟩ = false
  own : wr.ownsRow (w.heap.size + 3) 50 2 v q.length (flat2 q)
theorem new_cells (X : World) (c : Int) (t : TypeId) {k : Nat} (hk : k = X.heap.size) : (X.alloc (.cells #[.int .i64 c, .slice none 0 0] t)).cell? ⟨k, 0, none⟩ = some (.int .i64 c) ∧ (X.alloc (.cells #[.int .i64 c, .slice none 0 0] t)).cell? ⟨k, 1, none⟩ = some (.slice none 0 0) ∧ (X.alloc (.cells #[.int .i64 c, .slice none 0 0] t)).frozen? ⟨k, 1, none⟩ = false := by
  subst hk
  exact ⟨by simp, by simp, by simp⟩
theorem CB.start (w : World) (c : Int) (A : Option Addr) (n cap : Nat) : CB w (((w.alloc (.cells #[.int .i64 c, .slice A n cap] 24)).alloc (.cells #[.int .i64 0, .slice none 0 0] 24)).alloc (.cells #[.int .i64 c, .slice none 0 0] 24)) c A n cap (.slice none 0 0) [] := by
  have e : ((w.alloc (.cells #[.int .i64 c, .slice A n cap] 24)).alloc (.cells #[.int .i64 0, .slice none 0 0] 24)).heap.size = w.heap.size + 1 + 1 := by simp
  refine ⟨((((Go.RowKit.Below.refl _ w).alloc (Nat.le_refl _) _).alloc (by simp) _).alloc (by simp; omega) _), by simp, ?_, ?_, ?_, ?_, ?_, ?_, ?_, ?_, World.ownsRow_nil _ _ _ _⟩
  · exact cell_alloc _ (cell_alloc _ (by simp))
  · exact cell_alloc _ (by simp)
  · exact cell_alloc _ (by simp)
  · rw [World.frozen?_alloc_old _ _ _ (by simp)]; simp
  · rw [World.frozen?_alloc_old _ _ _ (by simp)]; simp
  · exact (new_cells _ c _ e.symm).1
  · exact (new_cells _ c _ e.symm).2.1
  · exact (new_cells _ c _ e.symm).2.2
theorem CB.go {w wr w5 : World} {c : Int} {A : Option Addr} {n cap : Nat} {v v' : Value} {q q' : List (Int × Int)} (h : CB w wr c A n cap v q) (hb : Go.RowKit.Below (w.heap.size + 3) wr w5) (ho : w5.ownsRow (w.heap.size + 3) 50 2 v' q'.length (flat2 q')) :
    CB w (w5.setCell ⟨w.heap.size + 1 + 1, 1, none⟩ v') c A n cap v' q' := by
  have c1 := (hb.cell (p := ⟨w.heap.size, 1, none⟩) (show w.heap.size < _ by omega)).trans h.a1
  have d0 := (hb.cell (p := ⟨w.heap.size + 1, 0, none⟩) (show w.heap.size + 1 < _ by omega)).trans h.r0
  have d1 := (hb.cell (p := ⟨w.heap.size + 1, 1, none⟩) (show w.heap.size + 1 < _ by omega)).trans h.r1
  have d2 := (hb.frozen (p := ⟨w.heap.size + 1, 0, none⟩) (show w.heap.size + 1 < _ by omega)).trans h.r2
  have d3 := (hb.frozen (p := ⟨w.heap.size + 1, 1, none⟩) (show w.heap.size + 1 < _ by omega)).trans h.r3
  have e0 := (hb.cell (p := ⟨w.heap.size + 1 + 1, 0, none⟩) (show w.heap.size + 1 + 1 < _ by omega)).trans h.s0
  have e1 := (hb.cell (p := ⟨w.heap.size + 1 + 1, 1, none⟩) (show w.heap.size + 1 + 1 < _ by omega)).trans h.s1
  have e3 := (hb.frozen (p := ⟨w.heap.size + 1 + 1, 1, none⟩) (show w.heap.size + 1 + 1 < _ by omega)).trans h.s3
  have hsz : (w5.setCell ⟨w.heap.size + 1 + 1, 1, none⟩ v').heap.size = w5.heap.size := by simp
  exact ⟨(h.bel.trans (hb.mono (by omega))).setCell (by show w.heap.size ≤ w.heap.size + 1 + 1; omega) _, by rw [hsz]; have := hb.size; have := h.size; omega, keep_set (by omega) c1, keep_set (by omega) d0, keep_set (by omega) d1, by rw [World.frozen?_setCell]; exact d2, by rw [World.frozen?_setCell]; exact d3,
    keep_off (by decide) e0, World.cell?_setCell_same _ _ _ e1, by rw [World.frozen?_setCell]; exact e3, ownsRow_setCell_below ho (by show w.heap.size + 1 + 1 < _; omega) _⟩

set_option maxRecDepth 100000 in
set_option maxHeartbeats 4000000 in
theorem copy_any (c : Int) (A : Option Addr) (n cap : Nat) (l : List (Int × Int)) (w : World) (h : PL w w.heap.size A n l) (hn : n ≤ 1000000) :
    Calls Tryd.prog 12 #[.agg #[.int .i64 c, .slice A n cap]] w fun e w' => ∃ v, e = .returned v ∧ LvRes w.heap.size w' v c l ∧ Go.RowKit.Below w.heap.size w w' := by
  obtain ⟨i0, hi, hz0, hz1, hz2⟩ := info_parts infoV
  go_enter Tryd.func12, Tryd.ntmps12
  go_wp2_with fail
  go_loopw [4] (fun i wr => ∃ k : Nat, k ≤ n ∧ i = .int .i64 k ∧ ∃ v, CB w wr c A n cap v (l.take k)) (fun i _ => n - (intOf i).toNat)
  case atStart => exact ⟨0, Nat.zero_le _, rfl, _, CB.start w c A n cap⟩
  case round =>
    obtain ⟨k, hk, rfl, v, hcb⟩ := hrel
    have a1 := hcb.a1
    by_cases hlt : k < n
    · obtain ⟨b, off, x, rfl, hbl, hx, hx0, hx1⟩ := (h.below hcb.bel).at_ hlt
      have Hst : Hid (l.take (k + 1) = l.take k ++ [x]) := take_snoc hx
      have hql : (l.take k).length ≤ 1000000 := by rw [List.length_take]; omega
      generalize l.take k = q at hcb Hst hql
      have s1 := hcb.s1
      have s3 := hcb.s3
      have hsz := hcb.size
      have hne : w.heap.size + 1 + 1 ≠ wr.heap.size := by omega
      have hne' : w.heap.size + 1 + 1 < wr.heap.size := by omega
      have hown := hcb.own
      go_wp2_with fail
      go_region_law (refine step_append_own rfl (.tmp 16) (.tmp 22) 22 rfl (w.heap.size + 3) 50 i0 (.agg #[.int .i64 0, .int .i64 0]) 2 16 Tryd.underlying22 hi hz0 hz1 hz2 rfl (by decide) v q.length (flat2 q) (by simp [Act.eval]) (by first | exact hown.drew.alloc _ | exact (hown.alloc _).drew | exact hown.alloc _) ⟨wr.heap.size, 0, none⟩ 1 1 [.int .i64 x.1, .int .i64 x.2] (by simp [Act.eval]) rfl (news2' (x := x) (by simp)) (news2_one (x := x)) (by unfold maxLen; omega) (by omega) (by simp; omega) ?_; intro v' w5 hown5 hgrow; have hown6 : w5.ownsRow (w.heap.size + 3) 50 2 v' (q ++ [x]).length (flat2 (q ++ [x])) := (by rw [List.length_append, flat2_app, flat2_one]; exact hown5); have hb5 : Go.RowKit.Below (w.heap.size + 3) wr w5 := ((Go.RowKit.Below.refl _ wr).drew.alloc (by simpa using hsz) _).grown hgrow (by simp; omega) (fun j hj => (hown.lt j hj).1); clear hown5 hgrow; obtain ⟨A5, c5, rfl, hl5, hm5, hp5, ho5⟩ := PL.of_own hown6; have y1 := (hb5.cell (p := ⟨w.heap.size + 1 + 1, 1, none⟩) (show w.heap.size + 1 + 1 < _ by omega)).trans s1; have y3 := (hb5.frozen (p := ⟨w.heap.size + 1 + 1, 1, none⟩) (show w.heap.size + 1 + 1 < _ by omega)).trans s3)
      all_goals
        have hgo := hcb.go hb5 hown6
        rw [show (q ++ [x]).length = q.length + 1 by simp] at hgo
        clear y1 y3 s1 s3
        go_wp2_with fail
        go_roundw
        case rel => exact ⟨k + 1, by omega, by go_num, _, by rw [Hst.out]; exact hgo⟩
        case measure => simp [intOf]; omega
    · have hfull : l.take k = l := List.take_of_length_le (by have := h.1; omega)
      rw [hfull] at hcb
      clear hfull
      obtain ⟨A3, c3, rfl, hl3, hm3, hp3, ho3⟩ := PL.of_own hcb.own
      have s0 := hcb.s0
      have s1 := hcb.s1
      have r0 := hcb.r0
      have r1 := hcb.r1
      have r2 := hcb.r2
      have r3 := hcb.r3
      have e0 := World.cell?_setCell_same wr ⟨w.heap.size + 1, 0, none⟩ (.int .i64 c) hcb.r0
      have e1 := World.cell?_setCell_same (wr.setCell ⟨w.heap.size + 1, 0, none⟩ (.int .i64 c)) ⟨w.heap.size + 1, 1, none⟩ (.slice A3 l.length c3) (keep_off (by decide) hcb.r1)
      go_wp2_with fail
      refine bodyPost_ret (v := .agg #[.int .i64 c, .slice A3 l.length c3]) (by simp [results, Tryd.results12, go_sem, e0, e1]) rfl ?_
      have hoff : ∀ b off, A3 = some ⟨b, off, none⟩ → w.heap.size + 3 ≤ b := fun b off e => by
        rcases ho3 with rfl | ⟨g, rfl, hg, _⟩
        · cases e
        · injection e with e; injection e with e; subst e; exact hg
      refine ⟨_, rfl, ⟨A3, _, c3, rfl, ?_, hl3, by unfold maxLen at hm3; omega, fun b off e => by have := hoff b off e; omega⟩, (hcb.bel.setCell (by show w.heap.size ≤ w.heap.size + 1; omega) _).setCell (by show w.heap.size ≤ w.heap.size + 1; omega) _⟩
      exact hp3.set2 _ _ (fun b off e => by have := hoff b off e; omega) (by simp)
end Go.Proofs.YtpahgbnfgnmlaaaDoor
