/-
  'spread' of package graph.
-/
import Derived.Test.YtapajkfnpkekdaaGQue
import Derived.WalkMore
namespace Go.Proofs.Ytapajkfnpkekdaa
open Go Go.RowKit

theorem step_make_full {P : Program} {ops : Array Oper} {o : Oper} {a : Act} {w : World} {K : Act → World → Prop} {Q : Exit → Act → World → Prop} {E : Prop}
    (hg : o.guard = none) (l c : Operand) (t : TypeId) (hop : o.op = Op.makeSlice t l c)
    (base : Nat) (e : TypeId) (i : TypeInfo) (z : Value) (size : Nat) (h1 : P.underlying t = some (.slice e)) (h2 : P.info? e = some i) (h3 : i.zero = some z) (h4 : i.size = size)
    (kl kc : IntKind) (L C : Int) (n : Nat) (hl : a.eval l = .int kl L) (hc : a.eval c = .int kc C) (hL : L = (n : Int)) (hC : C = (n : Int)) (b2 : i.bytes * n ≤ 281474976710656) (b3 : n ≤ maxLen) (b4 : base ≤ w.heap.size)
    (hK : ∀ w', w'.ownsRow base e size (.slice (some ⟨w.heap.size, 0, none⟩) n n) n (madeCells z.cells (n * size)).toList → w.grownBy w' none → K (a.put o.dst (.slice (some ⟨w.heap.size, 0, none⟩) n n)) w') :
    if Region.wanted o (yielded ops a.tmps) = true then Oper.wp P o a w K Q else E := by
  have hw : Region.wanted o (yielded ops a.tmps) = true := by simp [Region.wanted, hg]
  rw [if_pos hw]
  obtain ⟨w', hrun, r1, r2⟩ := run_make_full (P := P) w base t e i z size h1 h2 h3 h4 kl kc n b2 b3 b4
  subst hL
  subst hC
  unfold Oper.wp
  simp [execOp, hop, hl, hc, hrun, Result.andThen]
  exact hK w' r1 r2
theorem infoI : (Try.prog.info? 3).map (fun i => (i.zero, i.size, i.bytes)) = some (some (.int .i64 0), 1, 8) := by kernel_rfl
theorem infoB : (Try.prog.info? 4).map (fun i => (i.zero, i.size, i.bytes)) = some (some (.bool false), 1, 1) := by kernel_rfl
theorem made_false (n : Nat) : (madeCells (Value.bool false).cells (n * 1)).toList = bool1 (List.replicate n false) := by
  refine List.ext_getElem? fun j => ?_
  by_cases hj : j < n
  · simp [madeCells, bool1, Value.cells, hj, Nat.mod_one]
  · rw [List.getElem?_eq_none (by simp [madeCells]; omega), List.getElem?_eq_none (by simp [bool1]; omega)]

/-- an edge that is on -/
def OnG (out : Nat → List Edg) (on : Nat → Bool) (e : Edg) : Prop := e ∈ out e.f ∧ on e.k = true
structure OkG (N L : Nat) (out : Nat → List Edg) : Prop where
  ok : ∀ v, ∀ e ∈ out v, e.f = v ∧ e.t < N ∧ e.k < L ∧ -1000 ≤ e.b ∧ e.b ≤ 1000
  hi : ∀ v, N ≤ v → out v = []

/-- what spread says -/
def SprPost (V N cV : Nat) (On : Edg → Prop) (wt : List Edg) (x0 : Nat → Int) (U : Nat → Int) (w : World) (e : Ending) (w' : World) : Prop :=
  ∃ (r : Int) (xs : List Int), e = .returned (.int .i64 r) ∧ xs.length = N ∧ w'.ownsRow 0 3 1 (.slice (some ⟨V, 0, none⟩) N cV) N (int1 xs) ∧ BB w.heap.size V w w' ∧ (∀ v, x0 v ≤ gx xs v) ∧ (∀ v, gx xs v ≤ U v) ∧
    (r = 0 ∧ Sat On (gx xs) ∧ (∀ e ∈ wt, hol (gx xs) e) ∧ (∀ y, Sat On y → (∀ v, x0 v ≤ y v) → ∀ v, gx xs v ≤ y v) ∨ r = 1 ∧ ∀ y, Sat On y → (∀ e ∈ wt, hol y e) → False)

theorem new1 {w : World} {x : Value} {ty : TypeId} {q : Nat} (hq : q = w.heap.size) : (w.alloc (.cells #[x] ty)).cell? ⟨q, 0, none⟩ = some x := by subst hq; simp
theorem keep_set {w : World} {b j S i : Nat} {u v : Value} (hne : S ≠ b) (h : w.cell? ⟨S, i, none⟩ = some v) : (w.setCell ⟨b, j, none⟩ u).cell? ⟨S, i, none⟩ = some v :=
  (World.cell?_setCell_other w ⟨b, j, none⟩ ⟨S, i, none⟩ u (fun e => hne (by injection e with h1; exact h1.symm))).trans h
theorem keep_off {w : World} {b i j : Nat} {u v : Value} (hne : j ≠ i) (h : w.cell? ⟨b, i, none⟩ = some v) : (w.setCell ⟨b, j, none⟩ u).cell? ⟨b, i, none⟩ = some v :=
  (World.cell?_setCell_other w ⟨b, j, none⟩ ⟨b, i, none⟩ u (fun e => hne (by injection e))).trans h
theorem hol_upd {x : Nat → Int} {e : Edg} {t : Nat} {v : Int} (h : hol x e) (hf : e.f ≠ t) (hv : x t ≤ v) : hol (upd x t v) e := by
  unfold hol at h ⊢
  rw [upd_ne _ _ hf]
  by_cases ht : e.t = t
  · rw [ht, upd_same]; rw [ht] at h; omega
  · rw [upd_ne _ _ ht]; exact h
theorem heap_two (w : World) (a b : Obj) : ((w.alloc a).alloc b).heap[w.heap.size]? = some a ∧ ((w.alloc a).alloc b).heap[w.heap.size + 1]? = some b := by
  constructor
  · show ((w.heap.push a).push b)[w.heap.size]? = some a
    rw [Array.getElem?_push_lt (by simp), Array.getElem_push_eq]
  · show ((w.heap.push a).push b)[w.heap.size + 1]? = some b
    rw [Array.getElem?_push]
    simp
theorem gap_le {U x : Nat → Int} {K : Nat} (hU : ∀ v, U v ≤ K) (hx : ∀ v, 0 ≤ x v) : ∀ n, gap U x n ≤ n * K
  | 0 => by simp [gap]
  | n + 1 => by
    have h1 := gap_le hU hx n
    have h2 := hU n
    have h3 := hx n
    unfold gap
    rw [Nat.add_mul]
    omega
/-- what holds between the rounds: q waits, the numbers are xs, the marks wl -/
structure RI (On : Edg → Prop) (old U x0 : Nat → Int) (start N : Nat) (w wr : World) (V cV q0 p off n cap : Nat) (q : List Nat) (xs : List Int) (wl : List Bool) : Prop where
  que : QL wr w.heap.size p off n cap (q.map fun v : Nat => (v : Int))
  ne : p ≠ q0
  q0lo : w.heap.size ≤ q0
  wll : wl.length = N
  wow : wr.ownsRow w.heap.size 4 1 (.slice (some ⟨q0, 0, none⟩) N N) N (bool1 wl)
  xsl : xs.length = N
  vow : wr.ownsRow 0 3 1 (.slice (some ⟨V, 0, none⟩) N cV) N (int1 xs)
  bb : BB w.heap.size V w wr
  spr : Spr On old U x0 start (gx xs)
  qlt : ∀ v ∈ q, v < N
  wq : ∀ v, wl[v]? = some true → v ∈ q
theorem RI.then {On : Edg → Prop} {old U x0 : Nat → Int} {start N V cV q0 p off n cap : Nat} {w wr w' : World} {q : List Nat} {xs : List Int} {wl : List Bool} (h : RI On old U x0 start N w wr V cV q0 p off n cap q xs wl) (hb : Below wr.heap.size wr w') : RI On old U x0 start N w w' V cV q0 p off n cap q xs wl :=
  ⟨h.que.below hb, h.ne, h.q0lo, h.wll, own_below h.wow hb, h.xsl, own_below h.vow hb, h.bb.then hb h.bb.size, h.spr, h.qlt, h.wq⟩

set_option maxRecDepth 100000 in
set_option maxHeartbeats 4000000 in
theorem spread_any (S OU ON N L V cV : Nat) (out : Nat → List Edg) (on : Nat → Bool) (A : Option Addr) (m c : Nat) (wt : List Edg) (start : Nat) (old U : Nat → Int) (d : Int) (x0 : List Int) (w : World)
    (hS : SR w S OU ON N L out on V) (hG : OkG N L out) (hV : w.ownsRow 0 3 1 (.slice (some ⟨V, 0, none⟩) N cV) N (int1 x0)) (hw : EL w w.heap.size A m wt) (hwV : ∀ b off, A = some ⟨b, off, none⟩ → b ≠ V) (hm : m ≤ 9223372036854775807)
    (hok : Ok N wt) (hN : N ≤ 2000) (hst : start < N) (hx0 : gx x0 = upd old start (old start + d)) (hd : 0 ≤ d) (hU : ∀ v, U v = old v + d) (hsat : Sat (OnG out on) old) (hnn : ∀ v, 0 ≤ old v) (hU9 : ∀ v, U v ≤ 100000000)
    (hwt : ∀ e ∈ wt, e.t = start ∧ old e.f + e.b ≤ old start + d) :
    Calls Try.prog 31 #[.pointer (some ⟨S, 0, none⟩), .slice (some ⟨V, 0, none⟩) N cV, .int .i64 start, .slice A m c] w (SprPost V N cV (OnG out on) wt (gx x0) U w) := by
  obtain ⟨i0, hi, hz0, hz1, hz2⟩ := info_parts infoI
  obtain ⟨j0, hj, hy0, hy1, hy2⟩ := info_parts infoB
  have hx0l : x0.length = N := by have := hV.1; rw [int1_len] at this; omega
  have hVl : V < w.heap.size := (own_lt hV).2
  obtain ⟨oB, hoB⟩ : ∃ oB, oB = Obj.cells (madeCells (Value.bool false).cells (N * 1)) 4 := ⟨_, rfl⟩
  have hmk : ∀ W : World, (Instr.makeSlice 55 (.int .i64 N) (.int .i64 N)).run Try.prog W = .ok (.slice (some ⟨W.heap.size, 0, none⟩) N N) (W.alloc oB) := fun W => by
    have h := run_make (P := Try.prog) W 55 4 j0 (.bool false) Try.underlying55 hj hy0 .i64 .i64 N N (by omega) (Int.le_refl _) (by rw [hy2]; omega) (by omega)
    rw [hy1] at h
    rw [hoB]
    exact h
  have HoB : Hid (Obj.cells (madeCells #[.bool false] N) 4 = oB) := by rw [Hid, hoB]; simp [Value.cells]
  clear hoB
  go_enter Try.func31, Try.ntmps31
  go_wp2_with fail
  go_step3
  go_wp2_with fail
  go_cut [10, 11] (fun l s wx => ∃ p q : Nat, l = .slice (some ⟨p, 0, none⟩) 1 1 ∧ s = .slice (some ⟨q, 0, none⟩) N N ∧ p ≠ q ∧ wx.heap[p]? = some (.cells #[.int .i64 start] 3 (0, 0)) ∧ wx.heap[q]? = some oB ∧ w.heap.size ≤ p ∧ w.heap.size ≤ q ∧ Below w.heap.size w wx)
  case first =>
    go_region_held3 (fun _ => True) (trivial) (fail)
    all_goals (go_wp2_with fail; go_meet)
    · have hh := heap_two w (.cells #[.int .i64 start] 3) oB
      exact ⟨w.heap.size, w.heap.size + 1, rfl, rfl, by omega, hh.1, hh.2, Nat.le_refl _, by omega, (((Below.refl _ w).alloc (Nat.le_refl _) _).alloc (by simp) _).drew⟩
    · have hh := heap_two w oB (.cells #[.int .i64 start] 3)
      exact ⟨w.heap.size + 1, w.heap.size, rfl, rfl, by omega, hh.2, hh.1, by omega, Nat.le_refl _, (((Below.refl _ w).alloc (Nat.le_refl _) _).alloc (by simp) _).drew⟩
  case rest =>
    obtain ⟨p0, q0, rfl, rfl, hpq, hp0, hq0, hp1, hq1, hb0⟩ := hcut
    have hst0 : RI (OnG out on) old U (gx x0) start N w wc V cV q0 p0 0 1 1 [start] x0 (List.replicate N false) := by
      refine ⟨⟨rfl, hp1, (Array.getElem?_eq_some_iff.1 hp0).1, fun j u hj => ?_, fun j h1 h2 => by omega, fun i => by simp [World.frozen?, hp0], by omega, by decide⟩, hpq, hq1, by simp, ?_, hx0l, own_below hV hb0, BB.of hb0, Spr.begin d hd hU hx0, fun v hv => by rw [List.mem_singleton.1 hv]; exact hst, fun v hv => ?_⟩
      · have hj0 : j = 0 := by have := (List.getElem?_eq_some_iff.1 hj).1; simp at this; exact this
        subst hj0
        simp at hj; subst hj
        simp [World.cell?, hp0]
      · refine ⟨by simp [bool1], .inr ⟨q0, N, madeCells #[.bool false] N, rfl, hq1, by rw [hq0, ← HoB.out], Nat.le_refl _, by unfold maxLen; omega, by simp [madeCells], ?_⟩⟩
        have := made_false N
        simp [Value.cells] at this
        rw [List.take_of_length_le (by simp [madeCells])]
        exact this
      · rw [List.getElem?_replicate] at hv
        split at hv <;> simp at hv
    have hx00 : ∀ v, 0 ≤ gx x0 v := by
      intro v
      rw [hx0]
      by_cases h : v = start
      · subst h; rw [upd_same]; have := hnn v; omega
      · rw [upd_ne _ _ h]; exact hnn v
    have hM : 2 * gap U (gx x0) N + 1 ≤ 1000000000000 := by
      have h1 := gap_le (U := U) (x := gx x0) (K := 100000000) hU9 hx00 N
      have h2 : N * 100000000 ≤ 2000 * 100000000 := Nat.mul_le_mul_right _ hN
      omega
    have H0 : ∀ e, OnG out on e → e.f ∉ [start] → hol (gx x0) e := by
      intro e he hns
      have h1 : e.f ≠ start := fun h => hns (by rw [h]; simp)
      have h2 := hsat e he
      unfold hol at h2 ⊢
      rw [hx0, upd_ne _ _ h1]
      by_cases h3 : e.t = start
      · rw [h3] at h2 ⊢; rw [upd_same]; omega
      · rw [upd_ne _ _ h3]; exact h2
    clear hp0 hq0 hp1 hq1 hb0 hpq hV
    go_wp2_with fail
    go_step3
    go_wp2_with fail
    go_loopg [9, 10] (2 * gap U (gx x0) N + 1) (fun k how l wr => how = .int .i64 0 ∧ ∃ (p off n cap : Nat) (q : List Nat) (xs : List Int) (wl : List Bool), l = .slice (some ⟨p, off, none⟩) n cap ∧ RI (OnG out on) old U (gx x0) start N w wr V cV q0 p off n cap q xs wl ∧ (∀ e, OnG out on e → e.f ∉ q → hol (gx xs) e) ∧ (q ≠ [] ∨ asksB (gx xs) wt = false) ∧ 2 * gap U (gx xs) N + q.length = k ∧ k ≤ 2 * gap U (gx x0) N + 1)
    case atStart => exact ⟨rfl, p0, 0, 1, 1, [start], x0, _, rfl, hst0, H0, .inl (by simp), rfl, Nat.le_refl _⟩
    case round =>
      clear hst0 H0
      obtain ⟨rfl, p, off, n, cap, q, xs, wl, rfl, hri, hhol, hwat, hmk2, hkM⟩ := hrel
      have HH := Lib.hid hhol
      have HW := Lib.hid hwat
      have HM := Lib.hid hmk2
      clear hhol hwat hmk2
      have hql := hri.que.len
      rw [List.length_map] at hql
      cases q with
      | nil =>
        simp only [List.length_nil] at hql
        subst hql
        have hwt2 : asksB (gx xs) wt = false := HW.out.resolve_left (by simp)
        go_wp2_with fail
        rw [Exit.noGoto_ret]
        go_ret
        exact ⟨0, xs, rfl, hri.xsl, hri.vow, hri.bb, hri.spr.low, hri.spr.up, .inl ⟨rfl, fun e he => HH.out e he (by simp), asksB_false.1 hwt2, hri.spr.least⟩⟩
      | cons at0 q' =>
        obtain ⟨n', rfl⟩ : ∃ n', n = n' + 1 := ⟨q'.length, by simpa using hql.symm⟩
        have hql' : q'.length = n' := by simpa using hql
        have hat : at0 < N := hri.qlt at0 (by simp)
        have c0 : wr.cell? ⟨p, off, none⟩ = some (.int .i64 at0) := by have := hri.que.cell 0 (at0 : Int) (by simp); simpa using this
        have hcap : n' + 1 ≤ cap := hri.que.cap.1
        have hcap2 := hri.que.cap.2
        have hn1 : (0 : Int) < ((n' + 1 : Nat) : Int) := by omega
        have hatl : at0 < wl.length := by rw [hri.wll]; exact hat
        obtain ⟨wc0, wf0⟩ := own_cellB hri.wow (List.getElem?_eq_getElem hatl)
        have hatN : (at0 : Int) < (N : Int) := by omega
        have hq0l : q0 < wr.heap.size := (own_lt hri.wow).2
        obtain ⟨A1, m1, c1, o1, o2, o3, o4⟩ := hS.o at0 hat
        obtain ⟨nS, nU, nO⟩ := hS.ne
        obtain ⟨lS, lU, lO⟩ := hS.lt
        have hn2 : (0 : Int) < (n' : Int) + 1 := by omega
        have hcap3 : 1 ≤ cap := by omega
        go_upto_region 5 with fail
        go_cut [10] (fun l wx => wx = wr ∧ ∃ off2 cap2 : Nat, l = .slice (some ⟨p, off2, none⟩) n' cap2 ∧ QL wr w.heap.size p off2 n' cap2 (q'.map fun v : Nat => (v : Int)))
        case first =>
          by_cases hc1 : cap = 1
          · subst hc1
            obtain rfl : n' = 0 := by omega
            go_wp2_with fail
            go_meet
            exact ⟨rfl, off, 0, rfl, ⟨by simpa using hql', hri.que.lo, hri.que.hi, fun j u hj => by rw [List.eq_nil_of_length_eq_zero hql'] at hj; simp at hj, fun j h1 h2 => by omega, hri.que.frz, by omega, Nat.zero_le _⟩⟩
          · have hp2 := hri.que.pop
            go_wp2_with fail
            go_meet
            exact ⟨rfl, off + 1, cap - 1, rfl, hp2⟩
        case rest =>
        obtain ⟨rfl, off2, cap2, rfl, hq2⟩ := hcut
        -- the node is taken off the queue and marked
        have hri1 : RI (OnG out on) old U (gx x0) start N w (wc.setCell ⟨q0, at0, none⟩ (.bool false)) V cV q0 p off2 n' cap2 q' xs (wl.set at0 false) := by
          refine ⟨hq2.set_ne hri.ne _ _, hri.ne, hri.q0lo, by rw [List.length_set]; exact hri.wll, own_storeB hri.wow at0 false, hri.xsl, own_other hri.vow (by simp [Value.ownBlock]; have := hri.q0lo; omega) _ _, hri.bb.setNew hri.q0lo _ _, hri.spr, fun v hv => hri.qlt v (List.mem_cons_of_mem _ hv), fun v hv => ?_⟩
          rw [List.getElem?_set] at hv
          split at hv
          · simp at hv
          · rename_i hne
            rcases List.mem_cons.1 (hri.wq v hv) with h | h
            · exact absurd h.symm hne
            · exact h
        have w1S1 := (hri1.bb.cell (p := ⟨S, 1, none⟩) lS nS).trans hS.s1
        have w1o := (hri1.bb.cell (p := ⟨OU, at0, none⟩) lU nU).trans o1
        have hm1 : (out at0).length = m1 := o2.1
        go_wp2_with fail
        go_loopw [10, 39] (fun l i wi => ∃ j : Nat, j ≤ m1 ∧ i = .int .i64 j ∧ ∃ (p off n cap : Nat) (q : List Nat) (xs : List Int) (wl : List Bool), l = .slice (some ⟨p, off, none⟩) n cap ∧ RI (OnG out on) old U (gx x0) start N w wi V cV q0 p off n cap q xs wl ∧ (∀ e, OnG out on e → e.f ∉ q → e.f ≠ at0 → hol (gx xs) e) ∧ (∀ e ∈ (out at0).take j, on e.k = true → hol (gx xs) e) ∧ 2 * gap U (gx xs) N + q.length < gk) (fun _ i _ => m1 - (intOf i).toNat)
        case atStart => exact ⟨0, Nat.zero_le _, rfl, p, off2, n', cap2, q', xs, _, rfl, hri1, fun e he h1 h2 => HH.out e he (by simp [h1, h2]), by simp, by rw [← HM.out]; simp⟩
        case round =>
          clear w1S1 w1o hri1 c0 wc0 wf0 hri HH HW HM hq2
          obtain ⟨j, hj, rfl, p, off, n, cap, q, xs, wl, rfl, hri, hhol, hdone, hlt⟩ := hrel
          have HH := Lib.hid hhol
          have HD := Lib.hid hdone
          have HL := Lib.hid hlt
          clear hhol hdone hlt
          have hxn : ∀ v, 0 ≤ gx xs v ∧ gx xs v ≤ 100000000 := fun v => ⟨Int.le_trans (hx00 v) (hri.spr.low v), Int.le_trans (hri.spr.up v) (hU9 v)⟩
          have hql := hri.que.len
          rw [List.length_map] at hql
          by_cases hjm : j < m1
          · obtain ⟨b, off1, e, rfl, hbl, he, h0, h1, h2, h3⟩ := (EL.keep (w' := wr) o2 fun b off e hb i => hri.bb.cell (p := ⟨b, i, none⟩) hb (o4 b off e)).at_ hjm
            obtain ⟨ef, et, ek, eb0, eb1⟩ := hG.ok at0 e (List.mem_of_getElem? he)
            have Hef := Lib.hid ef
            have Hst : Hid ((out at0).take (j + 1) = (out at0).take j ++ [e]) := take_snoc he
            have hbw : Below wr.heap.size wr (wr.alloc (.cells #[.int .i64 e.f, .int .i64 e.t, .int .i64 e.b, .int .i64 e.k] 68)) := (Below.refl _ _).alloc (Nat.le_refl _) _
            have hri1 := hri.then hbw
            have hoff : b < wr.heap.size := Nat.lt_of_lt_of_le hbl hri.bb.size
            have z1 := (hri1.bb.cell (p := ⟨S, 2, none⟩) lS nS).trans hS.s2
            have z2 := (hri1.bb.cell (p := ⟨ON, e.k, none⟩) lO nO).trans (hS.k e.k ek)
            have z3 := (own_cell hri1.vow (gx_some (xs := xs) (v := at0) (by rw [hri.xsl]; exact hat))).1
            have z4 := (own_cell hri1.vow (gx_some (xs := xs) (v := e.t) (by rw [hri.xsl]; exact et))).1
            have i1 : (e.k : Int) < (L : Int) := by omega
            have i2 : (e.t : Int) < (N : Int) := by omega
            have x1b := hxn at0
            have x2b := hxn e.t
            have Hmem := Lib.hid he
            clear ef he
            cases hon : on e.k
            · rw [hon] at z2
              go_wp2_with fail
              go_quiet (fail)
              go_wp2_with fail
              go_roundw
              case rel =>
                refine ⟨j + 1, by omega, by go_num, p, off, n, cap, q, xs, wl, rfl, hri1.then (below_drewN (Below.refl _ _) _), HH.out, fun e' he' hon' => ?_, HL.out⟩
                rw [Hst.out] at he'
                rcases List.mem_append.1 he' with h | h
                · exact HD.out e' h hon'
                · rw [List.mem_singleton.1 h] at hon'; rw [hon] at hon'; cases hon'
              case measure => simp [intOf]; omega
            · rw [hon] at z2
              by_cases hr : gx xs e.t < gx xs at0 + e.b
              · have hOn : OnG out on e := ⟨by rw [Hef.out]; exact List.mem_of_getElem? Hmem.out, hon⟩
                have hU1 : Sat (OnG out on) U := fun e' he' => by have := hsat e' he'; unfold hol at this ⊢; rw [hU, hU]; omega
                have hup := hri.spr.up at0
                have hne : e.t ≠ at0 := fun h => by rw [h] at hr; have := hU1 e hOn; unfold hol at this; rw [h, Hef.out] at this; omega
                have hspr := hri.spr.raise hsat (fun v => by rw [hx0]; by_cases h : v = start
                                                             · subst h; rw [upd_same]; omega
                                                             · rw [upd_ne _ _ h]; exact Int.le_refl _) hU1 hOn (by rw [Hef.out]; exact hr)
                rw [Hef.out] at hspr
                have hgap := gap_upd (U := U) (x := gx xs) hr (by have h9 := hU1 e hOn; unfold hol at h9; rw [Hef.out] at h9; omega) N et
                have hgt : ¬ gx xs at0 + e.b ≤ gx xs e.t := by omega
                have hbb2 := Below.refl (wr.heap.size + 1) (wr.alloc (.cells #[.int .i64 e.f, .int .i64 e.t, .int .i64 e.b, .int .i64 e.k] 68))
                go_wp2_with fail
                go_quiet (fail)
                have hbb3 : Below (wr.heap.size + 1) (wr.alloc (.cells #[.int .i64 e.f, .int .i64 e.t, .int .i64 e.b, .int .i64 e.k] 68)) ((wr.alloc (.cells #[.int .i64 e.f, .int .i64 e.t, .int .i64 e.b, .int .i64 e.k] 68)).drewN nq) := below_drewN hbb2 _
                have hri3 := hri1.then (below_drewN (Below.refl _ (wr.alloc (.cells #[.int .i64 e.f, .int .i64 e.t, .int .i64 e.b, .int .i64 e.k] 68))) nq)
                generalize (wr.alloc (.cells #[.int .i64 e.f, .int .i64 e.t, .int .i64 e.b, .int .i64 e.k] 68)).drewN nq = W3 at hbb3 hri3 ⊢
                obtain ⟨y0, y1, y2, y3, hX3⟩ := box4 hbb3
                have v1 := own_cell hri3.vow (gx_some (xs := xs) (v := at0) (by rw [hri3.xsl]; exact hat))
                have v2 := own_cell hri3.vow (gx_some (xs := xs) (v := e.t) (by rw [hri3.xsl]; exact et))
                have v1a := v1.1
                have v2a := v2.1
                have v2b := v2.2
                have hVw : V ≠ wr.heap.size := by have := (own_lt hri.vow).2; omega
                have hbs : wr.heap.size < W3.heap.size := by have := hbb3.size; simp at this; omega
                clear z1 z2 z3 z4 hri1 hbb2 hbw v1 v2
                go_wp2_with fail
                go_region_held3 (fun w' => w'.cell? ⟨wr.heap.size, 1, none⟩ = some (.int .i64 e.t) ∧ w'.cell? ⟨V, at0, none⟩ = some (.int .i64 (gx xs at0)) ∧ w'.cell? ⟨wr.heap.size, 2, none⟩ = some (.int .i64 e.b)) (first | exact ⟨y1, v1a, y2⟩ | exact ⟨keep_set (Ne.symm hVw) y1, keep_off hne v1a, keep_set (Ne.symm hVw) y2⟩) (fail)
                rw [show IntKind.i64.wrap (gx xs at0 + e.b) = gx xs at0 + e.b by rw [IntKind.wrap_i64]; omega]
                have hpV : p ≠ V := by have := hri3.que.lo; omega
                have hq0V : q0 ≠ V := by have := hri3.q0lo; omega
                have hxl : e.t < xs.length := by rw [hri3.xsl]; exact et
                have hri4 : RI (OnG out on) old U (gx x0) start N w (W3.setCell ⟨V, e.t, none⟩ (.int .i64 (gx xs at0 + e.b))).drew V cV q0 p off n cap q (xs.set e.t (gx xs at0 + e.b)) wl :=
                  RI.then ⟨hri3.que.set_ne hpV _ _, hri3.ne, hri3.q0lo, hri3.wll, own_other hri3.wow (by simp [Value.ownBlock]; omega) _ _, by rw [List.length_set]; exact hri3.xsl, own_store hri3.vow e.t _, hri3.bb.setT e.t _, by rw [gx_set _ _ _ hxl]; exact hspr, hri3.qlt, hri3.wq⟩ (Below.refl _ _).drew
                have u1 : (W3.setCell ⟨V, e.t, none⟩ (.int .i64 (gx xs at0 + e.b))).drew.cell? ⟨wr.heap.size, 1, none⟩ = some (.int .i64 e.t) := keep_set (Ne.symm hVw) y1
                have hbs4 : wr.heap.size < (W3.setCell ⟨V, e.t, none⟩ (.int .i64 (gx xs at0 + e.b))).drew.heap.size := by
                  show wr.heap.size < (W3.setCell ⟨V, e.t, none⟩ (.int .i64 (gx xs at0 + e.b))).heap.size
                  rw [World.size_setCell]; exact hbs
                have hgxs : Hid (gx (xs.set e.t (gx xs at0 + e.b)) = upd (gx xs) e.t (gx xs at0 + e.b)) := gx_set _ _ _ hxl
                generalize hz : gx xs at0 + e.b = z at *
                have Hz := Lib.hid hz
                generalize (W3.setCell ⟨V, e.t, none⟩ (.int .i64 z)).drew = W4 at hri4 u1 hbs4 ⊢
                clear y0 y1 y2 y3 v1a v2a v2b hbb3 hX3 hri3 hbs
                have hHH : Hid (∀ q2 : List Nat, e.t ∈ q2 → (∀ v ∈ q, v ∈ q2) → ∀ e', OnG out on e' → e'.f ∉ q2 → e'.f ≠ at0 → hol (gx (xs.set e.t z)) e') := fun q2 h1 h2 e' he' h3 h4 => by
                  rw [hgxs.out]
                  exact hol_upd (HH.out e' he' (fun h => h3 (h2 _ h)) h4) (fun h => h3 (h ▸ h1)) (by rw [← Hz.out]; omega)
                have hHD : Hid (∀ e' ∈ (out at0).take (j + 1), on e'.k = true → hol (gx (xs.set e.t z)) e') := fun e' he' hon' => by
                  have hf' : e'.f = at0 := (hG.ok at0 e' (List.mem_of_mem_take he')).1
                  rw [hgxs.out]
                  rw [Hst.out] at he'
                  rcases List.mem_append.1 he' with h | h
                  · exact hol_upd (HD.out e' h hon') (by rw [hf']; exact Ne.symm hne) (by rw [← Hz.out]; omega)
                  · rw [List.mem_singleton.1 h]
                    unfold hol
                    rw [upd_same, upd_ne _ _ (by rw [Hef.out]; exact Ne.symm hne), Hef.out, Hz.out]
                    exact Int.le_refl _
                have hgp : Hid (∀ m : Nat, m ≤ q.length + 1 → 2 * gap U (gx (xs.set e.t z)) N + m < gk) := fun m hm => by
                  have := HL.out
                  rw [hgxs.out]
                  omega
                have hwll := hri4.wll
                obtain ⟨wv, hwv⟩ : ∃ wv, wl[e.t]? = some wv := ⟨_, List.getElem?_eq_getElem (show e.t < wl.length by omega)⟩
                obtain ⟨wc1, wc2⟩ := own_cellB hri4.wow hwv
                cases wv
                · have hq0w : q0 < wr.heap.size := (own_lt hri.wow).2
                  have hq0n : q0 ≠ wr.heap.size := by omega
                  have u2 : (W4.setCell ⟨q0, e.t, none⟩ (.bool true)).cell? ⟨wr.heap.size, 1, none⟩ = some (.int .i64 e.t) := keep_set (Ne.symm hq0n) u1
                  have hqn : n ≤ 1000000000000 := by have := HL.out; omega
                  have hque5 := (hri4.que.set_ne hri4.ne e.t (.bool true)).below ((Below.refl _ (W4.setCell ⟨q0, e.t, none⟩ (.bool true))).alloc (Nat.le_refl _) (.cells #[.int .i64 e.t] 3))
                  have hbs5 := hri4.bb.size
                  have hsz5 : (W4.setCell ⟨q0, e.t, none⟩ (.bool true)).heap.size = W4.heap.size := World.size_setCell _ _ _
                  have hc5 : ((W4.setCell ⟨q0, e.t, none⟩ (.bool true)).alloc (.cells #[.int .i64 e.t] 3)).cell? ⟨W4.heap.size, 0, none⟩ = some (.int .i64 e.t) := new1 hsz5.symm
                  have hba5 : w.heap.size ≤ ((W4.setCell ⟨q0, e.t, none⟩ (.bool true)).alloc (.cells #[.int .i64 e.t] 3)).heap.size := by simp [hsz5]; omega
                  go_wp2_with (at_builtin; refine wpList_append_que _ rfl _ _ 33 rfl 3 i0 Try.underlying33 hi hz0 hz1 hz2 w.heap.size p off n cap _ rfl hque5 ⟨W4.heap.size, 0, none⟩ 1 (e.t : Int) rfl hc5 hqn hba5 ?_)
                  intro l' off' cap' w6 hq6 hl6 hg6
                  have hri6 : RI (OnG out on) old U (gx x0) start N w w6 V cV q0 l' off' (n + 1) cap' (q ++ [e.t]) (xs.set e.t z) (wl.set e.t true) := by
                    have hplo := hri4.que.lo
                    have hq0lo := hri4.q0lo
                    refine ⟨by rw [List.map_append]; exact hq6, ?_, hq0lo, by rw [List.length_set]; exact hri4.wll, own_grown (own_below (own_storeB hri4.wow e.t true) ((Below.refl _ _).alloc (Nat.le_refl _) _)) hg6 (fun k hk => by simp [Value.ownBlock] at hk ⊢; have := hri4.ne; omega), hri4.xsl, own_grown (own_below (own_other hri4.vow (by simp [Value.ownBlock]; omega) e.t (.bool true)) ((Below.refl _ _).alloc (Nat.le_refl _) _)) hg6 (fun k hk => by simp [Value.ownBlock] at hk ⊢; omega), ((hri4.bb.setNew hq0lo e.t (.bool true)).then ((Below.refl _ _).alloc (Nat.le_refl _) _) (by simp; omega)).grown hg6 (by simp; omega) (fun k hk => by simp at hk; omega), hri4.spr, fun v hv => ?_, fun v hv => ?_⟩
                    · rcases hl6 with rfl | h
                      · exact hri4.ne
                      · have h8 := (own_lt hri4.wow).2
                        omega
                    · rcases List.mem_append.1 hv with h | h
                      · exact hri4.qlt v h
                      · rw [List.mem_singleton.1 h]; exact et
                    · rw [List.getElem?_set] at hv
                      split at hv
                      · rename_i h; rw [← h]; simp
                      · exact List.mem_append_left _ (hri4.wq v hv)
                  clear hq6 hg6 hque5 u2
                  go_wp2_with fail
                  go_roundw
                  case rel => exact ⟨j + 1, by omega, by go_num, l', off', n + 1, cap', q ++ [e.t], _, _, rfl, hri6, hHH.out _ (by simp) (fun v hv => List.mem_append_left _ hv), hHD.out, hgp.out _ (by simp)⟩
                  case measure => simp [intOf]; omega
                · have hmem : e.t ∈ q := hri4.wq e.t hwv
                  go_wp2_with fail
                  go_roundw
                  case rel => exact ⟨j + 1, by omega, by go_num, p, off, n, cap, q, _, wl, rfl, hri4, hHH.out q hmem (fun _ h => h), hHD.out, hgp.out _ (Nat.le_succ _)⟩
                  case measure => simp [intOf]; omega
              · have hle : gx xs at0 + e.b ≤ gx xs e.t := by omega
                go_wp2_with fail
                go_quiet (fail)
                go_wp2_with fail
                go_roundw
                case rel =>
                  refine ⟨j + 1, by omega, by go_num, p, off, n, cap, q, xs, wl, rfl, hri1.then (below_drewN (Below.refl _ _) _), HH.out, fun e' he' hon' => ?_, HL.out⟩
                  rw [Hst.out] at he'
                  rcases List.mem_append.1 he' with h | h
                  · exact HD.out e' h hon'
                  · rw [List.mem_singleton.1 h]; unfold hol; rw [Hef.out]; omega
                case measure => simp [intOf]; omega
          · have hjm2 : ¬ (j : Int) < (m1 : Int) := by omega
            have hsm : Sm xs := fun z hz => by
              obtain ⟨i, hi, rfl⟩ := List.mem_iff_getElem.1 hz
              have h1 := hxn i
              rw [gx_at (List.getElem?_eq_getElem hi)] at h1
              omega
            have hak := asks_any A m c wt V N cV xs wr ((EL.keep (w' := wr) hw fun b off e hb i => hri.bb.cell (p := ⟨b, i, none⟩) hb (hwV b off e)).more hri.bb.size) hm (own_il hri.vow (own_lt hri.vow).2) hok hsm
            have hfull : (out at0).take j = out at0 := List.take_of_length_le (by omega)
            have Hall : Hid (∀ e, OnG out on e → e.f ∉ q → hol (gx xs) e) := fun e he hq => by
              by_cases hf : e.f = at0
              · exact HD.out e (by rw [hfull, ← hf]; exact he.1) he.2
              · exact HH.out e he hq hf
            clear hfull
            cases hask : asksB (gx xs) wt
            · rw [hask] at hak
              have Hak := Lib.hid hak
              clear hak
              go_wp2_with fail
              refine Hak.out.mono ?_
              rintro e w2 ⟨rfl, hb2⟩
              go_wp2_with fail
              go_roundg (2 * gap U (gx xs) N + q.length)
              case measure => exact HL.out
              case rel => exact ⟨rfl, p, off, n, cap, q, xs, wl, rfl, hri.then hb2, Hall.out, .inr hask, rfl, by have := HL.out; omega⟩
            · rw [hask] at hak
              have Hak := Lib.hid hak
              clear hak
              go_wp2_with fail
              refine Hak.out.mono ?_
              rintro e w2 ⟨rfl, hb2⟩
              have hri2 := hri.then hb2
              go_wp2_with fail
              rw [Exit.noGoto_ret]
              go_ret
              have hxs : gx x0 start = old start + d := by rw [hx0, upd_same]
              exact ⟨1, xs, rfl, hri2.xsl, hri2.vow, hri2.bb, hri2.spr.low, hri2.spr.up, .inr ⟨rfl, fun y hy hyw => hri2.spr.circle (fun e he => (hwt e he).1) (fun e he => by rw [hxs]; exact (hwt e he).2) (by rw [hU, hxs]) (asksB_true hask) y hy hyw⟩⟩
end Go.Proofs.Ytapajkfnpkekdaa
