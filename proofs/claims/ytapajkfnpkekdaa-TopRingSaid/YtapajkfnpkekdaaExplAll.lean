/-
  ExplAll: the texts GSprB, GSprW, GRep, GBnd, GExpl, one behind another.
-/
import Derived.Test.YtapajkfnpkekdaaGSpr
import Derived.Test.YtapajkfnpkekdaaGLonM
import Derived.Test.YtapajkfnpkekdaaShelf4
import Derived.Shelf.Bits.Mul64
import Derived.Laws.CopyOwn
import Derived.Laws.CopyRow
import Derived.Test.YtapajkfnpkekdaaGSolve
import Derived.Test.YtapajkfnpkekdaaGFolM
import Derived.OwnWalk
import Derived.Test.YtapajkfnpkekdaaGNeed
/-
  'spread' of package graph from one node on, all other nodes being unreached: how far each node is from it, for Bound.
-/
namespace Go.Proofs.Ytapajkfnpkekdaa
open Go Go.RowKit

/-- the number of a node that is not reached -/
def unr : Int := -4611686018427387904
/-- how many of the first nodes are reached -/
def cntR (x : Nat → Int) : Nat → Nat
  | 0 => 0
  | n + 1 => cntR x n + if x n = unr then 0 else 1
theorem cntR_le (x : Nat → Int) : ∀ n, cntR x n ≤ n
  | 0 => Nat.le_refl _
  | n + 1 => by unfold cntR; have := cntR_le x n; split <;> omega
theorem cntR_upd {x : Nat → Int} {t : Nat} {z : Int} (hz : z ≠ unr) : ∀ n, cntR x n ≤ cntR (upd x t z) n ∧ (t < n → x t = unr → cntR x n + 1 ≤ cntR (upd x t z) n)
  | 0 => ⟨Nat.le_refl _, fun h => by omega⟩
  | n + 1 => by
    obtain ⟨h1, h2⟩ := cntR_upd (x := x) (t := t) hz n
    unfold cntR
    by_cases hn : n = t
    · subst hn
      rw [upd_same, if_neg hz]
      refine ⟨by split <;> omega, fun _ h => ?_⟩
      rw [if_pos h]; omega
    · rw [upd_ne _ _ hn]
      exact ⟨by omega, fun h h3 => by have := h2 (by omega) h3; omega⟩
/-- numbers raised, the unreached ones being 0 -/
def fixR (x : Nat → Int) (v : Nat) : Int := if x v = unr then 0 else x v + 3000000
theorem fixR_upd {x : Nat → Int} {t : Nat} {z : Int} (hz : z ≠ unr) : fixR (upd x t z) = upd (fixR x) t (z + 3000000) := by
  funext v
  by_cases h : v = t
  · subst h; unfold fixR; rw [upd_same, upd_same, if_neg hz]
  · unfold fixR; rw [upd_ne _ _ h, upd_ne _ _ h]
/-- what is so of the numbers while they spread from one node -/
structure BI (On : Edg → Prop) (start N : Nat) (x : Nat → Int) : Prop where
  low : ∀ v, v < N → x v ≠ unr → -1000 * (cntR x N : Int) ≤ x v
  up : ∀ y : Nat → Int, Sat On y → ∀ v, v < N → x v ≠ unr → x v ≤ y v - y start
  reach : ∀ R : Nat → Prop, (∀ e, On e → R e.f → R e.t) → R start → ∀ v, v < N → x v ≠ unr → R v
  at0 : x start ≠ unr ∧ 0 ≤ x start
section
variable {On : Edg → Prop} {start N : Nat} {x : Nat → Int}
theorem BI.lo (h : BI On start N x) (hN : N ≤ 2000) {v : Nat} (hvN : v < N) (hv : x v ≠ unr) : -2000000 ≤ x v := by
  have h1 := h.low v hvN hv
  have h2 := cntR_le x N
  have h3 : (cntR x N : Int) ≤ 2000 := by omega
  omega
theorem BI.begin (hx : ∀ v, v < N → x v = upd (fun _ => unr) start 0 v) (hst : start < N) : BI On start N x := by
  have hu : (0 : Int) ≠ unr := by decide
  have hv : ∀ v, v < N → x v ≠ unr → v = start ∧ x v = 0 := fun v hvN h => by
    rw [hx v hvN] at h ⊢
    by_cases hne : v = start
    · exact ⟨hne, by rw [hne, upd_same]⟩
    · rw [upd_ne _ _ hne] at h; exact (h rfl).elim
  refine ⟨fun v hvN h => ?_, fun y _ v hvN h => ?_, fun R _ h0 v hvN h => ?_, ?_⟩
  · rw [(hv v hvN h).2]; omega
  · rw [(hv v hvN h).2, (hv v hvN h).1]; omega
  · rw [(hv v hvN h).1]; exact h0
  · rw [hx _ hst, upd_same]; exact ⟨hu, Int.le_refl _⟩
theorem BI.raise (h : BI On start N x) (hN : N ≤ 2000) {e : Edg} (he : On e) (hb : -1000 ≤ e.b) (hf : e.f < N) (ht : e.t < N) (hl : x e.f ≠ unr) (hr : x e.t < x e.f + e.b) : x e.f + e.b ≠ unr ∧ BI On start N (upd x e.t (x e.f + e.b)) := by
  have h1 := h.lo hN hf hl
  have hne : x e.f + e.b ≠ unr := by unfold unr; omega
  have h2 := h.low e.f hf hl
  obtain ⟨c1, c2⟩ := cntR_upd (x := x) (t := e.t) hne N
  refine ⟨hne, fun v hvN hv => ?_, fun y hy v hvN hv => ?_, fun R hR h0 v hvN hv => ?_, ?_⟩
  · by_cases hvt : v = e.t
    · subst hvt
      rw [upd_same]
      by_cases hu : x e.t = unr
      · have := c2 ht hu; omega
      · have := h.low e.t ht hu; omega
    · rw [upd_ne _ _ hvt] at hv ⊢
      have := h.low v hvN hv
      omega
  · by_cases hvt : v = e.t
    · subst hvt
      rw [upd_same]
      have h3 := h.up y hy e.f hf hl
      have h4 := hy e he
      unfold hol at h4
      omega
    · rw [upd_ne _ _ hvt] at hv ⊢
      exact h.up y hy v hvN hv
  · by_cases hvt : v = e.t
    · subst hvt
      exact hR e he (h.reach R hR h0 e.f hf hl)
    · rw [upd_ne _ _ hvt] at hv
      exact h.reach R hR h0 v hvN hv
  · by_cases hvt : start = e.t
    · rw [hvt, upd_same]
      have := h.at0
      rw [hvt] at this
      exact ⟨hne, by omega⟩
    · rw [upd_ne _ _ hvt]; exact h.at0
/-- what is told of the nodes as the reference tells it -/
def stR (n : Nat) (x : Nat → Int) : List (Option Int) := (List.range (n + 1)).map fun v => if x v = unr then none else some (x v)
theorem stR_at {n v : Nat} {x : Nat → Int} {a : Int} : gw (stR n x) v = some a ↔ v < n + 1 ∧ x v ≠ unr ∧ x v = a := by
  unfold gw stR
  by_cases hv : v < n + 1
  · by_cases hu : x v = unr
    · simp [List.getD, hv, hu]
    · simp [List.getD, hv, hu]
  · simp [List.getD, hv]
theorem BI.lon {n : Nat} {E : List Edg} (h : BI On start (n + 1) x) (hst : start < n + 1) (hE : ∀ e, On e ↔ e ∈ E) (hok : ∀ e ∈ E, e.t < n + 1) (hrest : ∀ e ∈ E, x e.f ≠ unr → x e.t ≠ unr ∧ hol x e) : LonE n E start (stR n x) where
  len := by simp [stR]
  up := fun y hy v a ha => by
    obtain ⟨h0, h1, h2⟩ := stR_at.1 ha
    have := h.up y (fun e he => hy e ((hE e).1 he)) v h0 h1
    omega
  reach := fun R hR h0 v a ha => by
    obtain ⟨h3, h1, _⟩ := stR_at.1 ha
    exact h.reach R (fun e he => hR e ((hE e).1 he)) h0 v h3 h1
  at0 := ⟨x start, stR_at.2 ⟨hst, h.at0.1, rfl⟩, h.at0.2⟩
  rest := fun e he a ha => by
    obtain ⟨_, h1, rfl⟩ := stR_at.1 ha
    obtain ⟨h2, h3⟩ := hrest e he h1
    exact ⟨x e.t, stR_at.2 ⟨hok e he, h2, rfl⟩, h3⟩
end
end Go.Proofs.Ytapajkfnpkekdaa

/-
  The walk of 'spread' from one node on (no edges are asked).
-/
namespace Go.Proofs.Ytapajkfnpkekdaa
open Go Go.RowKit

/-- what holds between the rounds: q waits, the numbers are xs, the marks wl -/
structure RB (On : Edg → Prop) (start N : Nat) (w wr : World) (V cV q0 p off n cap : Nat) (q : List Nat) (xs : List Int) (wl : List Bool) : Prop where
  que : QL wr w.heap.size p off n cap (q.map fun v : Nat => (v : Int))
  ne : p ≠ q0
  q0lo : w.heap.size ≤ q0
  wll : wl.length = N
  wow : wr.ownsRow w.heap.size 4 1 (.slice (some ⟨q0, 0, none⟩) N N) N (bool1 wl)
  xsl : xs.length = N
  vow : wr.ownsRow 0 3 1 (.slice (some ⟨V, 0, none⟩) N cV) N (int1 xs)
  bb : BB w.heap.size V w wr
  bi : BI On start N (gx xs)
  qlt : ∀ v ∈ q, v < N
  wq : ∀ v, wl[v]? = some true → v ∈ q
  ql : ∀ v ∈ q, gx xs v ≠ unr
theorem RB.then {On : Edg → Prop} {start N V cV q0 p off n cap : Nat} {w wr w' : World} {q : List Nat} {xs : List Int} {wl : List Bool} (h : RB On start N w wr V cV q0 p off n cap q xs wl) (hb : Below wr.heap.size wr w') : RB On start N w w' V cV q0 p off n cap q xs wl :=
  ⟨h.que.below hb, h.ne, h.q0lo, h.wll, own_below h.wow hb, h.xsl, own_below h.vow hb, h.bb.then hb h.bb.size, h.bi, h.qlt, h.wq, h.ql⟩

theorem indexAskNil_any (bv : Nat) (w : World) :
    Calls Try.prog 53 #[.slice none 0 0, .func (.func 38) #[] #[.pointer (some ⟨bv, 0, none⟩)]] w fun e w' => e = .returned (.int .i64 (-1)) ∧ w' = w := by
  go_enter Try.func53, Try.ntmps53
  go_wp2
  go_loopw [8] (fun i wr => i = .int .i64 0 ∧ wr = w) (fun _ _ => 0)
  case atStart => exact ⟨rfl, rfl⟩
  case round =>
    obtain ⟨rfl, rfl⟩ := hrel
    go_wp2
    go_ret
    exact ⟨rfl, rfl⟩
theorem asksNil_any (g N cv : Nat) (w : World) :
    Calls Try.prog 29 #[.slice (some ⟨g, 0, none⟩) N cv, .slice none 0 0] w fun e w' => e = .returned (.bool false) ∧ Below w.heap.size w w' := by
  have hX : Below w.heap.size w (w.alloc (.cells #[.slice (some ⟨g, 0, none⟩) N cv] 33)) := (Below.refl _ w).alloc (Nat.le_refl _) _
  have hI := Lib.hid (indexAskNil_any w.heap.size (w.alloc (.cells #[.slice (some ⟨g, 0, none⟩) N cv] 33)))
  go_enter Try.func29, Try.ntmps29
  go_wp2_with (first | (go_at_call 53; refine hI.out.mono ?_; rintro e w1 ⟨rfl, rfl⟩) | go_in)
  go_ret
  exact ⟨rfl, hX⟩

set_option maxRecDepth 100000 in
set_option maxHeartbeats 4000000 in
theorem spreadB_any (S OU ON N L V cV : Nat) (out : Nat → List Edg) (on : Nat → Bool) (start : Nat) (x0 : List Int) (ys : Nat → Int) (w : World)
    (hS : SR w S OU ON N L out on V) (hG : OkG N L out) (hV : w.ownsRow 0 3 1 (.slice (some ⟨V, 0, none⟩) N cV) N (int1 x0)) (hN : N ≤ 2000) (hst : start < N) (hx0 : ∀ v, v < N → gx x0 v = upd (fun _ => unr) start 0 v) (hsat : Sat (OnG out on) ys) (hys : ∀ v, 0 ≤ ys v ∧ ys v ≤ 2000000) :
    Calls Try.prog 31 #[.pointer (some ⟨S, 0, none⟩), .slice (some ⟨V, 0, none⟩) N cV, .int .i64 start, .slice none 0 0] w fun e w' =>
      ∃ xs : List Int, e = .returned (.int .i64 0) ∧ xs.length = N ∧ w'.ownsRow 0 3 1 (.slice (some ⟨V, 0, none⟩) N cV) N (int1 xs) ∧ BB w.heap.size V w w' ∧ BI (OnG out on) start N (gx xs) ∧ ∀ e, OnG out on e → gx xs e.f ≠ unr → hol (gx xs) e := by
  obtain ⟨i0, hi, hz0, hz1, hz2⟩ := info_parts infoI
  obtain ⟨j0, hj, hy0, hy1, hy2⟩ := info_parts infoB
  have hx0l : x0.length = N := by have := hV.1; rw [int1_len] at this; omega
  have hVl : V < w.heap.size := (own_lt hV).2
  obtain ⟨oB, hoB⟩ : ∃ oB, oB = Obj.cells (madeCells (Value.bool false).cells (N * 1)) 4 := ⟨_, rfl⟩
  have hmk : ∀ W : World, (Instr.makeSlice 55 (.int .i64 N) (.int .i64 N)).run Try.prog W = .ok (.slice (some ⟨W.heap.size, 0, none⟩) N N) (W.alloc oB) := fun W => by
    have h := run_make (P := Try.prog) W 55 4 j0 (.bool false) Try.underlying55 hj hy0 .i64 .i64 N N (by omega) (Int.le_refl _) (by rw [hy2]; omega) (by omega)
    rw [hy1] at h
    rw [hoB]
    exact h
  have HoB : Hid (Obj.cells (madeCells #[.bool false] N) 4 = oB) := by rw [Hid, hoB]; simp [Value.cells]
  clear hoB
  go_enter Try.func31, Try.ntmps31
  go_wp2_with fail
  go_step3
  go_wp2_with fail
  go_cut [10, 11] (fun l s wx => ∃ p q : Nat, l = .slice (some ⟨p, 0, none⟩) 1 1 ∧ s = .slice (some ⟨q, 0, none⟩) N N ∧ p ≠ q ∧ wx.heap[p]? = some (.cells #[.int .i64 start] 3 (0, 0)) ∧ wx.heap[q]? = some oB ∧ w.heap.size ≤ p ∧ w.heap.size ≤ q ∧ Below w.heap.size w wx)
  case first =>
    go_region_held3 (fun _ => True) (trivial) (fail)
    all_goals (go_wp2_with fail; go_meet)
    · have hh := heap_two w (.cells #[.int .i64 start] 3) oB
      exact ⟨w.heap.size, w.heap.size + 1, rfl, rfl, by omega, hh.1, hh.2, Nat.le_refl _, by omega, (((Below.refl _ w).alloc (Nat.le_refl _) _).alloc (by simp) _).drew⟩
    · have hh := heap_two w oB (.cells #[.int .i64 start] 3)
      exact ⟨w.heap.size + 1, w.heap.size, rfl, rfl, by omega, hh.2, hh.1, by omega, Nat.le_refl _, (((Below.refl _ w).alloc (Nat.le_refl _) _).alloc (by simp) _).drew⟩
  case rest =>
    obtain ⟨p0, q0, rfl, rfl, hpq, hp0, hq0, hp1, hq1, hb0⟩ := hcut
    have hst0 : RB (OnG out on) start N w wc V cV q0 p0 0 1 1 [start] x0 (List.replicate N false) := by
      refine ⟨⟨rfl, hp1, (Array.getElem?_eq_some_iff.1 hp0).1, fun j u hj => ?_, fun j h1 h2 => by omega, fun i => by simp [World.frozen?, hp0], by omega, by decide⟩, hpq, hq1, by simp, ?_, hx0l, own_below hV hb0, BB.of hb0, BI.begin hx0 hst, fun v hv => by rw [List.mem_singleton.1 hv]; exact hst, fun v hv => ?_, fun v hv => by rw [List.mem_singleton.1 hv, hx0 _ hst, upd_same]; decide⟩
      · have hj0 : j = 0 := by have := (List.getElem?_eq_some_iff.1 hj).1; simp at this; exact this
        subst hj0
        simp at hj; subst hj
        simp [World.cell?, hp0]
      · refine ⟨by simp [bool1], .inr ⟨q0, N, madeCells #[.bool false] N, rfl, hq1, by rw [hq0, ← HoB.out], Nat.le_refl _, by unfold maxLen; omega, by simp [madeCells], ?_⟩⟩
        have := made_false N
        simp [Value.cells] at this
        rw [List.take_of_length_le (by simp [madeCells])]
        exact this
      · rw [List.getElem?_replicate] at hv
        split at hv <;> simp at hv
    obtain ⟨U, hU⟩ : ∃ U : Nat → Int, ∀ v, U v = ys v - ys start + 3000000 := ⟨_, fun _ => rfl⟩
    have hU9 : ∀ v, U v ≤ 5000000 := fun v => by have := hys v; have := hys start; have := hU v; omega
    have hefN : ∀ e, OnG out on e → e.f < N := fun e he => Classical.byContradiction fun h3 => by
      have h5 := he.1
      rw [hG.hi e.f (by omega)] at h5
      cases h5
    have hfl : ∀ l : List Int, l.length = N → BI (OnG out on) start N (gx l) → ∀ v, 0 ≤ fixR (gx l) v := fun l hl hb v => by
      unfold fixR
      by_cases hvN : v < N
      · by_cases hv : gx l v = unr
        · rw [if_pos hv]; exact Int.le_refl _
        · rw [if_neg hv]
          have h1 := hb.lo hN hvN hv
          omega
      · have h0 : gx l v = 0 := by unfold gx; rw [List.getD_eq_getElem?_getD, List.getElem?_eq_none (by omega)]; rfl
        rw [h0]; decide
    have hfn : ∀ x, BI (OnG out on) start N x → ∀ v, v < N → 0 ≤ fixR x v ∧ fixR x v ≤ U v := fun x hb v hvN => by
      have := hys v
      have := hys start
      have h3 := hU v
      unfold fixR
      by_cases hv : x v = unr
      · rw [if_pos hv]; omega
      · rw [if_neg hv]
        have h1 := hb.lo hN hvN hv
        have h2 := hb.up ys hsat v hvN hv
        omega
    have HU := Lib.hid hU
    have hM : 2 * gap U (fixR (gx x0)) N + 1 ≤ 1000000000000 := by
      have h1 := gap_le (U := U) (x := fixR (gx x0)) (K := 5000000) hU9 (hfl _ hx0l hst0.bi) N
      have h2 : N * 5000000 ≤ 2000 * 5000000 := Nat.mul_le_mul_right _ hN
      omega
    have H0 : ∀ e, OnG out on e → e.f ∉ [start] → gx x0 e.f ≠ unr → hol (gx x0) e := by
      intro e he hns hl
      have h1 : e.f ≠ start := fun h => hns (by rw [h]; simp)
      rw [hx0 _ (hefN e he), upd_ne _ _ h1] at hl
      exact (hl rfl).elim
    clear hp0 hq0 hp1 hq1 hb0 hpq hV
    go_wp2_with fail
    go_step3
    go_wp2_with fail
    go_loopg [9, 10] (2 * gap U (fixR (gx x0)) N + 1) (fun k how l wr => how = .int .i64 0 ∧ ∃ (p off n cap : Nat) (q : List Nat) (xs : List Int) (wl : List Bool), l = .slice (some ⟨p, off, none⟩) n cap ∧ RB (OnG out on) start N w wr V cV q0 p off n cap q xs wl ∧ (∀ e, OnG out on e → e.f ∉ q → gx xs e.f ≠ unr → hol (gx xs) e) ∧ 2 * gap U (fixR (gx xs)) N + q.length = k ∧ k ≤ 2 * gap U (fixR (gx x0)) N + 1)
    case atStart => exact ⟨rfl, p0, 0, 1, 1, [start], x0, _, rfl, hst0, H0, rfl, Nat.le_refl _⟩
    case round =>
      clear hst0 H0
      obtain ⟨rfl, p, off, n, cap, q, xs, wl, rfl, hri, hhol, hmk2, hkM⟩ := hrel
      have HH := Lib.hid hhol
      have HM := Lib.hid hmk2
      clear hhol hmk2
      have hql := hri.que.len
      rw [List.length_map] at hql
      cases q with
      | nil =>
        simp only [List.length_nil] at hql
        subst hql
        go_wp2_with fail
        rw [Exit.noGoto_ret]
        go_ret
        exact ⟨xs, rfl, hri.xsl, hri.vow, hri.bb, hri.bi, fun e he hl => HH.out e he (by simp) hl⟩
      | cons at0 q' =>
        obtain ⟨n', rfl⟩ : ∃ n', n = n' + 1 := ⟨q'.length, by simpa using hql.symm⟩
        have hql' : q'.length = n' := by simpa using hql
        have hat : at0 < N := hri.qlt at0 (by simp)
        have hat9 : gx xs at0 ≠ unr := hri.ql at0 (by simp)
        have c0 : wr.cell? ⟨p, off, none⟩ = some (.int .i64 at0) := by have := hri.que.cell 0 (at0 : Int) (by simp); simpa using this
        have hcap : n' + 1 ≤ cap := hri.que.cap.1
        have hcap2 := hri.que.cap.2
        have hn1 : (0 : Int) < ((n' + 1 : Nat) : Int) := by omega
        have hatl : at0 < wl.length := by rw [hri.wll]; exact hat
        obtain ⟨wc0, wf0⟩ := own_cellB hri.wow (List.getElem?_eq_getElem hatl)
        have hatN : (at0 : Int) < (N : Int) := by omega
        have hq0l : q0 < wr.heap.size := (own_lt hri.wow).2
        obtain ⟨A1, m1, c1, o1, o2, o3, o4⟩ := hS.o at0 hat
        obtain ⟨nS, nU, nO⟩ := hS.ne
        obtain ⟨lS, lU, lO⟩ := hS.lt
        have hn2 : (0 : Int) < (n' : Int) + 1 := by omega
        have hcap3 : 1 ≤ cap := by omega
        go_upto_region 5 with fail
        go_cut [10] (fun l wx => wx = wr ∧ ∃ off2 cap2 : Nat, l = .slice (some ⟨p, off2, none⟩) n' cap2 ∧ QL wr w.heap.size p off2 n' cap2 (q'.map fun v : Nat => (v : Int)))
        case first =>
          by_cases hc1 : cap = 1
          · subst hc1
            obtain rfl : n' = 0 := by omega
            go_wp2_with fail
            go_meet
            exact ⟨rfl, off, 0, rfl, ⟨by simpa using hql', hri.que.lo, hri.que.hi, fun j u hj => by rw [List.eq_nil_of_length_eq_zero hql'] at hj; simp at hj, fun j h1 h2 => by omega, hri.que.frz, by omega, Nat.zero_le _⟩⟩
          · have hp2 := hri.que.pop
            go_wp2_with fail
            go_meet
            exact ⟨rfl, off + 1, cap - 1, rfl, hp2⟩
        case rest =>
        obtain ⟨rfl, off2, cap2, rfl, hq2⟩ := hcut
        -- the node is taken off the queue and marked
        have hri1 : RB (OnG out on) start N w (wc.setCell ⟨q0, at0, none⟩ (.bool false)) V cV q0 p off2 n' cap2 q' xs (wl.set at0 false) := by
          refine ⟨hq2.set_ne hri.ne _ _, hri.ne, hri.q0lo, by rw [List.length_set]; exact hri.wll, own_storeB hri.wow at0 false, hri.xsl, own_other hri.vow (by simp [Value.ownBlock]; have := hri.q0lo; omega) _ _, hri.bb.setNew hri.q0lo _ _, hri.bi, fun v hv => hri.qlt v (List.mem_cons_of_mem _ hv), fun v hv => ?_, fun v hv => hri.ql v (List.mem_cons_of_mem _ hv)⟩
          rw [List.getElem?_set] at hv
          split at hv
          · simp at hv
          · rename_i hne
            rcases List.mem_cons.1 (hri.wq v hv) with h | h
            · exact absurd h.symm hne
            · exact h
        have w1S1 := (hri1.bb.cell (p := ⟨S, 1, none⟩) lS nS).trans hS.s1
        have w1o := (hri1.bb.cell (p := ⟨OU, at0, none⟩) lU nU).trans o1
        have hm1 : (out at0).length = m1 := o2.1
        go_wp2_with fail
        go_loopw [10, 39] (fun l i wi => ∃ j : Nat, j ≤ m1 ∧ i = .int .i64 j ∧ ∃ (p off n cap : Nat) (q : List Nat) (xs : List Int) (wl : List Bool), l = .slice (some ⟨p, off, none⟩) n cap ∧ RB (OnG out on) start N w wi V cV q0 p off n cap q xs wl ∧ (∀ e, OnG out on e → e.f ∉ q → e.f ≠ at0 → gx xs e.f ≠ unr → hol (gx xs) e) ∧ (∀ e ∈ (out at0).take j, on e.k = true → hol (gx xs) e) ∧ gx xs at0 ≠ unr ∧ 2 * gap U (fixR (gx xs)) N + q.length < gk) (fun _ i _ => m1 - (intOf i).toNat)
        case atStart => exact ⟨0, Nat.zero_le _, rfl, p, off2, n', cap2, q', xs, _, rfl, hri1, fun e he h1 h2 => HH.out e he (by simp [h1, h2]), by simp, hat9, by rw [← HM.out]; simp⟩
        case round =>
          clear w1S1 w1o hri1 c0 wc0 wf0 hri HH HM hq2 hat9
          obtain ⟨j, hj, rfl, p, off, n, cap, q, xs, wl, rfl, hri, hhol, hdone, hat9, hlt⟩ := hrel
          have HH := Lib.hid hhol
          have HD := Lib.hid hdone
          have HL := Lib.hid hlt
          clear hhol hdone hlt
          have hxn : ∀ v, -4611686018427387904 ≤ gx xs v ∧ gx xs v ≤ 100000000 := fun v => by
            have := hys v
            have := hys start
            by_cases hvN : v < N
            · by_cases hv : gx xs v = unr
              · rw [hv]; decide
              · have h1 := hri.bi.lo hN hvN hv
                have h2 := hri.bi.up ys hsat v hvN hv
                omega
            · have h0 : gx xs v = 0 := by unfold gx; rw [List.getD_eq_getElem?_getD, List.getElem?_eq_none (by rw [hri.xsl]; omega)]; rfl
              rw [h0]; decide
          have hql := hri.que.len
          rw [List.length_map] at hql
          by_cases hjm : j < m1
          · obtain ⟨b, off1, e, rfl, hbl, he, h0, h1, h2, h3⟩ := (EL.keep (w' := wr) o2 fun b off e hb i => hri.bb.cell (p := ⟨b, i, none⟩) hb (o4 b off e)).at_ hjm
            obtain ⟨ef, et, ek, eb0, eb1⟩ := hG.ok at0 e (List.mem_of_getElem? he)
            have Hef := Lib.hid ef
            have Hst : Hid ((out at0).take (j + 1) = (out at0).take j ++ [e]) := take_snoc he
            have hbw : Below wr.heap.size wr (wr.alloc (.cells #[.int .i64 e.f, .int .i64 e.t, .int .i64 e.b, .int .i64 e.k] 68)) := (Below.refl _ _).alloc (Nat.le_refl _) _
            have hri1 := hri.then hbw
            have hoff : b < wr.heap.size := Nat.lt_of_lt_of_le hbl hri.bb.size
            have z1 := (hri1.bb.cell (p := ⟨S, 2, none⟩) lS nS).trans hS.s2
            have z2 := (hri1.bb.cell (p := ⟨ON, e.k, none⟩) lO nO).trans (hS.k e.k ek)
            have z3 := (own_cell hri1.vow (gx_some (xs := xs) (v := at0) (by rw [hri.xsl]; exact hat))).1
            have z4 := (own_cell hri1.vow (gx_some (xs := xs) (v := e.t) (by rw [hri.xsl]; exact et))).1
            have i1 : (e.k : Int) < (L : Int) := by omega
            have i2 : (e.t : Int) < (N : Int) := by omega
            have x1b := hxn at0
            have x2b := hxn e.t
            have Hmem := Lib.hid he
            clear ef he
            cases hon : on e.k
            · rw [hon] at z2
              go_wp2_with fail
              go_quiet (fail)
              go_wp2_with fail
              go_roundw
              case rel =>
                refine ⟨j + 1, by omega, by go_num, p, off, n, cap, q, xs, wl, rfl, hri1.then (below_drewN (Below.refl _ _) _), HH.out, fun e' he' hon' => ?_, hat9, HL.out⟩
                rw [Hst.out] at he'
                rcases List.mem_append.1 he' with h | h
                · exact HD.out e' h hon'
                · rw [List.mem_singleton.1 h] at hon'; rw [hon] at hon'; cases hon'
              case measure => simp [intOf]; omega
            · rw [hon] at z2
              by_cases hr : gx xs e.t < gx xs at0 + e.b
              · have hOn : OnG out on e := ⟨by rw [Hef.out]; exact List.mem_of_getElem? Hmem.out, hon⟩
                have hlf : gx xs e.f ≠ unr := by rw [Hef.out]; exact hat9
                obtain ⟨hzu, hbi⟩ := hri.bi.raise hN hOn eb0 (hefN e hOn) et hlf (by rw [Hef.out]; exact hr)
                have hne : e.t ≠ at0 := fun h => by
                  have := hsat e hOn
                  unfold hol at this
                  rw [h] at hr this
                  rw [Hef.out] at this
                  omega
                rw [Hef.out] at hzu hbi
                have hfx := fixR_upd (x := gx xs) (t := e.t) hzu
                have hgap := gap_upd (U := U) (x := fixR (gx xs)) (t := e.t) (v := gx xs at0 + e.b + 3000000) (by
                  have h8 := hri.bi.lo hN hat hat9
                  unfold fixR
                  split <;> omega) (by
                  have h9 := (hfn _ hbi e.t et).2
                  rw [hfx, upd_same] at h9
                  exact h9) N et
                rw [← hfx] at hgap
                have hgt : ¬ gx xs at0 + e.b ≤ gx xs e.t := by omega
                have hbb2 := Below.refl (wr.heap.size + 1) (wr.alloc (.cells #[.int .i64 e.f, .int .i64 e.t, .int .i64 e.b, .int .i64 e.k] 68))
                go_wp2_with fail
                go_quiet (fail)
                have hbb3 : Below (wr.heap.size + 1) (wr.alloc (.cells #[.int .i64 e.f, .int .i64 e.t, .int .i64 e.b, .int .i64 e.k] 68)) ((wr.alloc (.cells #[.int .i64 e.f, .int .i64 e.t, .int .i64 e.b, .int .i64 e.k] 68)).drewN nq) := below_drewN hbb2 _
                have hri3 := hri1.then (below_drewN (Below.refl _ (wr.alloc (.cells #[.int .i64 e.f, .int .i64 e.t, .int .i64 e.b, .int .i64 e.k] 68))) nq)
                generalize (wr.alloc (.cells #[.int .i64 e.f, .int .i64 e.t, .int .i64 e.b, .int .i64 e.k] 68)).drewN nq = W3 at hbb3 hri3 ⊢
                obtain ⟨y0, y1, y2, y3, hX3⟩ := box4 hbb3
                have v1 := own_cell hri3.vow (gx_some (xs := xs) (v := at0) (by rw [hri3.xsl]; exact hat))
                have v2 := own_cell hri3.vow (gx_some (xs := xs) (v := e.t) (by rw [hri3.xsl]; exact et))
                have v1a := v1.1
                have v2a := v2.1
                have v2b := v2.2
                have hVw : V ≠ wr.heap.size := by have := (own_lt hri.vow).2; omega
                have hbs : wr.heap.size < W3.heap.size := by have := hbb3.size; simp at this; omega
                clear z1 z2 z3 z4 hri1 hbb2 hbw v1 v2
                go_wp2_with fail
                go_region_held3 (fun w' => w'.cell? ⟨wr.heap.size, 1, none⟩ = some (.int .i64 e.t) ∧ w'.cell? ⟨V, at0, none⟩ = some (.int .i64 (gx xs at0)) ∧ w'.cell? ⟨wr.heap.size, 2, none⟩ = some (.int .i64 e.b)) (first | exact ⟨y1, v1a, y2⟩ | exact ⟨keep_set (Ne.symm hVw) y1, keep_off hne v1a, keep_set (Ne.symm hVw) y2⟩) (fail)
                rw [show IntKind.i64.wrap (gx xs at0 + e.b) = gx xs at0 + e.b by rw [IntKind.wrap_i64]; omega]
                have hpV : p ≠ V := by have := hri3.que.lo; omega
                have hq0V : q0 ≠ V := by have := hri3.q0lo; omega
                have hxl : e.t < xs.length := by rw [hri3.xsl]; exact et
                have hri4 : RB (OnG out on) start N w (W3.setCell ⟨V, e.t, none⟩ (.int .i64 (gx xs at0 + e.b))).drew V cV q0 p off n cap q (xs.set e.t (gx xs at0 + e.b)) wl :=
                  RB.then ⟨hri3.que.set_ne hpV _ _, hri3.ne, hri3.q0lo, hri3.wll, own_other hri3.wow (by simp [Value.ownBlock]; omega) _ _, by rw [List.length_set]; exact hri3.xsl, own_store hri3.vow e.t _, hri3.bb.setT e.t _, by rw [gx_set _ _ _ hxl]; exact hbi, hri3.qlt, hri3.wq, fun v hv => by
                    rw [gx_set _ _ _ hxl]
                    by_cases hvt : v = e.t
                    · rw [hvt, upd_same]; exact hzu
                    · rw [upd_ne _ _ hvt]; exact hri3.ql v hv⟩ (Below.refl _ _).drew
                have u1 : (W3.setCell ⟨V, e.t, none⟩ (.int .i64 (gx xs at0 + e.b))).drew.cell? ⟨wr.heap.size, 1, none⟩ = some (.int .i64 e.t) := keep_set (Ne.symm hVw) y1
                have hbs4 : wr.heap.size < (W3.setCell ⟨V, e.t, none⟩ (.int .i64 (gx xs at0 + e.b))).drew.heap.size := by
                  show wr.heap.size < (W3.setCell ⟨V, e.t, none⟩ (.int .i64 (gx xs at0 + e.b))).heap.size
                  rw [World.size_setCell]; exact hbs
                have hgxs : Hid (gx (xs.set e.t (gx xs at0 + e.b)) = upd (gx xs) e.t (gx xs at0 + e.b)) := gx_set _ _ _ hxl
                generalize hz : gx xs at0 + e.b = z at *
                have Hz := Lib.hid hz
                generalize (W3.setCell ⟨V, e.t, none⟩ (.int .i64 z)).drew = W4 at hri4 u1 hbs4 ⊢
                clear y0 y1 y2 y3 v1a v2a v2b hbb3 hX3 hri3 hbs
                have hHH : Hid (∀ q2 : List Nat, e.t ∈ q2 → (∀ v ∈ q, v ∈ q2) → ∀ e', OnG out on e' → e'.f ∉ q2 → e'.f ≠ at0 → gx (xs.set e.t z) e'.f ≠ unr → hol (gx (xs.set e.t z)) e') := fun q2 h1 h2 e' he' h3 h4 h5 => by
                  rw [hgxs.out] at h5 ⊢
                  rw [upd_ne _ _ (show e'.f ≠ e.t from fun h => h3 (h ▸ h1))] at h5
                  exact hol_upd (HH.out e' he' (fun h => h3 (h2 _ h)) h4 h5) (fun h => h3 (h ▸ h1)) (by rw [← Hz.out]; omega)
                have hHD : Hid (∀ e' ∈ (out at0).take (j + 1), on e'.k = true → hol (gx (xs.set e.t z)) e') := fun e' he' hon' => by
                  have hf' : e'.f = at0 := (hG.ok at0 e' (List.mem_of_mem_take he')).1
                  rw [hgxs.out]
                  rw [Hst.out] at he'
                  rcases List.mem_append.1 he' with h | h
                  · exact hol_upd (HD.out e' h hon') (by rw [hf']; exact Ne.symm hne) (by rw [← Hz.out]; omega)
                  · rw [List.mem_singleton.1 h]
                    unfold hol
                    rw [upd_same, upd_ne _ _ (by rw [Hef.out]; exact Ne.symm hne), Hef.out, Hz.out]
                    exact Int.le_refl _
                have hgp : Hid (∀ m : Nat, m ≤ q.length + 1 → 2 * gap U (fixR (gx (xs.set e.t z))) N + m < gk) := fun m hm => by
                  have := HL.out
                  rw [hgxs.out]
                  omega
                have hlat : gx (xs.set e.t z) at0 ≠ unr := by rw [hgxs.out, upd_ne _ _ (Ne.symm hne)]; exact hat9
                have hlet : gx (xs.set e.t z) e.t ≠ unr := by rw [hgxs.out, upd_same]; exact hzu
                have hwll := hri4.wll
                obtain ⟨wv, hwv⟩ : ∃ wv, wl[e.t]? = some wv := ⟨_, List.getElem?_eq_getElem (show e.t < wl.length by omega)⟩
                obtain ⟨wc1, wc2⟩ := own_cellB hri4.wow hwv
                cases wv
                · have hq0w : q0 < wr.heap.size := (own_lt hri.wow).2
                  have hq0n : q0 ≠ wr.heap.size := by omega
                  have u2 : (W4.setCell ⟨q0, e.t, none⟩ (.bool true)).cell? ⟨wr.heap.size, 1, none⟩ = some (.int .i64 e.t) := keep_set (Ne.symm hq0n) u1
                  have hqn : n ≤ 1000000000000 := by have := HL.out; omega
                  have hque5 := (hri4.que.set_ne hri4.ne e.t (.bool true)).below ((Below.refl _ (W4.setCell ⟨q0, e.t, none⟩ (.bool true))).alloc (Nat.le_refl _) (.cells #[.int .i64 e.t] 3))
                  have hbs5 := hri4.bb.size
                  have hsz5 : (W4.setCell ⟨q0, e.t, none⟩ (.bool true)).heap.size = W4.heap.size := World.size_setCell _ _ _
                  have hc5 : ((W4.setCell ⟨q0, e.t, none⟩ (.bool true)).alloc (.cells #[.int .i64 e.t] 3)).cell? ⟨W4.heap.size, 0, none⟩ = some (.int .i64 e.t) := new1 hsz5.symm
                  have hba5 : w.heap.size ≤ ((W4.setCell ⟨q0, e.t, none⟩ (.bool true)).alloc (.cells #[.int .i64 e.t] 3)).heap.size := by simp [hsz5]; omega
                  go_wp2_with (at_builtin; refine wpList_append_que _ rfl _ _ 33 rfl 3 i0 Try.underlying33 hi hz0 hz1 hz2 w.heap.size p off n cap _ rfl hque5 ⟨W4.heap.size, 0, none⟩ 1 (e.t : Int) rfl hc5 hqn hba5 ?_)
                  intro l' off' cap' w6 hq6 hl6 hg6
                  have hri6 : RB (OnG out on) start N w w6 V cV q0 l' off' (n + 1) cap' (q ++ [e.t]) (xs.set e.t z) (wl.set e.t true) := by
                    have hplo := hri4.que.lo
                    have hq0lo := hri4.q0lo
                    refine ⟨by rw [List.map_append]; exact hq6, ?_, hq0lo, by rw [List.length_set]; exact hri4.wll, own_grown (own_below (own_storeB hri4.wow e.t true) ((Below.refl _ _).alloc (Nat.le_refl _) _)) hg6 (fun k hk => by simp [Value.ownBlock] at hk ⊢; have := hri4.ne; omega), hri4.xsl, own_grown (own_below (own_other hri4.vow (by simp [Value.ownBlock]; omega) e.t (.bool true)) ((Below.refl _ _).alloc (Nat.le_refl _) _)) hg6 (fun k hk => by simp [Value.ownBlock] at hk ⊢; omega), ((hri4.bb.setNew hq0lo e.t (.bool true)).then ((Below.refl _ _).alloc (Nat.le_refl _) _) (by simp; omega)).grown hg6 (by simp; omega) (fun k hk => by simp at hk; omega), hri4.bi, fun v hv => ?_, fun v hv => ?_, fun v hv => ?_⟩
                    · rcases hl6 with rfl | h
                      · exact hri4.ne
                      · have h8 := (own_lt hri4.wow).2
                        omega
                    · rcases List.mem_append.1 hv with h | h
                      · exact hri4.qlt v h
                      · rw [List.mem_singleton.1 h]; exact et
                    · rw [List.getElem?_set] at hv
                      split at hv
                      · rename_i h; rw [← h]; simp
                      · exact List.mem_append_left _ (hri4.wq v hv)
                    · rcases List.mem_append.1 hv with h | h
                      · exact hri4.ql v h
                      · rw [List.mem_singleton.1 h]; exact hlet
                  clear hq6 hg6 hque5 u2
                  go_wp2_with fail
                  go_roundw
                  case rel => exact ⟨j + 1, by omega, by go_num, l', off', n + 1, cap', q ++ [e.t], _, _, rfl, hri6, hHH.out _ (by simp) (fun v hv => List.mem_append_left _ hv), hHD.out, hlat, hgp.out _ (by simp)⟩
                  case measure => simp [intOf]; omega
                · have hmem : e.t ∈ q := hri4.wq e.t hwv
                  go_wp2_with fail
                  go_roundw
                  case rel => exact ⟨j + 1, by omega, by go_num, p, off, n, cap, q, _, wl, rfl, hri4, hHH.out q hmem (fun _ h => h), hHD.out, hlat, hgp.out _ (Nat.le_succ _)⟩
                  case measure => simp [intOf]; omega
              · have hle : gx xs at0 + e.b ≤ gx xs e.t := by omega
                go_wp2_with fail
                go_quiet (fail)
                go_wp2_with fail
                go_roundw
                case rel =>
                  refine ⟨j + 1, by omega, by go_num, p, off, n, cap, q, xs, wl, rfl, hri1.then (below_drewN (Below.refl _ _) _), HH.out, fun e' he' hon' => ?_, hat9, HL.out⟩
                  rw [Hst.out] at he'
                  rcases List.mem_append.1 he' with h | h
                  · exact HD.out e' h hon'
                  · rw [List.mem_singleton.1 h]; unfold hol; rw [Hef.out]; omega
                case measure => simp [intOf]; omega
          · have hjm2 : ¬ (j : Int) < (m1 : Int) := by omega
            have hak := asksNil_any V N cV wr
            have hfull : (out at0).take j = out at0 := List.take_of_length_le (by omega)
            have Hall : Hid (∀ e, OnG out on e → e.f ∉ q → gx xs e.f ≠ unr → hol (gx xs) e) := fun e he hq hl => by
              by_cases hf : e.f = at0
              · exact HD.out e (by rw [hfull, ← hf]; exact he.1) he.2
              · exact HH.out e he hq hf hl
            clear hfull
            have Hak := Lib.hid hak
            clear hak
            go_wp2_with fail
            refine Hak.out.mono ?_
            rintro e w2 ⟨rfl, hb2⟩
            go_wp2_with fail
            go_roundg (2 * gap U (fixR (gx xs)) N + q.length)
            case measure => exact HL.out
            case rel => exact ⟨rfl, p, off, n, cap, q, xs, wl, rfl, hri.then hb2, Hall.out, rfl, by have := HL.out; omega⟩
end Go.Proofs.Ytapajkfnpkekdaa

/-
  slices.Repeat of one number: a row of one's own with that number everywhere.
-/
namespace Go.Proofs.Ytapajkfnpkekdaa
open Go Go.RowKit Go.Shelf

/-- a row that is full is its block -/
theorem own_block {w : World} {base g m : Nat} {e : TypeId} {l : List Int} (h : w.ownsRow base e 1 (.slice (some ⟨g, 0, none⟩) m m) m (int1 l)) : w.heap[g]? = some (.cells (int1 l).toArray e (0, 0)) := by
  rcases h.2 with ⟨h1, _⟩ | ⟨g', cap, cur, h1, _, h2, _, _, h3, h4⟩
  · cases h1
  · cases h1
    have : cur = (int1 l).toArray := by
      have e1 : cur.toList.take (m * 1) = int1 l := h4
      rw [List.take_of_length_le (by simp; omega)] at e1
      rw [← e1]
    rw [← this]; exact h2
theorem block_own {w : World} {base g m : Nat} {e : TypeId} {l : List Int} (h : w.heap[g]? = some (.cells (int1 l).toArray e (0, 0))) (hl : l.length = m) (hb : base ≤ g) (hm : m ≤ 100000) : w.ownsRow base e 1 (.slice (some ⟨g, 0, none⟩) m m) m (int1 l) := by
  refine ⟨by rw [int1_len]; omega, .inr ⟨g, m, _, rfl, hb, h, Nat.le_refl _, by unfold maxLen; omega, by simp [int1_len, hl], ?_⟩⟩
  rw [List.take_of_length_le (by simp [int1_len, hl])]
/-- the first k numbers are written -/
def repL (m k : Nat) (z : Int) : List Int := List.replicate k z ++ List.replicate (m - k) 0
theorem repL_len {m k : Nat} {z : Int} (h : k ≤ m) : (repL m k z).length = m := by simp [repL]; omega
theorem repL_next {m k c : Nat} {z : Int} : (int1 (repL m k z)).take k ++ (int1 (List.replicate c z) ++ (int1 (repL m k z)).drop (k + c)) = int1 (repL m (k + c) z) := by
  unfold int1 repL
  rw [← List.map_take, ← List.map_drop, ← List.map_append, ← List.map_append]
  congr 1
  rw [List.take_left' (by simp), List.drop_append]
  simp only [List.length_replicate, List.drop_replicate]
  rw [show k - (k + c) = 0 by omega, show k + c - k = c by omega, List.replicate_zero, List.nil_append, ← List.append_assoc, List.replicate_append_replicate]
  rw [show m - k - c = m - (k + c) by omega]
theorem copied_at {m k : Nat} {z : Int} {w : World} {g : Nat} {e : TypeId} (h : w.heap[g]? = some (.cells (int1 (repL m k z)).toArray e (0, 0))) {c : Nat} (hc : c ≤ k) : ∀ j v, (int1 (List.replicate c z))[j]? = some v → w.cell? ((⟨g, 0, none⟩ : Addr).add j) = some v := by
  intro j v hj
  have hjc : j < c := by have := (List.getElem?_eq_some_iff.1 hj).1; simpa [int1] using this
  have hv : v = .int .i64 z := by simp [int1, hjc] at hj; exact hj.symm
  subst hv
  rw [Addr.add_lit, Nat.zero_add]
  simp [World.cell?, h, int1, repL, List.getElem?_append, show j < k by omega]
theorem repL_set {w : World} {g m k c : Nat} {z : Int} {e : TypeId} (h : w.heap[g]? = some (.cells (int1 (repL m k z)).toArray e (0, 0))) (_ : k + c ≤ m) :
    (w.setRow g (((int1 (repL m k z)).toArray.toList.take k) ++ (int1 (List.replicate c z) ++ (int1 (repL m k z)).toArray.toList.drop (k + (int1 (List.replicate c z)).length))).toArray).heap[g]? = some (.cells (int1 (repL m (k + c) z)).toArray e (0, 0)) := by
  rw [setRow_heap w g _ _ e (0, 0) h]
  congr 2
  rw [← repL_next]
  simp [int1]
theorem one_ints (l : List Int) : ∀ v ∈ int1 l, v.oneCell' = true := fun v hv => by
  obtain ⟨x, _, rfl⟩ := List.mem_map.1 hv
  rfl

theorem rep_cur {m k c : Nat} {z : Int} {w : World} {g : Nat} (hgc : w.heap[g]? = some (.cells (int1 (repL m k z)).toArray 3 (0, 0))) (hkc : k + c ≤ m) : ∀ W, W = w.setRow g (((int1 (repL m k z)).toArray.toList.take k) ++ (int1 (List.replicate c z) ++ (int1 (repL m k z)).toArray.toList.drop (k + (int1 (List.replicate c z)).length))).toArray →
    W.heap[g]? = some (.cells (int1 (repL m (k + c) z)).toArray 3 (0, 0)) ∧ ∀ B, B ≤ g → Below B w W := fun W hW => by
  subst hW
  exact ⟨repL_set hgc hkc, fun B hB => below_setRow (Below.refl _ _) hB _⟩
theorem sizeI : (Try.prog.info? 3).map (·.size) = some 1 := by
  obtain ⟨i0, hi, _, hz1, _⟩ := info_parts infoI
  rw [hi]; exact congrArg some hz1
theorem wpList_copy_rep {ops : Array Oper} {rest : List Oper} {o : Oper} {a : Act} {w : World} {Q : Exit → Act → World → Prop} (hgd : o.guard = none) (d s : Operand) (ho : o.op = .call { callee := .builtin .copy, args := #[d, s], argTypes := #[33, 33] })
    (g m k c dLen dCap : Nat) (ad : Addr) (sLen sCap : Nat) (z : Int) (hd : a.eval d = .slice (some ⟨g, k, none⟩) dLen dCap) (hs : a.eval s = .slice (some ad) sLen sCap) (hgc : w.heap[g]? = some (.cells (int1 (repL m k z)).toArray 3 (0, 0)))
    (hc : c = Nat.min sLen dLen) (hkc : k + c ≤ m) (hsrc : ∀ j v, (int1 (List.replicate c z))[j]? = some v → w.cell? (ad.add j) = some v)
    (h : ∀ W, W.heap[g]? = some (.cells (int1 (repL m (k + c) z)).toArray 3 (0, 0)) → (∀ B, B ≤ g → Below B w W) → wpList Try.prog ops Q rest (a.put o.dst (.int .i64 c)) W) : wpList Try.prog ops Q (o :: rest) a w := by
  refine wpList_copy_own hgd d s 33 33 ho 3 Try.underlying33 sizeI g k dLen dCap ad sLen sCap hd hs _ 3 hgc (int1 (List.replicate c z)) (by rw [int1_len, List.length_replicate]; exact hc) hsrc (by rw [int1_len, List.length_replicate, List.size_toArray, int1_len, repL_len (by omega)]; exact hkc) (one_ints _) ?_
  obtain ⟨h1, h2⟩ := rep_cur hgc hkc _ rfl
  have h3 := h _ h1 h2
  have hgi : goInt (int1 (List.replicate c z)).length = .int .i64 c := by rw [int1_len, List.length_replicate]; rfl
  rw [hgi]
  exact h3
theorem step_copy_rep {ops : Array Oper} {o : Oper} {a : Act} {w : World} {K : Act → World → Prop} {Q : Exit → Act → World → Prop} {E : Prop} (hgd : o.guard = none) (td : Tmp) (hdst : o.dst = some td) (d s : Operand) (ho : o.op = .call { callee := .builtin .copy, args := #[d, s], argTypes := #[33, 33] })
    (g m k c dLen dCap : Nat) (ad : Addr) (sLen sCap : Nat) (z : Int) (hd : a.eval d = .slice (some ⟨g, k, none⟩) dLen dCap) (hs : a.eval s = .slice (some ad) sLen sCap) (hgc : w.heap[g]? = some (.cells (int1 (repL m k z)).toArray 3 (0, 0)))
    (hc : c = Nat.min sLen dLen) (hkc : k + c ≤ m) (hsrc : ∀ j v, (int1 (List.replicate c z))[j]? = some v → w.cell? (ad.add j) = some v)
    (hK : ∀ W, W.heap[g]? = some (.cells (int1 (repL m (k + c) z)).toArray 3 (0, 0)) → (∀ B, B ≤ g → Below B w W) → K (a.put (some td) (.int .i64 c)) W) :
    if Region.wanted o (yielded ops a.tmps) = true then Oper.wp Try.prog o a w K Q else E := by
  have hw : Region.wanted o (yielded ops a.tmps) = true := by simp [Region.wanted, hgd]
  rw [if_pos hw]
  have hrun := run_copy_row (P := Try.prog) w 33 33 o.type 3 g k dLen dCap ad sLen sCap _ 3 (int1 (List.replicate c z)) Try.underlying33 sizeI hgc (by rw [int1_len, List.length_replicate]; exact hc) hsrc (by rw [int1_len, List.length_replicate, List.size_toArray, int1_len, repL_len (by omega)]; exact hkc) (one_ints _)
  obtain ⟨h1, h2⟩ := rep_cur hgc hkc _ rfl
  have h3 := hK _ h1 h2
  rw [← hdst] at h3
  obtain ⟨W, hW, hrun2⟩ : ∃ W, K (a.put o.dst (.int .i64 c)) W ∧ (Builtin.copy_ #[33, 33] o.type #[.slice (some ⟨g, k, none⟩) dLen dCap, .slice (some ad) sLen sCap]).run Try.prog w = .ok (.int .i64 c) W := ⟨_, h3, by
    rw [hrun, List.append_assoc, int1_len, List.length_replicate]; rfl⟩
  clear h3 h1 h2 hrun
  unfold Oper.wp
  simp [execOp, ho, resolve, invoke, builtin, hd, hs, hrun2, Result.andThen]
  exact hW

end Go.Proofs.Ytapajkfnpkekdaa

/-
  'Bound' of package graph.
-/
namespace Go.Proofs.Ytapajkfnpkekdaa
open Go Go.RowKit

/-- what is told of a bound -/
def bE : Option Int → Ending
  | none => .returned (.tuple #[.int .i64 0, .bool false, .int .i64 0])
  | some d => .returned (.tuple #[.int .i64 (-d), .bool true, .int .i64 0])
/-- how far a variable is below zero at most, in words -/
def BndOf (n : Nat) (cs : List LCn) (s : Nat) (b : Option Int) : Prop := ∀ z : Int, (∀ y, Sat (fun e => e ∈ esA n cs) y → y s + z ≤ y n) ↔ ∃ d, b = some d ∧ z ≤ d
theorem BndOf.only {n s : Nat} {cs : List LCn} {b c : Option Int} (h : BndOf n cs s b) (g : BndOf n cs s c) : b = c := by
  cases b with
  | none =>
    cases c with
    | none => rfl
    | some d =>
      obtain ⟨d', h1, _⟩ := (h d).1 ((g d).2 ⟨d, rfl, Int.le_refl _⟩)
      cases h1
  | some d =>
    obtain ⟨d', h1, h2⟩ := (g d).1 ((h d).2 ⟨d, rfl, Int.le_refl _⟩)
    subst h1
    obtain ⟨d'', h3, h4⟩ := (h d').1 ((g d').2 ⟨d', rfl, Int.le_refl _⟩)
    cases h3
    congr 1
    omega
/-- what Bound says -/
def BndPost (v : Int) (cs : List LCn) (k : Int) (w : World) (e : Ending) (w' : World) : Prop :=
  Below w.heap.size w w' ∧ (gvld v cs = false ∧ e = .returned (.tuple #[.int .i64 0, .bool false, .int .i64 4]) ∨
    gvld v cs = true ∧ ∃ n : Nat, v = n ∧ ((k < 0 ∨ (n : Int) ≤ k) ∧ e = .returned (.tuple #[.int .i64 0, .bool false, .int .i64 1]) ∨
      ∃ s : Nat, k = s ∧ s < n ∧ ((∀ y, Sat (fun e => e ∈ esA n cs) y → False) ∧ e = .returned (.tuple #[.int .i64 0, .bool false, .int .i64 20]) ∨
        (∃ y, Sat (fun e => e ∈ esA n cs) y) ∧ ∃ b, BndOf n cs s b ∧ e = bE b)))
theorem gvld_nat {v : Int} {cs : List LCn} (hg : gvld v cs = true) : ∃ n : Nat, v = n ∧ n ≤ 1200 ∧ cs.length ≤ 3000 ∧ ∀ c ∈ cs, Con n c := by
  have hg' := hg
  unfold gvld at hg'
  rw [Bool.and_eq_true, decide_eq_true_eq] at hg'
  obtain ⟨⟨g0, g1, g2⟩, g3⟩ := hg'
  obtain ⟨n, rfl⟩ : ∃ n : Nat, v = n := ⟨v.toNat, by omega⟩
  exact ⟨n, rfl, by omega, g2, fun c hc => con_of (by have := List.all_eq_true.1 g3 c hc; exact this)⟩
theorem gx_start {N s v : Nat} (hs : s < N) (hv : v < N) : gx ((List.replicate N unr).set s 0) v = upd (fun _ => unr) s 0 v := by
  rw [gx_set _ _ _ (by simpa using hs)]
  by_cases h : v = s
  · rw [h, upd_same, upd_same]
  · rw [upd_ne _ _ h, upd_ne _ _ h]
    simp [gx, List.getD, hv]

end Go.Proofs.Ytapajkfnpkekdaa

/-
  'Explain' of package graph.
-/
namespace Go.Proofs.Ytapajkfnpkekdaa
open Go Go.RowKit

/-- what Explain says -/
def ExplPost (v : Int) (cs : List LCn) (w : World) (e : Ending) (w' : World) : Prop :=
  Below w.heap.size w w' ∧ (gvld v cs = false ∧ e = .returned (.tuple #[.slice none 0 0, .bool false, .int .i64 4]) ∨
    gvld v cs = true ∧ ∃ n : Nat, v = n ∧ ((∃ y, Sat (fun e => e ∈ esA n cs) y) ∧ e = .returned (.tuple #[.slice none 0 0, .bool false, .int .i64 0]) ∨
      (∀ y, Sat (fun e => e ∈ esA n cs) y → False) ∧ ∃ (A : Option Addr) (c : Nat) (core : List Nat), e = .returned (.tuple #[.slice A core.length c, .bool true, .int .i64 0]) ∧ IL w' w'.heap.size A core.length (core.map fun i : Nat => (i : Int)) ∧ CoreOf n cs core ∧ core.Pairwise (· < ·)))
/-- the marks when the first k constraints are on -/
def onK (K k : Nat) : Nat → Bool := fun i => if i = K then true else decide (i < k)
theorem onK_next {K k : Nat} (hk : k < K) : (fun i => if i = k then true else onK K k i) = onK K (k + 1) := by
  funext i
  unfold onK
  by_cases h1 : i = k
  · rw [if_pos h1, if_neg (by omega)]
    exact (decide_eq_true (by omega)).symm
  · rw [if_neg h1]
    split
    · rfl
    · exact decide_eq_decide.2 (by omega)
theorem all_pick {n : Nat} {cs : List LCn} {l : List Nat} {y : Nat → Int} (h : Sat (fun e => e ∈ esA n cs) y) : Sat (fun e => e ∈ esA n (pick cs l)) y := by
  rw [sat_es] at h ⊢
  refine ⟨h.1, fun c hc => h.2 c ?_⟩
  obtain ⟨i, _, h1⟩ := pick_mem.1 hc
  exact List.mem_of_getElem? h1

set_option maxRecDepth 100000 in
set_option maxHeartbeats 4000000 in
theorem explain_any (β : Int) (v : Int) (A : Option Addr) (K cap : Nat) (cs : List LCn) (w : World) (h : CL w w.heap.size A K cs) (hK : K ≤ 9223372036854775807) (hβ : 0 ≤ β ∧ β ≤ 2000) (hb : gvld v cs = true → ∀ n : Nat, v = n → ∀ e ∈ esA n cs, e.b ≤ β) (hT : gvld v cs = true → ∀ n : Nat, v = n → (β * (9 : Nat) + β * ((n + 1 : Nat) : Int)) * ((2 * K : Nat) : Int) ≤ 40000000) :
    Calls Try.prog 8 #[.int .i64 v, .slice A K cap] w (ExplPost v cs w) := by
  have hva := gvalid_any v A K cap cs w h hK
  cases hg : gvld v cs
  · rw [hg] at hva
    have Hva := Lib.hid hva
    clear hva
    go_enter Try.func8, Try.ntmps8
    go_wp2_with fail
    refine Hva.out.mono ?_
    rintro e w1 ⟨rfl, hb1⟩
    go_wp2_with fail
    go_ret3
    exact ⟨hb1, .inl ⟨hg, rfl⟩⟩
  · rw [hg] at hva
    have Hva := Lib.hid hva
    clear hva
    obtain ⟨n, rfl, hn, hl3, hcs⟩ := gvld_nat hg
    have hl : cs.length = K := h.1
    have Hcs := Lib.hid hcs
    have Hl := Lib.hid hl
    have hK3 : K ≤ 3000 := by omega
    have hbb := hb hg n rfl
    have hTT := hT hg n rfl
    obtain ⟨D, hDD⟩ : ∃ D : Int, D = β * (9 : Nat) + β * ((n + 1 : Nat) : Int) := ⟨_, rfl⟩
    have hD : 0 ≤ D := by
      have h1 := Int.mul_nonneg hβ.1 (show (0 : Int) ≤ ((9 : Nat) : Int) by omega)
      have h2 := Int.mul_nonneg hβ.1 (show (0 : Int) ≤ ((n + 1 : Nat) : Int) by omega)
      omega
    rw [← hDD] at hTT
    have hTk : ∀ a b : Nat, a ≤ K → b ≤ K → D * (a : Int) + D * (b : Int) ≤ 40000000 := fun a b ha hb => by
      have h1 := Int.mul_le_mul_of_nonneg_left (show (a : Int) + (b : Int) ≤ ((2 * K : Nat) : Int) by omega) hD
      rw [Int.mul_add] at h1
      omega
    have hstep : ∀ k : Nat, D * ((k + 1 : Nat) : Int) = D * k + D := fun k => by rw [Int.natCast_add, Int.mul_add]; simp
    have HTk := Lib.hid hTk
    have Hstep := Lib.hid hstep
    have Hbb : Hid (∀ u, ∀ e ∈ outE (esA n cs) u, e.b ≤ β) := fun u e he => hbb e (outE_mem.1 he).1
    have Hmm : Hid (∀ k, k < K → (foC n cs k).length ≤ 9) := fun k _ => foC_len hcs
    have HD := Lib.hid hDD
    clear hcs hl hl3 hb hT hbb hTT hTk hstep hDD
    go_enter Try.func8, Try.ntmps8
    go_wp2_with fail
    refine Hva.out.mono ?_
    rintro e w1 ⟨rfl, hb1⟩
    have Hbe := Lib.hid (begin_any A K cap n cs w1 ((h.below hb1).more hb1.size) hK3 hn Hcs.out)
    go_wp2_with fail
    refine Hbe.out.mono ?_
    intro e w2 hpost
    obtain ⟨S, OF, OU, ON, V, rfl, hS1, hO1, hb2, hse, hvs⟩ := beg_is hpost Hl.out hK3 hn Hcs.out
    clear hpost
    have hb12 : Below w.heap.size w w2 := hb1.trans (hb2.mono hb1.size)
    have hGE := ge_of Hcs.out
    have hL0 := lst_zero Hcs.out
    rw [Hl.out] at hGE hL0
    have HGE := Lib.hid hGE
    have hs1 := hb1.size
    have hB : w.heap.size ≤ S ∧ w.heap.size ≤ ON := ⟨by omega, by omega⟩
    have hon0 : (fun i => if i = K then true else false) = onK K 0 := by
      funext i
      unfold onK
      split
      · rfl
      · exact (decide_eq_false (by omega)).symm
    rw [hon0] at hse hL0
    clear hon0 hGE
    go_wp2_with fail
    go_loopw [8, 18] (fun kk i wr => ∃ k : Nat, k ≤ K ∧ i = .int .i64 k ∧ ∃ (V' c' : Nat) (ys : List Int), SE wr S OF OU ON (n + 1) K (foC n cs) (outE (esA n cs)) (onK K k) ∧ VS wr S ON (n + 1) V' c' ys ∧ Sat (OnG (outE (esA n cs)) (onK K k)) (gx ys) ∧ (∀ u, 0 ≤ gx ys u) ∧ (∀ u, gx ys u ≤ D * k) ∧ Below w.heap.size w wr) (fun _ i _ => K - (intOf i).toNat)
    case atStart => exact ⟨0, Nat.zero_le _, rfl, V, n + 1, _, hse, hvs, hL0.sat, hL0.nn, fun u => by rw [gx_zero]; simp, hb12⟩
    case round =>
      clear hse hvs hL0 hb12
      obtain ⟨k, hk, rfl, V', c', ys, hE, hV, hL, hnn, hub, hbr⟩ := hrel
      have hsz := hbr.size
      by_cases hlt : k < K
      · have hki : (k : Int) < (K : Int) := by omega
        have hT1 := HTk.out k k (by omega) (by omega)
        have hT0 : 0 ≤ D * (k : Int) := Int.mul_nonneg hD (by omega)
        have hA := Lib.hid (add3_any (D * k) β 9 w.heap.size S OF OU ON (n + 1) K V' c' (foC n cs) (outE (esA n cs)) (onK K k) ys k wr hE hV HGE.out hlt (by omega) hL hnn hub (by omega) hβ Hbb.out (Hmm.out k hlt) ⟨hB.1, hB.2, hsz⟩)
        have HL := Lib.hid hL
        have Hnn := Lib.hid hnn
        have Hub := Lib.hid hub
        have Hst := Hstep.out k
        have HD2 := HD.out
        clear hE hV hL hnn hub
        go_wp2_with fail
        refine hA.out.mono ?_
        rintro e w3 ⟨r, rfl, hb3, _, hr⟩
        have hbr3 := hbr.trans hb3
        clear hA
        rcases hr with ⟨rfl, hE3, V3, c3, zs, hV3, _, hL3, hnn3, hub3⟩ | ⟨rfl, hE3, ⟨c3, hV3⟩, hno3⟩
        · rw [onK_next hlt] at hE3 hL3
          go_wp2_with fail
          go_roundw
          case rel => exact ⟨k + 1, by omega, by go_num, V3, c3, zs, hE3, hV3, hL3, hnn3, fun u => by have := hub3 u; omega, hbr3⟩
          case measure => simp [intOf]; omega
        · have hN := Lib.hid (needed_any (D * k) β 9 w.heap.size S OF OU ON (n + 1) K V' c3 (foC n cs) (outE (esA n cs)) (onK K k) ys k w3 hE3 hV3 HGE.out hlt hK3 (by omega) HL.out Hnn.out Hub.out hβ Hbb.out Hmm.out (by rw [← HD.out]; exact hT1) (fun i hi => by unfold onK; rw [if_neg (by omega)]; exact decide_eq_true_iff) (by unfold onK; rw [if_pos rfl]) hno3 ⟨hB.1, hB.2, hbr3.size⟩)
          clear hE3 hV3 hno3
          go_wp2_with fail
          refine hN.out.mono ?_
          rintro e w4 ⟨A4, c4, ls, a4, on4, rfl, hI4, hnd4, hb4⟩
          have hco := hnd4.done Hl.out
          obtain ⟨core, hsr, hcc, hasc⟩ := srt_core hco
          have hcl : core.length = ls.length := by
            have h1 : (srt ls).length = ls.length := by unfold srt; rw [List.length_mergeSort, List.length_map]
            rw [hsr, List.length_map] at h1
            exact h1
          rw [hsr, ← hcl] at hI4
          have Hcc := Lib.hid hcc
          have Hasc := Lib.hid hasc
          have HI := Lib.hid hI4
          have Hcl := Lib.hid hcl
          clear hnd4 hco hsr hcc hasc hI4 hcl
          go_wp2_with fail
          go_ret3
          exact ⟨hbr3.trans hb4, .inr ⟨hg, n, rfl, .inr ⟨fun y hy => Hcc.out.no y (all_pick hy), A4, c4, core, by rw [Hcl.out]; rfl, HI.out, Hcc.out, Hasc.out⟩⟩⟩
      · obtain rfl : k = K := by omega
        have hki : ¬ (k : Int) < (k : Int) := by omega
        have hsat : ∃ y, Sat (fun e => e ∈ esA n cs) y := ⟨gx ys, fun e he => hL e ⟨outE_mem.2 ⟨he, rfl⟩, by
          have h1 := (esA_ok Hcs.out he).2.2.2.2
          rw [Hl.out] at h1
          unfold onK
          by_cases h2 : e.k = k
          · rw [if_pos h2]
          · rw [if_neg h2]; exact decide_eq_true (by omega)⟩⟩
        have Hsat := Lib.hid hsat
        clear hsat hL hnn hub hE hV
        go_wp2_with fail
        go_ret3
        exact ⟨hbr, .inr ⟨hg, n, rfl, .inl ⟨Hsat.out, rfl⟩⟩⟩
end Go.Proofs.Ytapajkfnpkekdaa
