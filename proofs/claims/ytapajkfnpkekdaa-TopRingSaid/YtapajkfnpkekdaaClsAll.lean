/-
  ClsAll: the texts GBack, GGrM, GGrp, GDel, GClsM, GCls, GClsL, one behind another.
-/
import Derived.Test.YtapajkfnpkekdaaGRowW
import Derived.RangeFuncFrom
import Derived.RangeFuncLeaves
import Derived.Shelf.Abstract
import Derived.WalkKit
import Derived.OwnWalkIn
import Derived.TacticsInMore
import Derived.LoopNIn
import Derived.LoopIn
import Derived.Lib.SliceRun
import Derived.Deep.RegionHeldLaw
import Derived.RangeFuncCalls
import Derived.Test.YtapajkfnpkekdaaGSolve
import Derived.Test.YtapajkfnpkekdaaGEqC
import Derived.Maps.OwnSet
import Derived.DeepKeys4
import Derived.Deep.AppendLies
import Derived.WalkArith
import Derived.Carry
import Derived.Test.YtapajkfnpkekdaaGHeavy
/-
  slices.Backward at []int: its iterator's contract; a row that is filled; tables of rows as rows of nodes.
-/
namespace Go.Proofs.Ytapajkfnpkekdaa
open Go Go.RowKit Go.Shelf

attribute [local go_sem] Oper.semAt_some

/-- some blocks lie as they lay -/
def KeepsB (bs : List Nat) (W W' : World) : Prop := ∀ b ∈ bs, W'.heap[b]? = W.heap[b]?
theorem KeepsB.refl (bs : List Nat) (W : World) : KeepsB bs W W := fun _ _ => rfl
theorem KeepsB.trans {bs : List Nat} {A B C : World} (h : KeepsB bs A B) (k : KeepsB bs B C) : KeepsB bs A C := fun b hb => (k b hb).trans (h b hb)
theorem KeepsB.cell {bs : List Nat} {W W' : World} (h : KeepsB bs W W') {b : Nat} (hb : b ∈ bs) (i : Nat) : W'.cell? ⟨b, i, none⟩ = W.cell? ⟨b, i, none⟩ := World.cell?_of_block (h b hb)
theorem keepsB_b {bs : List Nat} {n : Nat} (hn : ∀ b ∈ bs, b < n) (W : World) (l : Nat) (o o' : Obj) (hl : n ≤ l) (_ : W.heap[l]? = some o) (_ : o.isCells = false) (_ : o.isWalk = false) : KeepsB bs W (W.putObj l o') := fun b hb => World.putObj_heap_other (by have := hn b hb; omega)

/-- what has come when k rounds are over -/
def upF {α : Type} (F : Nat → α) (k : Nat) : List α := (List.range k).map F
theorem upF_len {α : Type} (F : Nat → α) (k : Nat) : (upF F k).length = k := by simp [upF]
theorem upF_snoc {α : Type} (F : Nat → α) (k : Nat) : upF F (k + 1) = upF F k ++ [F k] := by simp [upF, List.range_succ]

set_option maxRecDepth 100000 in
set_option maxHeartbeats 2000000 in
theorem backward1_in {α : Type} (enc : α → Array Value) (F : Nat → α) (n : Nat) (hn : 1 ≤ n) (l Bs b off cap : Nat) (zs : List Int) (hreach : zs.length ≤ 100000) (hF : ∀ m, m < zs.length → enc (F (zs.length - (m + 1))) = #[.int .i64 (m : Int), .int .i64 (zs.getD m 0)]) (J Jx : List α → World → Prop)
    (hY : ∀ pre x W, J pre W → pre.length < zs.length → YieldAt Fence.wide (n - 1) Try.prog l (enc x) W fun e W' =>
      (e = .returned (.bool true) ∧ J (pre ++ [x]) W' ∧ KeepsB [Bs, b] W W') ∨ (e = .returned (.bool false) ∧ Jx (pre ++ [x]) W'))
    (W : World) (hBs : W.cell? ⟨Bs, 0, none⟩ = some (.slice (some ⟨b, off, none⟩) zs.length cap)) (hc : ∀ j, j < zs.length → W.cell? ⟨b, off + j, none⟩ = some (.int .i64 (zs.getD j 0))) (h0 : J [] W) :
    CallsIn Fence.wide n Try.prog 28 #[.func (.yield l) #[] #[], .pointer (some ⟨Bs, 0, none⟩)] W fun e W' => (∃ v, e = .returned v) ∧
      ((∃ ys, ys = upF F zs.length ∧ J ys W') ∨ (∃ pre, (∃ k, k ≤ zs.length ∧ pre = upF F k) ∧ Jx pre W')) := by
  refine callsIn_of_wp Try.func28 rfl trivial ?_ rfl
  simp only [Try.ntmps28, List.size_toArray, List.length_cons, List.length_nil, Nat.reduceAdd, Nat.reduceSub, Array.replicate_succ, Array.replicate_zero, List.push_toArray, List.append_toArray, List.nil_append, List.cons_append]
  obtain ⟨len, hlen⟩ : ∃ len, len = zs.length := ⟨_, rfl⟩
  rw [← hlen] at hBs hY hc hreach hF ⊢
  clear hlen
  have w1 : IntKind.i64.wrap ((len : Int) - 1) = (len : Int) - 1 := by rw [IntKind.wrap_i64]; omega
  gi_wp2
  gi_loopw [3] (fun i wr => ∃ m : Nat, m ≤ len ∧ i = .int .i64 ((m : Int) - 1) ∧ J (upF F (len - m)) wr ∧ KeepsB [Bs, b] W wr)
    (fun i _ => (intOf i + 1).toNat)
  case atStart => exact ⟨len, Nat.le_refl _, rfl, by rw [Nat.sub_self]; exact h0, KeepsB.refl _ _⟩
  case round =>
    obtain ⟨m, hm, rfl, hJs, hnx⟩ := hrel
    have hbs := (hnx.cell (b := Bs) (by simp) 0).trans hBs
    cases m with
    | zero =>
      have hneg : ¬ (0 : Int) ≤ -1 := by omega
      rw [Nat.sub_zero] at hJs
      gi_wp2
      go_end0
      first | exact ⟨⟨_, rfl⟩, .inl hJs⟩ | exact ⟨⟨_, rfl⟩, .inl ⟨_, rfl, hJs⟩⟩
    | succ m =>
      have hcx := (hnx.cell (b := b) (by simp) (off + m)).trans (hc m (by omega))
      have Hst : Hid (upF F (len - m) = upF F (len - (m + 1)) ++ [F (len - (m + 1))]) := by
        rw [Hid, ← upF_snoc]
        congr 1
        omega
      obtain ⟨fn, tmps, assign, body, hy, hR⟩ := hY _ (F (len - (m + 1))) wr hJs (by rw [upF_len]; omega)
      rw [hF m (by omega)] at hy
      generalize hz : zs.getD m 0 = z at *
      have hml : (m : Int) < (len : Int) := by omega
      have e1 : ((m + 1 : Nat) : Int) - 1 = (m : Int) := by omega
      have w2 : IntKind.i64.wrap ((m : Int) - 1) = (m : Int) - 1 := by rw [IntKind.wrap_i64]; omega
      rw [e1]
      clear hz
      gi_wp2
      refine hR.mono ?_
      rintro e W3 (⟨rfl, hJ3, hk3⟩ | ⟨rfl, hJx3⟩)
      · gi_wp2
        go_roundw
        case rel => exact ⟨m, by omega, rfl, by rw [Hst.out]; exact hJ3, hnx.trans hk3⟩
        case measure => simp [intOf] <;> omega
      · gi_wp2
        refine bodyPost_ret (results_none rfl _ _ _) rfl ?_
        exact ⟨⟨_, rfl⟩, .inr ⟨_, ⟨len - m, by omega, Hst.out.symm⟩, hJx3⟩⟩

set_option maxHeartbeats 1000000 in
/-- slices.Backward boxes the slice; the function value captures the box. -/
theorem backward_any (a : Option Addr) (len cap : Nat) (w : World) :
    Calls Try.prog 23 #[.slice a len cap] w fun e w' => e = .returned (.func (.func 28) #[] #[.pointer (some ⟨w.heap.size, 0, none⟩)]) ∧ w' = w.alloc (.cells #[.slice a len cap] 33) := by
  go_enter Try.func23, Try.ntmps23
  go_wp2_with fail
  go_ret
  exact ⟨rfl, rfl⟩
theorem back_stops {α : Type} (enc : α → Array Value) (F : Nat → α) (n : Nat) (hn : 1 ≤ n) (Bs b off cap : Nat) (zs : List Int) (hreach : zs.length ≤ 100000) (hF : ∀ m, m < zs.length → enc (F (zs.length - (m + 1))) = #[.int .i64 (m : Int), .int .i64 (zs.getD m 0)]) (w : World) (hBs : Bs < w.heap.size) (hb : b < w.heap.size)
    (hc : w.cell? ⟨Bs, 0, none⟩ = some (.slice (some ⟨b, off, none⟩) zs.length cap)) (hz : ∀ j, j < zs.length → w.cell? ⟨b, off + j, none⟩ = some (.int .i64 (zs.getD j 0))) :
    SeqStopsK Fence.wide n Try.prog 28 #[.pointer (some ⟨Bs, 0, none⟩)] enc (KeepsB [Bs, b]) (fun ys => ys = upF F zs.length) (fun pre => ∃ k, k ≤ zs.length ∧ pre = upF F k) zs.length w := fun l J Jx W hW _ _ hY h0 =>
  backward1_in enc F n hn l Bs b off cap zs hreach hF J Jx hY W ((hW.cell (p := ⟨Bs, 0, none⟩) hBs).trans hc) (fun j hj => (hW.cell (p := ⟨b, off + j, none⟩) hb).trans (hz j hj)) h0

/-- a row is filled with one value -/
theorem own_fill {base g n cap : Nat} {e : TypeId} (z : Value) : ∀ (m k : Nat) (w : World) (xs : List Value), k + m ≤ n → w.ownsRow base e 1 (.slice (some ⟨g, 0, none⟩) n cap) n xs → (w.setCells g k (List.replicate m z)).ownsRow base e 1 (.slice (some ⟨g, 0, none⟩) n cap) n (xs.take k ++ List.replicate m z ++ xs.drop (k + m))
  | 0, k, w, xs, _, h => by
    show w.ownsRow _ _ _ _ _ _
    rw [List.replicate_zero, List.append_nil, Nat.add_zero, List.take_append_drop]
    exact h
  | m + 1, k, w, xs, hk, h => by
    have hl : xs.length = n := by have := h.1; omega
    have h1 := own_fill z m (k + 1) _ _ (by omega) ((h.stored k z).1)
    rw [List.replicate_succ]
    show ((w.setCell ⟨g, k, none⟩ z).setCells g (k + 1) (List.replicate m z)).ownsRow _ _ _ _ _ _
    have e1 : (xs.set k z).take (k + 1) ++ List.replicate m z ++ (xs.set k z).drop (k + 1 + m) = xs.take k ++ (z :: List.replicate m z) ++ xs.drop (k + (m + 1)) := by
      rw [List.take_succ_eq_append_getElem (by simp; omega), List.take_set_of_le (by omega), List.getElem_set_self, List.drop_set_of_lt (by omega)]
      simp only [List.append_assoc, List.cons_append, List.nil_append]
      rw [show k + 1 + m = k + (m + 1) by omega]
    rw [e1] at h1
    exact h1
theorem own_clear {w : World} {base g n cap : Nat} {e : TypeId} {sl : List Bool} (h : w.ownsRow base e 1 (.slice (some ⟨g, 0, none⟩) n cap) n (bool1 sl)) : (w.setCells g 0 (List.replicate n (.bool false))).ownsRow base e 1 (.slice (some ⟨g, 0, none⟩) n cap) n (bool1 (List.replicate n false)) := by
  have h1 := own_fill (.bool false) n 0 w _ (by omega) h
  have hl : (bool1 sl).length = n := by have := h.1; omega
  rw [List.take_zero, List.nil_append, Nat.zero_add, List.drop_of_length_le (by omega), List.append_nil] at h1
  have e2 : bool1 (List.replicate n false) = List.replicate n (.bool false) := by simp [bool1]
  rw [e2]
  exact h1
/-- a table of rows as the rows of nodes that a walk reads -/
theorem RR.of_rw {w w' : World} {B N base Q : Nat} {G : Bool → Nat} {val : Bool → Nat → Value} {ls : Bool → Nat → List Nat} (h : RW w B G N val ls) (hb : Below w.heap.size w w') (b : Bool) (hlt : ∀ v, v < N → ∀ x ∈ ls b v, x < N) (hlen : ∀ v, v < N → (ls b v).length ≤ 100000) (hQ : w.heap.size ≤ Q) (hbase : w.heap.size ≤ base) : RR w' base Q (G b) N (ls b) where
  row := fun v hv => by
    obtain ⟨c0, _⟩ := h.cell b hv
    have hlt2 := (h.own b v hv).lt
    obtain ⟨A, c, he, hI⟩ := il_own (h.own b v hv)
    rw [he] at c0 hlt2
    refine ⟨A, _, c, (hb.cell (p := ⟨G b, v, none⟩) (h.lt b).2).trans c0, (hI.below hb).more hbase, hlen v hv, fun b' off e hq => ?_⟩
    have := (hlt2 b' (by rw [e]; rfl)).2
    omega
  lt := hlt
  g := ⟨by have := (h.lt b).2; omega, by have := (h.lt b).2; omega⟩
end Go.Proofs.Ytapajkfnpkekdaa

/-
  What the two passes of 'groups' find: the walks ahead leave each node behind those it reaches; the walks back from behind find the sets of nodes that are reached from each other.
-/
namespace Go.Proofs.Ytapajkfnpkekdaa
open Go Go.RowKit

/-- what is so in the first pass -/
structure Ps (w0 w : World) (base Q N : Nat) (next : Nat → List Nat) (sl : List Bool) (O : List Nat) (u : Value) : Prop where
  ord : w.ownsRow base 3 1 u O.length (int1 (castN O))
  sll : sl.length = N
  seen : w.ownsRow 0 4 1 (.slice (some ⟨Q, 0, none⟩) N N) N (bool1 sl)
  iff : ∀ x, sset sl x ↔ x ∈ O
  wk : Wk next (sset sl) O
  lt : ∀ x ∈ O, x < N
  bb : BB base Q w0 w
theorem no_set (N x : Nat) : ¬ sset (List.replicate N false) x := by
  unfold sset
  rw [List.getElem?_replicate]
  split <;> simp
theorem wk_nil {next : Nat → List Nat} {S : Nat → Prop} : Wk next S [] :=
  ⟨fun x hx => (by cases hx), fun x hx => (by cases hx), List.nodup_nil, fun j v h => by simp at h⟩
theorem Ps.begin {w0 : World} {base Q N : Nat} {next : Nat → List Nat} (hs : w0.ownsRow 0 4 1 (.slice (some ⟨Q, 0, none⟩) N N) N (bool1 (List.replicate N false))) : Ps w0 w0 base Q N next (List.replicate N false) [] (.slice none 0 0) :=
  ⟨World.ownsRow_nil _ _ _ _, by simp, hs, fun x => ⟨fun h => absurd h (no_set N x), fun h => by cases h⟩, wk_nil, fun x hx => (by cases hx), BB.of (Below.refl _ _)⟩
theorem Ps.walk {w0 w w' : World} {base Q N v : Nat} {next : Nat → List Nat} {sl : List Bool} {O : List Nat} {u : Value} {e : Ending} (h : Ps w0 w base Q N next sl O u) (hp : WalkPost base Q N next v sl O w e w') :
    ∃ u' sl' O', e = .returned u' ∧ Ps w0 w' base Q N next sl' O' u' ∧ v ∈ O' ∧ ∀ x ∈ O, x ∈ O' := by
  obtain ⟨M, sl', u', rfl, h1, h2, h3, h4, h5, h6⟩ := hp
  have hiff : ∀ x, sset sl' x ↔ x ∈ O ++ M := fun x => by rw [h4.all, h.iff, List.mem_append]
  exact ⟨u', sl', O ++ M, rfl, ⟨h1, h2, h3, hiff, h4.wk, fun x hx => (List.mem_append.1 hx).elim (h.lt x) (h5 x), h.bb.trans h6⟩, (hiff v).1 h4.at_, fun x hx => List.mem_append_left _ hx⟩

/-- what is so in the second pass, when walks back have been made from the nodes of O from place j on: which are seen, and the number of each one's group -/
structure Qs (next : Nat → List Nat) (N : Nat) (O : List Nat) (j : Nat) (sl : List Bool) (gs : List Int) : Prop where
  sll : sl.length = N
  gl : gs.length = N
  done : ∀ i x, j ≤ i → O[i]? = some x → sset sl x
  cl : ∀ x y, sset sl x → Mut next x y → sset sl y
  root : ∀ x, sset sl x → ∃ r : Nat, gx gs x = (r : Int) ∧ Mut next r x
  same : ∀ x y, sset sl x → Mut next x y → gx gs x = gx gs y
theorem Qs.begin {next : Nat → List Nat} {N : Nat} {O : List Nat} {gs : List Int} (hg : gs.length = N) : Qs next N O O.length (List.replicate N false) gs :=
  ⟨by simp, hg, fun i x hi hx => (by rw [List.getElem?_eq_none hi] at hx; cases hx), fun x y hx => absurd hx (no_set N x), fun x hx => absurd hx (no_set N x), fun x y hx => absurd hx (no_set N x)⟩
/-- numbers written at some places -/
def setAll (gs : List Int) (M : List Nat) (v : Int) : List Int := M.foldl (fun l x => l.set x v) gs
theorem setAll_len (v : Int) : ∀ (M : List Nat) (gs : List Int), (setAll gs M v).length = gs.length
  | [], _ => rfl
  | x :: M, gs => (setAll_len v M (gs.set x v)).trans (by simp)
theorem setAll_snoc (gs : List Int) (M : List Nat) (x : Nat) (v : Int) : setAll gs (M ++ [x]) v = (setAll gs M v).set x v := by simp [setAll]
theorem setAll_gx (v : Int) (y : Nat) : ∀ (M : List Nat) (gs : List Int), (∀ x ∈ M, x < gs.length) → gx (setAll gs M v) y = if y ∈ M then v else gx gs y
  | [], _, _ => rfl
  | x :: M, gs, h => by
    have h1 := setAll_gx v y M (gs.set x v) fun z hz => by rw [List.length_set]; exact h z (by simp [hz])
    show gx (setAll (gs.set x v) M v) y = _
    rw [h1, gx_set _ _ _ (h x (by simp))]
    by_cases hM : y ∈ M
    · rw [if_pos hM, if_pos (by simp [hM])]
    · rw [if_neg hM]
      by_cases hx : y = x
      · rw [if_pos (by simp [hx])]; unfold upd; rw [if_pos hx]
      · rw [if_neg (by simp [hx, hM])]; unfold upd; rw [if_neg hx]
/-- one walk back -/
theorem Qs.step {next back : Nat → List Nat} (hb : ∀ a b, b ∈ next a ↔ a ∈ back b) {N j v : Nat} {O : List Nat} {sl sl' : List Bool} {gs : List Int} {M : List Nat} (hO : Ks next O) (hall : ∀ x, x < N → x ∈ O) (hbl : ∀ x, ∀ y ∈ back x, y < N)
    (h : Qs next N O (j + 1) sl gs) (hj : O[j]? = some v) (hl : sl'.length = N) (hM : ∀ x ∈ M, x < N) (hw : Wn back v (sset sl) (sset sl') [] M) : Qs next N O j sl' (setAll gs M (v : Int)) := by
  have hg : ∀ x ∈ M, x < gs.length := fun x hx => by rw [h.gl]; exact hM x hx
  by_cases hv : sset sl v
  · -- it is seen already: nothing is found
    have hMn : ∀ x, x ∉ M := fun x hx => by
      have h1 : Rc back (fun y => y ∈ M) v x := hw.rc x hx
      have h2 : v ∈ M := by
        clear hx
        induction h1 with
        | refl h => exact h
        | step _ _ _ ih => exact ih
      exact hw.new v h2 hv
    have hMe : M = [] := List.eq_nil_iff_forall_not_mem.2 hMn
    subst hMe
    have hsame : ∀ x, sset sl' x ↔ sset sl x := fun x => by rw [hw.all]; simp
    refine ⟨hl, h.gl, fun i x hi hx => (hsame x).2 ?_, fun x y hx hxy => (hsame y).2 (h.cl x y ((hsame x).1 hx) hxy), fun x hx => h.root x ((hsame x).1 hx), fun x y hx hxy => h.same x y ((hsame x).1 hx) hxy⟩
    by_cases hij : i = j
    · subst hij
      rw [hj] at hx
      obtain rfl := Option.some.inj hx
      exact hv
    · exact h.done i x (by omega) hx
  · have hMm : ∀ x, x ∈ M ↔ Mut next v x := back_mut hb hO hj (T := sset sl) (T' := sset sl') (fun i x hi hx => h.done i x (by omega) hx) (fun x y hx hxy => h.cl x y hx hxy) hv (fun x y hx hy => hall y (hbl x y hy)) hw
    refine ⟨hl, by rw [setAll_len]; exact h.gl, fun i x hi hx => ?_, fun x y hx hxy => ?_, fun x hx => ?_, fun x y hx hxy => ?_⟩
    · by_cases hij : i = j
      · subst hij
        rw [hj] at hx
        obtain rfl := Option.some.inj hx
        exact hw.at_
      · exact (hw.all x).2 (.inl (h.done i x (by omega) hx))
    · rcases (hw.all x).1 hx with h1 | h1
      · exact (hw.all y).2 (.inl (h.cl x y h1 hxy))
      · exact (hw.all y).2 (.inr ((hMm y).2 (((hMm x).1 h1).trans hxy)))
    · rw [setAll_gx _ _ _ _ hg]
      by_cases hxM : x ∈ M
      · rw [if_pos hxM]
        exact ⟨v, rfl, (hMm x).1 hxM⟩
      · rw [if_neg hxM]
        exact h.root x (((hw.all x).1 hx).resolve_right hxM)
    · rw [setAll_gx _ _ _ _ hg, setAll_gx _ _ _ _ hg]
      by_cases hxM : x ∈ M
      · rw [if_pos hxM, if_pos ((hMm y).2 (((hMm x).1 hxM).trans hxy))]
      · have hyM : y ∉ M := fun hy => hxM ((hMm x).2 (((hMm y).1 hy).trans hxy.symm))
        rw [if_neg hxM, if_neg hyM]
        exact h.same x y (((hw.all x).1 hx).resolve_right hxM) hxy
/-- in the end the numbers tell the groups -/
theorem Qs.fin {next : Nat → List Nat} {N : Nat} {O : List Nat} {sl : List Bool} {gs : List Int} (hall : ∀ x, x < N → x ∈ O) (h : Qs next N O 0 sl gs) : ∀ x y, x < N → y < N → (gx gs x = gx gs y ↔ Mut next x y) := by
  intro x y hx hy
  have hs : ∀ z, z < N → sset sl z := fun z hz => by
    obtain ⟨i, hi⟩ := List.mem_iff_getElem?.1 (hall z hz)
    exact h.done i z (Nat.zero_le _) hi
  constructor
  · intro he
    obtain ⟨r, h1, h2⟩ := h.root x (hs x hx)
    obtain ⟨s, h3, h4⟩ := h.root y (hs y hy)
    have : r = s := by rw [h1, h3] at he; omega
    subst this
    exact h2.symm.trans h4
  · exact fun hm => h.same x y (hs x hx) hm
end Go.Proofs.Ytapajkfnpkekdaa

/-
  'groups' of package graph: which nodes tight edges lead to from each other.
-/
namespace Go.Proofs.Ytapajkfnpkekdaa
open Go Go.RowKit

/-- the two tables and the box that holds the second -/
def Tbl (w : World) (oA : Obj) (N : Nat) (x y : Value) (wx : World) : Prop := ∃ GA GB X : Nat, x = .slice (some ⟨GA, 0, none⟩) N N ∧ y = .pointer (some ⟨X, 0, none⟩) ∧ GA ≠ GB ∧ X ≠ GA ∧ X ≠ GB ∧ w.heap.size ≤ GA ∧ w.heap.size ≤ GB ∧ w.heap.size ≤ X ∧ wx.heap[GA]? = some oA ∧ wx.heap[GB]? = some oA ∧ wx.cell? ⟨X, 0, none⟩ = some (.slice (some ⟨GB, 0, none⟩) N N) ∧ Below w.heap.size w wx

theorem heap_threeD (w : World) (a b c : Obj) : (((w.alloc a).alloc b).alloc c).drew.heap[w.heap.size]? = some a ∧ (((w.alloc a).alloc b).alloc c).drew.heap[w.heap.size + 1]? = some b ∧ (((w.alloc a).alloc b).alloc c).drew.heap[w.heap.size + 1 + 1]? = some c := heap_three w a b c
theorem cell0 {W : World} {X : Nat} {v : Value} {ty : TypeId} {fr : Nat × Nat} (h : W.heap[X]? = some (.cells #[v] ty fr)) : W.cell? ⟨X, 0, none⟩ = some v := by simp [World.cell?, h]
theorem Tbl.of (w : World) (oA : Obj) (N : Nat) (a b c : Obj) (GB : Nat) {GA X : Nat} (hA : (((w.alloc a).alloc b).alloc c).drew.heap[GA]? = some oA) (hB : (((w.alloc a).alloc b).alloc c).drew.heap[GB]? = some oA) (hX : (((w.alloc a).alloc b).alloc c).drew.cell? ⟨X, 0, none⟩ = some (.slice (some ⟨GB, 0, none⟩) N N)) (n1 : GA ≠ GB) (n2 : X ≠ GA) (n3 : X ≠ GB) (l1 : w.heap.size ≤ GA) (l2 : w.heap.size ≤ GB) (l3 : w.heap.size ≤ X) :
    Tbl w oA N (.slice (some ⟨GA, 0, none⟩) N N) (.pointer (some ⟨X, 0, none⟩)) (((w.alloc a).alloc b).alloc c).drew :=
  ⟨GA, GB, X, rfl, rfl, n1, n2, n3, l1, l2, l3, hA, hB, hX, ((((Below.refl _ w).alloc (Nat.le_refl _) _).alloc (by simp) _).alloc (by simp; omega) _).drew⟩
theorem made_nil (N : Nat) : (madeCells #[Value.slice none 0 0] N).toList = (List.range N).map fun _ => Value.slice none 0 0 := by
  refine List.ext_getElem? fun j => ?_
  by_cases hj : j < N
  · simp [madeCells, hj, Nat.mod_one]
  · rw [List.getElem?_eq_none (by simp [madeCells]; omega), List.getElem?_eq_none (by simp; omega)]
theorem own_madeS {w : World} {G N : Nat} (h : w.heap[G]? = some (.cells (madeCells #[Value.slice none 0 0] N) 33)) (hN : N ≤ 2000) : w.ownsRow 0 33 1 (.slice (some ⟨G, 0, none⟩) N N) N ((List.range N).map fun _ => Value.slice none 0 0) := by
  refine ⟨by simp, .inr ⟨G, N, madeCells #[Value.slice none 0 0] N, rfl, Nat.zero_le _, h, Nat.le_refl _, by unfold maxLen; omega, by simp [madeCells], ?_⟩⟩
  simp only [Nat.mul_one]
  rw [List.take_of_length_le (by simp [madeCells])]
  exact made_nil N
/-- the tables as they are made -/
theorem RW.made {w : World} {GA GB N : Nat} (hA : w.heap[GA]? = some (.cells (madeCells #[Value.slice none 0 0] N) 33)) (hB : w.heap[GB]? = some (.cells (madeCells #[Value.slice none 0 0] N) 33)) (hn : GA ≠ GB) (hN : N ≤ 2000) :
    RW w w.heap.size (fun b => cond b GA GB) N (fun _ _ => .slice none 0 0) (fun _ _ => []) :=
  ⟨fun b => by
    cases b
    · exact own_madeS hB hN
    · exact own_madeS hA hN, fun _ _ _ => World.ownsRow_nil _ _ _ _, fun _ _ _ _ _ _ _ q hq => by simp [Value.ownBlock] at hq, hn⟩

/-- where tight edges lead, and where they come from -/
def tnb (V : List Int) (D : List Edg) (b : Bool) (x : Nat) : List Nat := cond b (tn V D x) ((D.filter fun e => e.t == x && tg V e).map (·.f))
theorem tnb_no {V : List Int} {D : List Edg} {e : Edg} (h : tg V e = false) : tnb V (D ++ [e]) = tnb V D := by
  funext b x
  unfold tnb tn
  rw [List.filter_append, List.filter_append]
  simp [h]
theorem tnb_yes {V : List Int} {D : List Edg} {e : Edg} (h : tg V e = true) : tnb V (D ++ [e]) = fun c x => if c = false ∧ x = e.t then (if false = true ∧ e.t = e.f then tnb V D true e.f ++ [e.t] else tnb V D false e.t) ++ [e.f] else (if c = true ∧ x = e.f then tnb V D true e.f ++ [e.t] else tnb V D c x) := by
  funext c x
  unfold tnb tn
  cases c
  · by_cases hx : x = e.t
    · subst hx; simp [List.filter_append, h]
    · have : ¬ e.t = x := fun e => hx e.symm
      simp [List.filter_append, hx, this]
  · by_cases hx : x = e.f
    · subst hx; simp [List.filter_append, h]
    · have : ¬ e.f = x := fun e => hx e.symm
      simp [List.filter_append, hx, this]
theorem tnb_len (V : List Int) (D : List Edg) (b : Bool) (x : Nat) : (tnb V D b x).length ≤ D.length := by
  unfold tnb tn
  cases b
  · simp only [cond_false, List.length_map]; exact List.length_filter_le _ _
  · simp only [cond_true, List.length_map]; exact List.length_filter_le _ _
/-- the edges of the first v nodes -/
def dnE (out : Nat → List Edg) (v : Nat) : List Edg := (List.range v).flatMap out
theorem dnE_succ (out : Nat → List Edg) (v : Nat) : dnE out (v + 1) = dnE out v ++ out v := by
  unfold dnE
  rw [List.range_succ, List.flatMap_append]
  simp
theorem dnE_le (out : Nat → List Edg) (v N : Nat) (h : v ≤ N) : (dnE out v).length ≤ (dnE out N).length := by
  induction N with
  | zero => obtain rfl : v = 0 := by omega
            exact Nat.le_refl _
  | succ N ih =>
    by_cases hv : v = N + 1
    · subst hv; exact Nat.le_refl _
    · rw [dnE_succ, List.length_append]
      have := ih (by omega)
      omega

/-- what an append to a row, with its store, leaves -/
theorem RW.step {a w2 wd w5 : World} {B EB N : Nat} {G : Bool → Nat} {val : Bool → Nat → Value} {ls : Bool → Nat → List Nat} {C : Array Value} (h : RW w2 B G N val ls) (hbg : BG2 B G a w2) (hB : B ≤ w2.heap.size) (hE : w2.heap[EB]? = some (.cells C 68)) (hb : Below w2.heap.size w2 wd) (hs : wd.heap.size = w2.heap.size + 1)
    {b : Bool} {v t g cap : Nat} (hv : v < N) (hg : wd.grownBy w5 (val b v).ownBlock) (ho : w5.ownsRow B 3 1 (.slice (some ⟨g, 0, none⟩) ((ls b v).length + 1) cap) ((ls b v).length + 1) (int1 (castN (ls b v)) ++ [.int .i64 t])) (hl : (val b v).ownBlock = some g ∨ g = w2.heap.size + 1) :
    ∃ val', RW (w5.setCell ⟨G b, v, none⟩ (.slice (some ⟨g, 0, none⟩) ((ls b v).length + 1) cap)) B G N val' (fun c x => if c = b ∧ x = v then ls b v ++ [t] else ls c x) ∧ BG2 B G a (w5.setCell ⟨G b, v, none⟩ (.slice (some ⟨g, 0, none⟩) ((ls b v).length + 1) cap)) ∧ (w5.setCell ⟨G b, v, none⟩ (.slice (some ⟨g, 0, none⟩) ((ls b v).length + 1) cap)).heap[EB]? = some (.cells C 68) := by
  have hd := h.below hb
  have hlt : EB < w2.heap.size := (Array.getElem?_eq_some_iff.1 hE).1
  have hEd : wd.heap[EB]? = some (.cells C 68) := (hb.block EB hlt).trans hE
  refine ⟨_, hd.put hv hg ho (hl.imp id fun h1 => by rw [h1, hs]), ((hbg.then hb hB).grown hg (by rw [hs]; omega) fun k hk => ((hd.own b v hv).lt k hk).1).set b v _, ?_⟩
  have h1 : EB ≠ G b := fun e => own_ne (hd.row b) ⟨_, _, hEd⟩ (by decide) (by rw [e]; rfl)
  have h2 : (val b v).ownBlock ≠ some EB := own_ne (hd.own b v hv) ⟨_, _, hEd⟩ (by decide)
  exact (Below.heap_setCell _ _ _ EB h1).trans ((hg.block EB (by rw [hs]; omega) (fun e => h2 e.symm)).trans hEd)

/-- what groups says -/
def GrpPost (N : Nat) (next : Nat → List Nat) (w : World) (e : Ending) (w' : World) : Prop :=
  ∃ (g : Nat) (gs : List Int), e = .returned (.slice (some ⟨g, 0, none⟩) N N) ∧ gs.length = N ∧ w'.ownsRow w.heap.size 3 1 (.slice (some ⟨g, 0, none⟩) N N) N (int1 gs) ∧ (∀ x y, x < N → y < N → (gx gs x = gx gs y ↔ Mut next x y)) ∧ Below w.heap.size w w' ∧ ∀ x, x < N → 0 ≤ gx gs x ∧ gx gs x < N
theorem Qs.range {next : Nat → List Nat} {N : Nat} {O : List Nat} {sl : List Bool} {gs : List Int} (hlt : ∀ a, ∀ y ∈ next a, y < N) (hall : ∀ x, x < N → x ∈ O) (h : Qs next N O 0 sl gs) : ∀ x, x < N → 0 ≤ gx gs x ∧ gx gs x < N := by
  intro x hx
  obtain ⟨i, hi⟩ := List.mem_iff_getElem?.1 (hall x hx)
  obtain ⟨r, h1, _, h2⟩ := h.root x (h.done i x (Nat.zero_le _) hi)
  have hr : r < N := by
    unfold Rch at h2
    cases h2 with
    | refl _ => exact hx
    | step _ h3 _ => exact hlt _ _ h3
  rw [h1]
  omega
theorem dnE_mem {out : Nat → List Edg} {N : Nat} {e : Edg} (h : e ∈ dnE out N) : ∃ v, v < N ∧ e ∈ out v := by
  unfold dnE at h
  rw [List.mem_flatMap] at h
  obtain ⟨v, hv, he⟩ := h
  exact ⟨v, List.mem_range.1 hv, he⟩
theorem tnb_back {V : List Int} {D : List Edg} (a b : Nat) : b ∈ tnb V D true a ↔ a ∈ tnb V D false b := by
  simp only [tnb, tn, cond_true, cond_false, List.mem_map, List.mem_filter, Bool.and_eq_true, beq_iff_eq]
  constructor
  · rintro ⟨e, ⟨h1, h2, h3⟩, h4⟩; exact ⟨e, ⟨h1, h4, h3⟩, h2⟩
  · rintro ⟨e, ⟨h1, h2, h3⟩, h4⟩; exact ⟨e, ⟨h1, h4, h3⟩, h2⟩
theorem tnb_lt {V : List Int} {D : List Edg} {N : Nat} (hD : ∀ e ∈ D, e.f < N ∧ e.t < N) (b : Bool) (v : Nat) : ∀ x ∈ tnb V D b v, x < N := by
  intro x hx
  cases b
  · simp only [tnb, cond_false, List.mem_map, List.mem_filter] at hx
    obtain ⟨e, ⟨h1, _⟩, rfl⟩ := hx
    exact (hD e h1).1
  · simp only [tnb, tn, cond_true, List.mem_map, List.mem_filter] at hx
    obtain ⟨e, ⟨h1, _⟩, rfl⟩ := hx
    exact (hD e h1).2
theorem made_zerosG (n : Nat) : (madeCells #[Value.int .i64 0] n).toList = int1 (List.replicate n 0) := by
  refine List.ext_getElem? fun j => ?_
  by_cases hj : j < n
  · simp [madeCells, int1, hj, Nat.mod_one]
  · rw [List.getElem?_eq_none (by simp [madeCells]; omega), List.getElem?_eq_none (by simp [int1]; omega)]
theorem BB.setCells {B T : Nat} {a : World} : ∀ (vs : List Value) (o : Nat) {w : World}, BB B T a w → BB B T a (w.setCells T o vs)
  | [], _, _, h => h
  | v :: vs, o, _, h => BB.setCells vs (o + 1) (h.setT o v)
theorem heap_setC {T i : Nat} (hi : i ≠ T) : ∀ (vs : List Value) (o : Nat) (w : World), (w.setCells T o vs).heap[i]? = w.heap[i]?
  | [], _, _ => rfl
  | _ :: vs, o, w => (heap_setC hi vs (o + 1) _).trans (Below.heap_setCell w ⟨T, o, none⟩ _ i hi)
theorem size_setC (T : Nat) : ∀ (vs : List Value) (o : Nat) (w : World), (w.setCells T o vs).heap.size = w.heap.size
  | [], _, _ => rfl
  | _ :: vs, o, _ => (size_setC T vs (o + 1) _).trans (World.size_setCell _ _ _)
theorem BB.bel {B T D : Nat} {w w' : World} (h : BB B T w w') (hD : D ≤ B) (hT : D ≤ T) : Below D w w' :=
  ⟨h.os, h.tape, h.output, h.size, fun k hk => h.block k (by omega) (by omega)⟩
theorem own_heap {w w' : World} {base g n c size : Nat} {e : TypeId} {xs : List Value} (h : w.ownsRow base e size (.slice (some ⟨g, 0, none⟩) n c) n xs) (hg : w'.heap[g]? = w.heap[g]?) : w'.ownsRow base e size (.slice (some ⟨g, 0, none⟩) n c) n xs :=
  ⟨h.1, h.2.imp id fun ⟨g', cap, cur, e1, e2, e3, e4⟩ => ⟨g', cap, cur, e1, e2, by cases e1; exact hg.trans e3, e4⟩⟩
/-- a place and a node -/
abbrev NdP (N : Nat) := { p : Nat × Nat // p.2 < N }
def ndE {N : Nat} (x : NdP N) : Array Value := #[.int .i64 (x.1.1 : Int), .int .i64 (x.1.2 : Int)]
theorem getD_lt {N : Nat} {O : List Nat} (hN : 0 < N) (h : ∀ x ∈ O, x < N) (i : Nat) : O.getD i 0 < N := by
  rw [List.getD_eq_getElem?_getD]
  cases hi : O[i]? with
  | none => exact hN
  | some x => exact h x (List.mem_of_getElem? hi)
/-- the nodes from behind, with their places -/
def ndF {N : Nat} {O : List Nat} (hN : 0 < N) (h : ∀ x ∈ O, x < N) (k : Nat) : NdP N := ⟨(O.length - 1 - k, O.getD (O.length - 1 - k) 0), getD_lt hN h _⟩
theorem ndF_enc {N : Nat} {O : List Nat} (hN : 0 < N) (h : ∀ x ∈ O, x < N) : ∀ m, m < (castN O).length → ndE (ndF hN h ((castN O).length - (m + 1))) = #[.int .i64 (m : Int), .int .i64 ((castN O).getD m 0)] := fun m hm => by
  rw [castN_len] at hm ⊢
  have e1 : O.length - 1 - (O.length - (m + 1)) = m := by omega
  unfold ndE ndF
  simp only [e1]
  have e2 : (castN O).getD m 0 = ((O.getD m 0 : Nat) : Int) := by
    rw [List.getD_eq_getElem?_getD, List.getD_eq_getElem?_getD]
    unfold castN
    rw [List.getElem?_map, List.getElem?_eq_getElem hm]
    rfl
  rw [e2]
/-- between two rounds of the second pass -/
structure It (next : Nat → List Nat) (N : Nat) (O : List Nat) (F : Nat → NdP N) (w w8 : World) (Q Gp : Nat) (pre : List (NdP N)) (W : World) (sl : List Bool) (gs : List Int) : Prop where
  sll : sl.length = N
  gl : gs.length = N
  qs : pre = upF F pre.length → pre.length ≤ O.length → Qs next N O (O.length - pre.length) sl gs
  seen : W.ownsRow 0 4 1 (.slice (some ⟨Q, 0, none⟩) N N) N (bool1 sl)
  grp : W.ownsRow w.heap.size 3 1 (.slice (some ⟨Gp, 0, none⟩) N N) N (int1 gs)
  bg : BG2 w8.heap.size (fun b => cond b Q Gp) w8 W
theorem It.own (next : Nat → List Nat) (N : Nat) (O : List Nat) (F : Nat → NdP N) (w w8 : World) (Q Gp : Nat) : OwnFrom w8.heap.size (fun pre W => ∃ sl gs, It next N O F w w8 Q Gp pre W sl gs) := fun pre W W' row ⟨sl, gs, h⟩ hg hr => by
  have hno : ∀ {base g n c size : Nat} {e : TypeId} {xs : List Value}, W.ownsRow base e size (.slice (some ⟨g, 0, none⟩) n c) n xs → ∀ q, row = some q → (Value.slice (some ⟨g, 0, none⟩) n c).ownBlock ≠ some q := fun {_ g _ _ _ _ _} ho q hq he => by
    obtain ⟨cs, fr, hc⟩ := row_ty ho
    obtain ⟨_, o, ho2, hn⟩ := hr q hq
    have e1 : g = q := by simpa [Value.ownBlock] using he
    subst e1
    rw [hc] at ho2
    cases ho2
    cases hn
  exact ⟨sl, gs, h.sll, h.gl, h.qs, own_grown h.seen hg (hno h.seen), own_grown h.grp hg (hno h.grp), h.bg.grown hg h.bg.size fun q hq => (hr q hq).1⟩
theorem It.bb {next : Nat → List Nat} {N : Nat} {O : List Nat} {F : Nat → NdP N} {w w8 W : World} {Q Gp B : Nat} {pre : List (NdP N)} {sl : List Bool} {gs : List Int} (h : It next N O F w w8 Q Gp pre W sl gs) (hB : B ≤ w8.heap.size) (hG : B ≤ Gp) : BB B Q w8 W :=
  ⟨h.bg.os, h.bg.tape, h.bg.output, h.bg.size, fun k hk hn => h.bg.block k (by omega) (fun b => by cases b; (show k ≠ Gp; omega); (show k ≠ Q; exact hn))⟩
theorem RR.more {w : World} {B B' Q G N : Nat} {next : Nat → List Nat} (h : RR w B Q G N next) (hB : B ≤ B') : RR w B' Q G N next :=
  ⟨fun v hv => by
    obtain ⟨A, m, c, h1, h2, h3, h4⟩ := h.row v hv
    exact ⟨A, m, c, h1, h2.more hB, h3, h4⟩, h.lt, ⟨Nat.lt_of_lt_of_le h.g.1 hB, h.g.2⟩⟩
/-- one round: a walk back, and the numbers of the group written -/
theorem It.next {next back : Nat → List Nat} (hb : ∀ a b, b ∈ next a ↔ a ∈ back b) {N : Nat} {O : List Nat} (hN : 0 < N) (hlt : ∀ x ∈ O, x < N) {w w8 W W5 W6 : World} {Q Gp : Nat} {pre : List (NdP N)} {x : NdP N} {sl sl' : List Bool} {gs : List Int} {M : List Nat}
    (h : It next N O (ndF hN hlt) w w8 Q Gp pre W sl gs) (hO : Ks next O) (hall : ∀ x, x < N → x ∈ O) (hbl : ∀ x, ∀ y ∈ back x, y < N) (hne : Q ≠ Gp)
    (hl : sl'.length = N) (hM : ∀ x ∈ M, x < N) (hw : Wn back x.1.2 (sset sl) (sset sl') [] M) (hs5 : W5.ownsRow 0 4 1 (.slice (some ⟨Q, 0, none⟩) N N) N (bool1 sl')) (hb5 : BB W.heap.size Q W W5) (hg6 : W6.ownsRow w.heap.size 3 1 (.slice (some ⟨Gp, 0, none⟩) N N) N (int1 (setAll gs M (x.1.2 : Int)))) (hb6 : BB W5.heap.size Gp W5 W6) :
    It next N O (ndF hN hlt) w w8 Q Gp (pre ++ [x]) W6 sl' (setAll gs M (x.1.2 : Int)) where
  sll := hl
  gl := by rw [setAll_len]; exact h.gl
  qs := fun he hle => by
    rw [List.length_append, List.length_singleton] at he hle ⊢
    rw [upF_snoc] at he
    obtain ⟨e1, e2⟩ := List.append_inj' he rfl
    have e2 : x = ndF hN hlt pre.length := by simpa using e2
    have hq := h.qs e1 (by omega)
    rw [show O.length - pre.length = O.length - (pre.length + 1) + 1 by omega] at hq
    refine Qs.step hb hO hall hbl hq ?_ hl hM hw
    rw [e2]
    show _ = some (O.getD (O.length - 1 - pre.length) 0)
    rw [List.getD_eq_getElem?_getD, show O.length - 1 - pre.length = O.length - (pre.length + 1) by omega, List.getElem?_eq_getElem (show O.length - (pre.length + 1) < O.length by omega)]
    rfl
  seen := own_heap hs5 (hb6.block Q (by have := (own_lt hs5).2; omega) hne)
  grp := hg6
  bg := ⟨hb6.os.trans (hb5.os.trans h.bg.os), hb6.tape.trans (hb5.tape.trans h.bg.tape), hb6.output.trans (hb5.output.trans h.bg.output), Nat.le_trans h.bg.size (Nat.le_trans hb5.size hb6.size), fun k hk hn => by
    have hq : k ≠ Q := hn true
    have hg : k ≠ Gp := hn false
    have h1 := h.bg.size
    have h2 := hb5.size
    exact (hb6.block k (by omega) hg).trans ((hb5.block k (by omega) hq).trans (h.bg.block k hk hn))⟩
/-- a return alone, behind a loop over an iterator; what a panic's scratch holds does not matter: there is none -/
def PostM0 (fn : Func) (R : Ending → World → Prop) : Exit → Act → World → Prop
  | .normal, a, w | .ret, a, w => LeavesInM Fence.wide 6 Try.prog fn a.tmps R a.defers .returning w
  | _, _, _ => False
theorem PostM0.le (fn : Func) (R : Ending → World → Prop) : ∀ e a w, PostM0 fn R e a w → bodyPostM Fence.wide 6 Try.prog fn R e a w := fun e a w h => by
  cases e <;> first | exact h | exact h.elim

attribute [local go_sem] Oper.semAt_some

set_option linter.unusedSimpArgs false in
set_option maxRecDepth 100000 in
set_option maxHeartbeats 8000000 in
theorem groups_any (S OF OU ON N K V c : Nat) (fo out : Nat → List Edg) (on : Nat → Bool) (xs : List Int) (w : World) (hse : SE w S OF OU ON N K fo out on) (hvs : VS w S ON N V c xs) (hG : GE N K fo out) (hx : ∀ v, 0 ≤ gx xs v ∧ gx xs v ≤ 2000000) (hN : N ≤ 2000) (hD : (dnE out N).length ≤ 100000) (hN0 : 0 < N) :
    Calls Try.prog 15 #[.pointer (some ⟨S, 0, none⟩)] w (GrpPost N (tnb xs (dnE out N) true) w) := by
  obtain ⟨s0, hs, hs0, hs1, hs2⟩ := info_parts infoS
  obtain ⟨i0, hi, hz0, hz1, hz2⟩ := info_parts infoI
  obtain ⟨oA, hoA⟩ : ∃ oA, oA = Obj.cells (madeCells (Value.slice none 0 0).cells (N * 1)) 33 := ⟨_, rfl⟩
  have hmk : ∀ W : World, (Instr.makeSlice 37 (.int .i64 N) (.int .i64 N)).run Try.prog W = .ok (.slice (some ⟨W.heap.size, 0, none⟩) N N) (W.alloc oA) := fun W => by
    have h := run_make (P := Try.prog) W 37 33 s0 (.slice none 0 0) Try.underlying37 hs hs0 .i64 .i64 N N (by omega) (Int.le_refl _) (by rw [hs2]; omega) (by omega)
    rw [hs1] at h
    rw [hoA]
    exact h
  have HoA : Hid (Obj.cells (madeCells #[.slice none 0 0] N) 33 = oA) := by rw [Hid, hoA]; simp [Value.cells]
  clear hoA
  have Hse := Lib.hid hse
  have Hvs := Lib.hid hvs
  have v3 := hvs.s3
  clear hse hvs
  let Qt : Exit → Act → World → Prop := bodyPost Try.prog Try.f15 (fun _ _ => True)
  refine (callsIn_wide (n := 6)).1 ?_
  refine callsIn_of_wp_marks Try.func15 rfl trivial ?_ rfl
  refine wpIn_mono (Q := PostM0 Try.f15 _) ?_ (PostM0.le _ _)
  refine wpIn_wide.2 ?_
  simp only [Try.ntmps15, List.size_toArray, List.length_cons, List.length_nil, Nat.reduceAdd, Nat.reduceSub, Array.replicate_succ, Array.replicate_zero, List.push_toArray, List.append_toArray, List.nil_append, List.cons_append]
  go_wp2_with fail
  go_cut [4, 5] (fun x y wx => Tbl w oA N x y wx)
  case first =>
    go_region_held3 (fun _ => True) (trivial) (fail)
    all_goals (go_wp2_with fail; go_meet)
    · exact Tbl.of w oA N _ _ _ (w.heap.size + 1) (heap_threeD w _ _ _).1 (heap_threeD w _ _ _).2.1 (cell0 (heap_threeD w _ _ _).2.2) (by omega) (by omega) (by omega) (by omega) (by omega) (by omega)
    · exact Tbl.of w oA N _ _ _ (w.heap.size + 1 + 1) (heap_threeD w _ _ _).1 (heap_threeD w _ _ _).2.2 (cell0 (heap_threeD w _ _ _).2.1) (by omega) (by omega) (by omega) (by omega) (by omega) (by omega)
    · exact Tbl.of w oA N _ _ _ w.heap.size (heap_threeD w _ _ _).2.1 (heap_threeD w _ _ _).1 (cell0 (heap_threeD w _ _ _).2.2) (by omega) (by omega) (by omega) (by omega) (by omega) (by omega)
    · exact Tbl.of w oA N _ _ _ w.heap.size (heap_threeD w _ _ _).2.2 (heap_threeD w _ _ _).1 (cell0 (heap_threeD w _ _ _).2.1) (by omega) (by omega) (by omega) (by omega) (by omega) (by omega)
    · exact Tbl.of w oA N _ _ _ (w.heap.size + 1 + 1) (heap_threeD w _ _ _).2.1 (heap_threeD w _ _ _).2.2 (cell0 (heap_threeD w _ _ _).1) (by omega) (by omega) (by omega) (by omega) (by omega) (by omega)
    · exact Tbl.of w oA N _ _ _ (w.heap.size + 1) (heap_threeD w _ _ _).2.2 (heap_threeD w _ _ _).2.1 (cell0 (heap_threeD w _ _ _).1) (by omega) (by omega) (by omega) (by omega) (by omega) (by omega)
  case rest =>
    obtain ⟨GA, GB, X, rfl, rfl, n1, n2, n3, l1, l2, l3, hA, hB, hX, hb0⟩ := hcut
    rw [← HoA.out] at hA hB
    have hRW := RW.made hA hB n1 hN
    clear hmk HoA hA hB
    have hsw := Hse.out.lt
    have u1 := (hb0.cell (p := ⟨S, 1, none⟩) hsw.1).trans Hse.out.s1
    have u3 := (hb0.cell (p := ⟨S, 3, none⟩) hsw.1).trans v3
    generalize hGG : (fun b => cond b GA GB) = G at *
    have hGA : G true = GA := by rw [← hGG]; rfl
    have hGB : G false = GB := by rw [← hGG]; rfl
    subst hGA hGB
    have HG2 : Hid (∀ b, w.heap.size ≤ G b) := fun b => by
      cases b
      · exact l2
      · exact l1
    clear hGG
    have hszc := hb0.size
    have hXc : X < wc.heap.size := by
      refine Nat.lt_of_not_le fun h => ?_
      have : wc.heap[X]? = none := Array.getElem?_eq_none h
      simp [World.cell?, this] at hX
    have HXc := Lib.hid hX
    have Hb0 := Lib.hid hb0
    have HD := Lib.hid hD
    have HOut : Hid (∀ v, v < N → ∃ A m cc, wc.cell? ⟨OU, v, none⟩ = some (.slice A m cc) ∧ EL wc w.heap.size A m (out v)) := fun v hv => by
      obtain ⟨A, m, cc, h1, h2, _⟩ := Hse.out.o v hv
      exact ⟨A, m, cc, (hb0.cell (p := ⟨OU, v, none⟩) hsw.2.2.1).trans h1, h2.below hb0⟩
    have HV3 := Lib.hid (own_below Hvs.out.own hb0)
    have hVlt := (own_lt Hvs.out.own).2
    clear hX hb0 hD
    obtain ⟨wo, hwo⟩ : ∃ wo, wo = wc := ⟨_, rfl⟩
    subst hwo
    have hD0 : dnE out 0 = [] := rfl
    have hT0 : (fun _ _ => [] : Bool → Nat → List Nat) = tnb xs [] := by funext b x; cases b <;> rfl
    rw [hT0] at hRW
    go_wp2_with fail
    go_loopw [32] (fun i wr => ∃ v : Nat, v ≤ N ∧ i = .int .i64 v ∧ ∃ val, RW wr wo.heap.size G N val (tnb xs (dnE out v)) ∧ BG2 wo.heap.size G wo wr) (fun i _ => N - (intOf i).toNat)
    case atStart => exact ⟨0, Nat.zero_le _, rfl, _, hRW, BG2.refl _⟩
    case round =>
      clear hRW hT0 hD0
      obtain ⟨v, hv, rfl, val, hRW, hbg⟩ := hrel
      by_cases hvN : v < N
      · obtain ⟨A, m, cc, a1, a2⟩ := HOut.out v hvN
        have hml : (out v).length = m := a2.1
        have hm : m ≤ 100000 := by
          have h1 := dnE_le out (v + 1) N (by omega)
          rw [dnE_succ, List.length_append] at h1
          have := HD.out
          omega
        have a1' := (hbg.cell (p := ⟨OU, v, none⟩) (show OU < wo.heap.size by omega) (fun b => show OU ≠ G b by have := HG2.out b; omega)).trans a1
        have hvi : (v : Int) < (N : Int) := by omega
        obtain ⟨wv, hwv⟩ : ∃ wv, wv = wr := ⟨_, rfl⟩
        subst hwv
        have hsv := hbg.size
        go_wp2_with fail
        go_loopw [38] (fun i wr => ∃ j : Nat, j ≤ m ∧ i = .int .i64 j ∧ ∃ val, RW wr wo.heap.size G N val (tnb xs (dnE out v ++ (out v).take j)) ∧ BG2 wo.heap.size G wo wr) (fun i _ => m - (intOf i).toNat)
        case atStart => exact ⟨0, Nat.zero_le _, rfl, val, by simpa using hRW, hbg⟩
        case round =>
          clear hRW hbg a1'
          obtain ⟨j, hj, rfl, val, hRW, hbg⟩ := hrel
          by_cases hjm : j < m
          · obtain ⟨b, off, e, rfl, hbl, he, h0, h1, h2, h3⟩ := a2.at_ hjm
            obtain ⟨efv, et, _, eb0, eb1⟩ := hG.ok.ok v e (List.mem_of_getElem? he)
            have ef : e.f < N := by omega
            have hbc : ∀ (q i : Nat), q < w.heap.size → wr.cell? ⟨q, i, none⟩ = wo.cell? ⟨q, i, none⟩ := fun q i hq => hbg.cell (show q < wo.heap.size by omega) (fun c => show q ≠ G c by have := HG2.out c; omega)
            have k0 := (hbc b (off + j * 4) hbl).trans h0
            have k1 := (hbc b (off + j * 4 + 1) hbl).trans h1
            have k2 := (hbc b (off + j * 4 + 2) hbl).trans h2
            have k3 := (hbc b (off + j * 4 + 3) hbl).trans h3
            have s3 := (hbc S 3 hsw.1).trans u3
            have hxl := Hvs.out.len
            have vf := (hbc V e.f hVlt).trans (own_cell HV3.out (gx_some (xs := xs) (v := e.f) (by omega))).1
            have vt := (hbc V e.t hVlt).trans (own_cell HV3.out (gx_some (xs := xs) (v := e.t) (by omega))).1
            obtain ⟨x0, x1⟩ := hx e.f
            have Hst : Hid (dnE out v ++ (out v).take (j + 1) = (dnE out v ++ (out v).take j) ++ [e]) := by rw [Hid, take_snoc he, List.append_assoc]
            have hql : (dnE out v ++ (out v).take j).length ≤ 100000 := by
              have h1 := dnE_le out (v + 1) N (by omega)
              rw [dnE_succ, List.length_append] at h1
              have := HD.out
              rw [List.length_append, List.length_take]
              omega
            generalize dnE out v ++ (out v).take j = D at hRW Hst hql
            have Htg : Hid (tg xs e = decide (gx xs e.f + e.b = gx xs e.t)) := rfl
            have efi : (e.f : Int) < (N : Int) := by omega
            have eti : (e.t : Int) < (N : Int) := by omega
            have hsz := hbg.size
            generalize gx xs e.f = gf at *
            generalize gx xs e.t = gt at *
            clear hbc he h0 h1 h2 h3
            have hbA : Below wr.heap.size wr (wr.alloc (.cells #[.int .i64 e.f, .int .i64 e.t, .int .i64 e.b, .int .i64 e.k] 68)) := (Below.refl _ wr).alloc (Nat.le_refl _) _
            have hSr : S < wr.heap.size := by omega
            have hVr : V < wr.heap.size := by omega
            have S3 := (hbA.cell (p := ⟨S, 3, none⟩) hSr).trans s3
            have VF := (hbA.cell (p := ⟨V, e.f, none⟩) hVr).trans vf
            have VT := (hbA.cell (p := ⟨V, e.t, none⟩) hVr).trans vt
            have hRW1 := hRW.below hbA
            have hbg1 := hbg.then hbA hsz
            have hEB : (wr.alloc (.cells #[.int .i64 e.f, .int .i64 e.t, .int .i64 e.b, .int .i64 e.k] 68)).heap[wr.heap.size]? = some (.cells #[.int .i64 e.f, .int .i64 e.t, .int .i64 e.b, .int .i64 e.k] 68) := heap_new _ _
            rw [← efv] at *
            go_wp2_with fail
            generalize wr.alloc (.cells #[.int .i64 e.f, .int .i64 e.t, .int .i64 e.b, .int .i64 e.k] 68) = W1 at S3 VF VT hRW1 hbg1 hEB ⊢
            clear hbA hRW hbg k0 k1 k2 k3 s3 vf vt
            generalize wr.heap.size = EB at *
            have E0 : W1.cell? ⟨EB, 0, none⟩ = some (.int .i64 e.f) := by simp [World.cell?, hEB]
            have E1 : W1.cell? ⟨EB, 1, none⟩ = some (.int .i64 e.t) := by simp [World.cell?, hEB]
            have E2 : W1.cell? ⟨EB, 2, none⟩ = some (.int .i64 e.b) := by simp [World.cell?, hEB]
            have hEBl : EB < W1.heap.size := (Array.getElem?_eq_some_iff.1 hEB).1
            by_cases ht : gf + e.b = gt
            · have Hyes := Lib.hid (tnb_yes (V := xs) (D := D) (e := e) (by rw [Htg.out]; exact decide_eq_true ht))
              have hlA := tnb_len xs D true e.f
              have hlB := tnb_len xs D false e.t
              go_quiet (fail)
              have hbd : Below W1.heap.size W1 (W1.drewN nq) := below_drewN (Below.refl _ _) _
              have hRW2 := hRW1.below hbd
              have hbg2 := hbg1.then hbd (by have := hbg1.size; omega)
              have F0 := (hbd.cell (p := ⟨EB, 0, none⟩) hEBl).trans E0
              have F1 := (hbd.cell (p := ⟨EB, 1, none⟩) hEBl).trans E1
              have hEB2 : EB < (W1.drewN nq).heap.size := Nat.lt_of_lt_of_le hEBl hbd.size
              have hEB1 : (W1.drewN nq).heap[EB]? = some (.cells #[.int .i64 e.f, .int .i64 e.t, .int .i64 e.b, .int .i64 e.k] 68) := (hbd.block EB hEBl).trans hEB
              have hB2 : wo.heap.size ≤ (W1.drewN nq).heap.size := by have := hbg2.size; exact this
              generalize W1.drewN nq = W2 at hRW2 hbg2 F0 F1 hEB2 hB2 hEB1 ⊢
              clear hbd S3 VF VT hRW1 hbg1 hEB E0 E1 E2 hEBl
              generalize tnb xs D = ls at hRW2 Hyes hlA hlB
              obtain ⟨t1, t2⟩ := hRW2.cell true ef
              have hown := hRW2.own true e.f ef
              have hne1 : EB ≠ G true := fun h => own_ne (hRW2.row true) ⟨_, _, hEB1⟩ (by decide) (by rw [h]; rfl)
              have hne3 := own_ne hown ⟨_, _, hEB1⟩ (by decide)
              obtain ⟨_, hGl⟩ := hRW2.lt true
              go_upto_region 10 with fail
              go_cut [73] (fun _ wx => ∃ val', RW wx wo.heap.size G N val' (fun c x => if c = true ∧ x = e.f then ls true e.f ++ [e.t] else ls c x) ∧ BG2 wo.heap.size G wo wx ∧ wx.heap[EB]? = some (.cells #[.int .i64 e.f, .int .i64 e.t, .int .i64 e.b, .int .i64 e.k] 68))
              case first =>
                have HK : Hid (∀ W, Below W2.heap.size W2 W → W.cell? ⟨EB, 0, none⟩ = some (.int .i64 e.f) ∧ W.cell? ⟨EB, 1, none⟩ = some (.int .i64 e.t)) := fun W hW => ⟨(hW.cell (p := ⟨EB, 0, none⟩) hEB2).trans F0, (hW.cell (p := ⟨EB, 1, none⟩) hEB2).trans F1⟩
                have hzr : Below W2.heap.size W2 W2 := Below.refl _ _
                have hal : Below W2.heap.size W2 (W2.alloc (.cells #[.int .i64 e.t] 3)) := hzr.alloc (Nat.le_refl _) _
                have hsal : (W2.alloc (.cells #[.int .i64 e.t] 3)).heap.size = W2.heap.size + 1 := by simp
                refine wp_region_held_drew (S := fun w' => w'.cell? ⟨EB, 0, none⟩ = some (.int .i64 e.f) ∧ w'.cell? ⟨EB, 1, none⟩ = some (.int .i64 e.t)) (by kernel_rfl) (HK.out _ hzr.drew) (fun hHeld => ?_)
                refine wpAnyH_take (i := 0) (v := ?_) rfl (by kernel_rfl) (by kernel_rfl) (by kernel_rfl) (fun _ _ _ h => h) (Or.inl ⟨by rfl, ?_⟩) (by assumption) ?_
                rotate_left
                · (intro w hSw; (try dsimp only at hSw); go_simp; try with_reducible rfl)
                try simp only [Act.put, List.setIfInBounds_toArray, List.set_cons_zero, List.set_cons_succ]
                refine wpAnyH_take (i := 1) (v := ?_) rfl (by kernel_rfl) (by kernel_rfl) (by kernel_rfl) (fun _ _ _ h => h) (Or.inl ⟨by rfl, ?_⟩) (by assumption) ?_
                rotate_left
                · (intro w hSw; (try dsimp only at hSw); go_simp; try with_reducible rfl)
                try simp only [Act.put, List.setIfInBounds_toArray, List.set_cons_zero, List.set_cons_succ]
                refine wpAnyH_take (i := 2) (v := ?_) rfl (by kernel_rfl) (by kernel_rfl) (by kernel_rfl) (fun _ _ _ h => h) (Or.inl ⟨by rfl, ?_⟩) (by assumption) ?_
                rotate_left
                · (intro w hSw; (try dsimp only at hSw); go_simp; try with_reducible rfl)
                try simp only [Act.put, List.setIfInBounds_toArray, List.set_cons_zero, List.set_cons_succ]
                refine wpAnyH_take (i := 3) (v := ?_) rfl (by kernel_rfl) (by kernel_rfl) (by kernel_rfl) (fun _ _ _ h => h) (Or.inl ⟨by rfl, ?_⟩) (by assumption) ?_
                rotate_left
                · (intro w hSw; (try dsimp only at hSw); go_simp; try with_reducible rfl)
                try simp only [Act.put, List.setIfInBounds_toArray, List.set_cons_zero, List.set_cons_succ]
                refine wpAnyH_take (i := 4) (v := ?_) rfl (by kernel_rfl) (by kernel_rfl) (by kernel_rfl) (fun _ _ _ h => h) (Or.inl ⟨by rfl, ?_⟩) (by assumption) ?_
                rotate_left
                · (intro w hSw; (try dsimp only at hSw); go_simp; try with_reducible rfl)
                try simp only [Act.put, List.setIfInBounds_toArray, List.set_cons_zero, List.set_cons_succ]
                refine wpAnyH_take (i := 5) (v := ?_) rfl (by kernel_rfl) (by kernel_rfl) (by kernel_rfl) (fun _ _ _ h => h) (Or.inl ⟨by rfl, ?_⟩) (by assumption) ?_
                rotate_left
                · (intro w hSw; (try dsimp only at hSw); go_simp; try with_reducible rfl)
                try simp only [Act.put, List.setIfInBounds_toArray, List.set_cons_zero, List.set_cons_succ]
                refine wpAnyH_take (i := 6) (v := ?_) rfl (by kernel_rfl) (by kernel_rfl) (by kernel_rfl) (fun _ _ _ h => h) (Or.inl ⟨by rfl, ?_⟩) (by assumption) ?_
                rotate_left
                · (intro w hSw; (try dsimp only at hSw); go_simp; try with_reducible rfl)
                try simp only [Act.put, List.setIfInBounds_toArray, List.set_cons_zero, List.set_cons_succ]
                refine wpAnyH_take (i := 8) (v := ?_) rfl (by kernel_rfl) (by kernel_rfl) (by kernel_rfl) (fun _ _ _ h => h) (Or.inl ⟨by rfl, ?_⟩) (by assumption) ?_
                rotate_left
                · (intro w hSw; (try dsimp only at hSw); go_simp; try with_reducible rfl)
                try simp only [Act.put, List.setIfInBounds_toArray, List.set_cons_zero, List.set_cons_succ]
                refine wpAnyH_take (i := 9) (v := ?_) rfl (by kernel_rfl) (by kernel_rfl) (by kernel_rfl) (fun _ _ _ h => h) (Or.inl ⟨by rfl, ?_⟩) (by assumption) ?_
                rotate_left
                · (intro w hSw; (try dsimp only at hSw); go_simp; try with_reducible rfl)
                try simp only [Act.put, List.setIfInBounds_toArray, List.set_cons_zero, List.set_cons_succ]
                refine wpAnyH_ready (rs := [7, 10]) (by kernel_rfl) (by simp) (AllReadyH.cons rfl (fun K hK => ?_) (AllReadyH.cons rfl (fun K hK => ?_) AllReadyH.nil))
                · go_simp
                  refine hK.out _ _ (HK.out _ hzr.drew) (fun hHeld => ?_)
                  clear hK K
                  try simp only [Act.put, List.setIfInBounds_toArray, List.set_cons_zero, List.set_cons_succ]
                  refine wpAnyH_ready (rs := [10]) (by kernel_rfl) (by simp) (AllReadyH.cons rfl (fun K hK => ?_) AllReadyH.nil)
                  go_simp
                  refine hK.out _ _ (HK.out _ hal.drew) (fun hHeld => ?_)
                  clear hK K
                  try simp only [Act.put, List.setIfInBounds_toArray, List.set_cons_zero, List.set_cons_succ]
                  refine wpAnyH_ready (rs := [11]) (by kernel_rfl) (by simp) (AllReadyH.cons rfl (fun K hK => ?_) AllReadyH.nil)
                  refine step_append_lies _ rfl (.tmp 69) (.tmp 72) 33 rfl wo.heap.size 3 i0 (.int .i64 0) 1 8 Try.underlying33 hi hz0 hz1 hz2 rfl (by decide) (val true e.f) (ls true e.f).length (int1 (castN (ls true e.f))) rfl (own_below hown hal.drew) ⟨W2.heap.size, 0, none⟩ 1 1 [.int .i64 e.t] rfl rfl (World.news_of_block (heap_new W2 _)) newI_one (by decide) (by unfold maxLen; omega) (by omega) (by simp; omega) (W2.heap.size + 1) (by simp) ?_
                  intro g cap w5 hown5 hgrow hlies hg5
                  have y1 := (hgrow.cell_far ⟨EB, 0, none⟩ (by simp; omega) (fun h9 => hne3 h9.symm)).trans ((hal.drew.cell (p := ⟨EB, 0, none⟩) hEB2).trans F0)
                  have y2 := (hgrow.cell_far ⟨EB, 1, none⟩ (by simp; omega) (fun h9 => hne3 h9.symm)).trans ((hal.drew.cell (p := ⟨EB, 1, none⟩) hEB2).trans F1)
                  obtain ⟨y3, y4⟩ := (hRW2.below hal.drew).far ef hgrow true ef
                  refine hK.out _ _ (⟨y1, y2⟩) (fun hHeld => ?_)
                  clear hK K
                  try simp only [Act.put, List.setIfInBounds_toArray, List.set_cons_zero, List.set_cons_succ]
                  refine wpAnyH_ready (rs := [12]) (by kernel_rfl) (by simp) (AllReadyH.cons rfl (fun K hK => ?_) AllReadyH.nil)
                  go_simp
                  refine hK.out _ _ (⟨y1, y2⟩) (fun hHeld => ?_)
                  clear hK K
                  try simp only [Act.put, List.setIfInBounds_toArray, List.set_cons_zero, List.set_cons_succ]
                  refine wpAnyH_ready (rs := [13]) (by kernel_rfl) (by simp) (AllReadyH.cons rfl (fun K hK => ?_) AllReadyH.nil)
                  go_simp
                  refine hK.out _ _ (⟨keep_set hne1 y1, keep_set hne1 y2⟩) (fun hHeld => ?_)
                  clear hK K
                  try simp only [Act.put, List.setIfInBounds_toArray, List.set_cons_zero, List.set_cons_succ]
                  refine wpAnyH_done (by kernel_rfl) ?_ _
                  clear y1 y2 y3 y4
                  have hst := RW.step hRW2 hbg2 hB2 hEB1 hal.drew hsal ef hgrow hown5 hlies
                  go_wp2_with fail
                  go_meet
                  exact hst
                · go_simp
                  refine hK.out _ _ (HK.out _ hal.drew) (fun hHeld => ?_)
                  clear hK K
                  try simp only [Act.put, List.setIfInBounds_toArray, List.set_cons_zero, List.set_cons_succ]
                  refine wpAnyH_ready (rs := [7]) (by kernel_rfl) (by simp) (AllReadyH.cons rfl (fun K hK => ?_) AllReadyH.nil)
                  go_simp
                  refine hK.out _ _ (HK.out _ hal.drew) (fun hHeld => ?_)
                  clear hK K
                  try simp only [Act.put, List.setIfInBounds_toArray, List.set_cons_zero, List.set_cons_succ]
                  refine wpAnyH_ready (rs := [11]) (by kernel_rfl) (by simp) (AllReadyH.cons rfl (fun K hK => ?_) AllReadyH.nil)
                  refine step_append_lies _ rfl (.tmp 69) (.tmp 72) 33 rfl wo.heap.size 3 i0 (.int .i64 0) 1 8 Try.underlying33 hi hz0 hz1 hz2 rfl (by decide) (val true e.f) (ls true e.f).length (int1 (castN (ls true e.f))) rfl (own_below hown hal.drew) ⟨W2.heap.size, 0, none⟩ 1 1 [.int .i64 e.t] rfl rfl (World.news_of_block (heap_new W2 _)) newI_one (by decide) (by unfold maxLen; omega) (by omega) (by simp; omega) (W2.heap.size + 1) (by simp) ?_
                  intro g cap w5 hown5 hgrow hlies hg5
                  have y1 := (hgrow.cell_far ⟨EB, 0, none⟩ (by simp; omega) (fun h9 => hne3 h9.symm)).trans ((hal.drew.cell (p := ⟨EB, 0, none⟩) hEB2).trans F0)
                  have y2 := (hgrow.cell_far ⟨EB, 1, none⟩ (by simp; omega) (fun h9 => hne3 h9.symm)).trans ((hal.drew.cell (p := ⟨EB, 1, none⟩) hEB2).trans F1)
                  obtain ⟨y3, y4⟩ := (hRW2.below hal.drew).far ef hgrow true ef
                  refine hK.out _ _ (⟨y1, y2⟩) (fun hHeld => ?_)
                  clear hK K
                  try simp only [Act.put, List.setIfInBounds_toArray, List.set_cons_zero, List.set_cons_succ]
                  refine wpAnyH_ready (rs := [12]) (by kernel_rfl) (by simp) (AllReadyH.cons rfl (fun K hK => ?_) AllReadyH.nil)
                  go_simp
                  refine hK.out _ _ (⟨y1, y2⟩) (fun hHeld => ?_)
                  clear hK K
                  try simp only [Act.put, List.setIfInBounds_toArray, List.set_cons_zero, List.set_cons_succ]
                  refine wpAnyH_ready (rs := [13]) (by kernel_rfl) (by simp) (AllReadyH.cons rfl (fun K hK => ?_) AllReadyH.nil)
                  go_simp
                  refine hK.out _ _ (⟨keep_set hne1 y1, keep_set hne1 y2⟩) (fun hHeld => ?_)
                  clear hK K
                  try simp only [Act.put, List.setIfInBounds_toArray, List.set_cons_zero, List.set_cons_succ]
                  refine wpAnyH_done (by kernel_rfl) ?_ _
                  clear y1 y2 y3 y4
                  have hst := RW.step hRW2 hbg2 hB2 hEB1 hal.drew hsal ef hgrow hown5 hlies
                  go_wp2_with fail
                  go_meet
                  exact hst
              case rest =>
                obtain ⟨val', hRW3, hbg3, hEB3⟩ := hcut
                clear hRW2 hbg2 hEB1 F0 F1 hown t1 t2 hne3 hGl hB2 hEB2 hne1
                obtain ⟨ls2, hls2⟩ : ∃ ls2, ls2 = fun (c : Bool) (x : Nat) => if c = true ∧ x = e.f then ls true e.f ++ [e.t] else ls c x := ⟨_, rfl⟩
                rw [← hls2] at hRW3
                have Hyes2 : Hid (tnb xs (D ++ [e]) = fun c x => if c = false ∧ x = e.t then ls2 false e.t ++ [e.f] else ls2 c x) := by rw [Hid, hls2]; exact Hyes.out
                have hlC : (ls2 false e.t).length ≤ D.length := by rw [hls2]; simpa using hlB
                clear hls2 Hyes hlA hlB
                have hB3 : wo.heap.size ≤ wc.heap.size := hbg3.size
                have X2 := (hbg3.cell (p := ⟨X, 0, none⟩) hXc (fun b => by cases b; exact n3; exact n2)).trans HXc.out
                have hX2 : X < wc.heap.size := by omega
                have F0 : wc.cell? ⟨EB, 0, none⟩ = some (.int .i64 e.f) := by simp [World.cell?, hEB3]
                have F1 : wc.cell? ⟨EB, 1, none⟩ = some (.int .i64 e.t) := by simp [World.cell?, hEB3]
                have hEB2 : EB < wc.heap.size := (Array.getElem?_eq_some_iff.1 hEB3).1
                obtain ⟨t1, t2⟩ := hRW3.cell false et
                have hown := hRW3.own false e.t et
                have hne1 : EB ≠ G false := fun h => own_ne (hRW3.row false) ⟨_, _, hEB3⟩ (by decide) (by rw [h]; rfl)
                have hne3 := own_ne hown ⟨_, _, hEB3⟩ (by decide)
                have hneX : (val' false e.t).ownBlock ≠ some X := fun h => by have := (hown.lt X h).1; omega
                obtain ⟨_, hGl⟩ := hRW3.lt false
                have HK : Hid (∀ W, Below wc.heap.size wc W → W.cell? ⟨X, 0, none⟩ = some (.slice (some ⟨G false, 0, none⟩) N N) ∧ W.cell? ⟨EB, 0, none⟩ = some (.int .i64 e.f) ∧ W.cell? ⟨EB, 1, none⟩ = some (.int .i64 e.t)) := fun W hW => ⟨(hW.cell (p := ⟨X, 0, none⟩) hX2).trans X2, (hW.cell (p := ⟨EB, 0, none⟩) hEB2).trans F0, (hW.cell (p := ⟨EB, 1, none⟩) hEB2).trans F1⟩
                have hzr : Below wc.heap.size wc wc := Below.refl _ _
                have hal : Below wc.heap.size wc (wc.alloc (.cells #[.int .i64 e.f] 3)) := hzr.alloc (Nat.le_refl _) _
                have hsal : (wc.alloc (.cells #[.int .i64 e.f] 3)).heap.size = wc.heap.size + 1 := by simp
                have hXG : X ≠ G false := n3
                go_wp2_with fail
                refine wp_region_held_drew (S := fun w' => w'.cell? ⟨X, 0, none⟩ = some (.slice (some ⟨G false, 0, none⟩) N N) ∧ w'.cell? ⟨EB, 0, none⟩ = some (.int .i64 e.f) ∧ w'.cell? ⟨EB, 1, none⟩ = some (.int .i64 e.t)) (by kernel_rfl) (HK.out _ hzr.drew) (fun hHeld => ?_)
                refine wpAnyH_take (i := 0) (v := ?_) rfl (by kernel_rfl) (by kernel_rfl) (by kernel_rfl) (fun _ _ _ h => h) (Or.inl ⟨by rfl, ?_⟩) (by assumption) ?_
                rotate_left
                · (intro w hSw; (try dsimp only at hSw); go_simp; try with_reducible rfl)
                try simp only [Act.put, List.setIfInBounds_toArray, List.set_cons_zero, List.set_cons_succ]
                refine wpAnyH_take (i := 1) (v := ?_) rfl (by kernel_rfl) (by kernel_rfl) (by kernel_rfl) (fun _ _ _ h => h) (Or.inl ⟨by rfl, ?_⟩) (by assumption) ?_
                rotate_left
                · (intro w hSw; (try dsimp only at hSw); go_simp; try with_reducible rfl)
                try simp only [Act.put, List.setIfInBounds_toArray, List.set_cons_zero, List.set_cons_succ]
                refine wpAnyH_take (i := 2) (v := ?_) rfl (by kernel_rfl) (by kernel_rfl) (by kernel_rfl) (fun _ _ _ h => h) (Or.inl ⟨by rfl, ?_⟩) (by assumption) ?_
                rotate_left
                · (intro w hSw; (try dsimp only at hSw); go_simp; try with_reducible rfl)
                try simp only [Act.put, List.setIfInBounds_toArray, List.set_cons_zero, List.set_cons_succ]
                refine wpAnyH_take (i := 3) (v := ?_) rfl (by kernel_rfl) (by kernel_rfl) (by kernel_rfl) (fun _ _ _ h => h) (Or.inl ⟨by rfl, ?_⟩) (by assumption) ?_
                rotate_left
                · (intro w hSw; (try dsimp only at hSw); go_simp; try with_reducible rfl)
                try simp only [Act.put, List.setIfInBounds_toArray, List.set_cons_zero, List.set_cons_succ]
                refine wpAnyH_take (i := 4) (v := ?_) rfl (by kernel_rfl) (by kernel_rfl) (by kernel_rfl) (fun _ _ _ h => h) (Or.inl ⟨by rfl, ?_⟩) (by assumption) ?_
                rotate_left
                · (intro w hSw; (try dsimp only at hSw); go_simp; try with_reducible rfl)
                try simp only [Act.put, List.setIfInBounds_toArray, List.set_cons_zero, List.set_cons_succ]
                refine wpAnyH_take (i := 5) (v := ?_) rfl (by kernel_rfl) (by kernel_rfl) (by kernel_rfl) (fun _ _ _ h => h) (Or.inl ⟨by rfl, ?_⟩) (by assumption) ?_
                rotate_left
                · (intro w hSw; (try dsimp only at hSw); go_simp; try with_reducible rfl)
                try simp only [Act.put, List.setIfInBounds_toArray, List.set_cons_zero, List.set_cons_succ]
                refine wpAnyH_take (i := 6) (v := ?_) rfl (by kernel_rfl) (by kernel_rfl) (by kernel_rfl) (fun _ _ _ h => h) (Or.inl ⟨by rfl, ?_⟩) (by assumption) ?_
                rotate_left
                · (intro w hSw; (try dsimp only at hSw); go_simp; try with_reducible rfl)
                try simp only [Act.put, List.setIfInBounds_toArray, List.set_cons_zero, List.set_cons_succ]
                refine wpAnyH_take (i := 8) (v := ?_) rfl (by kernel_rfl) (by kernel_rfl) (by kernel_rfl) (fun _ _ _ h => h) (Or.inl ⟨by rfl, ?_⟩) (by assumption) ?_
                rotate_left
                · (intro w hSw; (try dsimp only at hSw); go_simp; try with_reducible rfl)
                try simp only [Act.put, List.setIfInBounds_toArray, List.set_cons_zero, List.set_cons_succ]
                refine wpAnyH_take (i := 9) (v := ?_) rfl (by kernel_rfl) (by kernel_rfl) (by kernel_rfl) (fun _ _ _ h => h) (Or.inl ⟨by rfl, ?_⟩) (by assumption) ?_
                rotate_left
                · (intro w hSw; (try dsimp only at hSw); go_simp; try with_reducible rfl)
                try simp only [Act.put, List.setIfInBounds_toArray, List.set_cons_zero, List.set_cons_succ]
                refine wpAnyH_ready (rs := [7, 10]) (by kernel_rfl) (by simp) (AllReadyH.cons rfl (fun K hK => ?_) (AllReadyH.cons rfl (fun K hK => ?_) AllReadyH.nil))
                · go_simp
                  refine hK.out _ _ (HK.out _ hzr.drew) (fun hHeld => ?_)
                  clear hK K
                  try simp only [Act.put, List.setIfInBounds_toArray, List.set_cons_zero, List.set_cons_succ]
                  refine wpAnyH_ready (rs := [10]) (by kernel_rfl) (by simp) (AllReadyH.cons rfl (fun K hK => ?_) AllReadyH.nil)
                  go_simp
                  refine hK.out _ _ (HK.out _ hal.drew) (fun hHeld => ?_)
                  clear hK K
                  try simp only [Act.put, List.setIfInBounds_toArray, List.set_cons_zero, List.set_cons_succ]
                  refine wpAnyH_ready (rs := [11]) (by kernel_rfl) (by simp) (AllReadyH.cons rfl (fun K hK => ?_) AllReadyH.nil)
                  refine step_append_lies _ rfl (.tmp 82) (.tmp 85) 33 rfl wo.heap.size 3 i0 (.int .i64 0) 1 8 Try.underlying33 hi hz0 hz1 hz2 rfl (by decide) (val' false e.t) (ls2 false e.t).length (int1 (castN (ls2 false e.t))) rfl (own_below hown hal.drew) ⟨wc.heap.size, 0, none⟩ 1 1 [.int .i64 e.f] rfl rfl (World.news_of_block (heap_new wc _)) newI_one (by decide) (by unfold maxLen; omega) (by omega) (by simp; omega) (wc.heap.size + 1) (by simp) ?_
                  intro g cap w5 hown5 hgrow hlies hg5
                  have y0 := (hgrow.cell_far ⟨X, 0, none⟩ (by simp; omega) (fun h9 => hneX h9.symm)).trans ((hal.drew.cell (p := ⟨X, 0, none⟩) hX2).trans X2)
                  have y1 := (hgrow.cell_far ⟨EB, 0, none⟩ (by simp; omega) (fun h9 => hne3 h9.symm)).trans ((hal.drew.cell (p := ⟨EB, 0, none⟩) hEB2).trans F0)
                  have y2 := (hgrow.cell_far ⟨EB, 1, none⟩ (by simp; omega) (fun h9 => hne3 h9.symm)).trans ((hal.drew.cell (p := ⟨EB, 1, none⟩) hEB2).trans F1)
                  obtain ⟨y3, y4⟩ := (hRW3.below hal.drew).far et hgrow false et
                  refine hK.out _ _ (⟨y0, y1, y2⟩) (fun hHeld => ?_)
                  clear hK K
                  try simp only [Act.put, List.setIfInBounds_toArray, List.set_cons_zero, List.set_cons_succ]
                  refine wpAnyH_ready (rs := [12]) (by kernel_rfl) (by simp) (AllReadyH.cons rfl (fun K hK => ?_) AllReadyH.nil)
                  go_simp
                  refine hK.out _ _ (⟨y0, y1, y2⟩) (fun hHeld => ?_)
                  clear hK K
                  try simp only [Act.put, List.setIfInBounds_toArray, List.set_cons_zero, List.set_cons_succ]
                  refine wpAnyH_ready (rs := [13]) (by kernel_rfl) (by simp) (AllReadyH.cons rfl (fun K hK => ?_) AllReadyH.nil)
                  go_simp
                  refine hK.out _ _ (⟨keep_set hXG y0, keep_set hne1 y1, keep_set hne1 y2⟩) (fun hHeld => ?_)
                  clear hK K
                  try simp only [Act.put, List.setIfInBounds_toArray, List.set_cons_zero, List.set_cons_succ]
                  refine wpAnyH_done (by kernel_rfl) ?_ _
                  clear y0 y1 y2 y3 y4
                  obtain ⟨val2, r1, r2, _⟩ := RW.step hRW3 hbg3 hB3 hEB3 hal.drew hsal et hgrow hown5 hlies
                  go_wp2_with fail
                  go_roundw
                  case rel => exact ⟨j + 1, by omega, by go_num, val2, by rw [Hst.out, Hyes2.out]; exact r1, r2⟩
                  case measure => simp [intOf]; omega
                · go_simp
                  refine hK.out _ _ (HK.out _ hal.drew) (fun hHeld => ?_)
                  clear hK K
                  try simp only [Act.put, List.setIfInBounds_toArray, List.set_cons_zero, List.set_cons_succ]
                  refine wpAnyH_ready (rs := [7]) (by kernel_rfl) (by simp) (AllReadyH.cons rfl (fun K hK => ?_) AllReadyH.nil)
                  go_simp
                  refine hK.out _ _ (HK.out _ hal.drew) (fun hHeld => ?_)
                  clear hK K
                  try simp only [Act.put, List.setIfInBounds_toArray, List.set_cons_zero, List.set_cons_succ]
                  refine wpAnyH_ready (rs := [11]) (by kernel_rfl) (by simp) (AllReadyH.cons rfl (fun K hK => ?_) AllReadyH.nil)
                  refine step_append_lies _ rfl (.tmp 82) (.tmp 85) 33 rfl wo.heap.size 3 i0 (.int .i64 0) 1 8 Try.underlying33 hi hz0 hz1 hz2 rfl (by decide) (val' false e.t) (ls2 false e.t).length (int1 (castN (ls2 false e.t))) rfl (own_below hown hal.drew) ⟨wc.heap.size, 0, none⟩ 1 1 [.int .i64 e.f] rfl rfl (World.news_of_block (heap_new wc _)) newI_one (by decide) (by unfold maxLen; omega) (by omega) (by simp; omega) (wc.heap.size + 1) (by simp) ?_
                  intro g cap w5 hown5 hgrow hlies hg5
                  have y0 := (hgrow.cell_far ⟨X, 0, none⟩ (by simp; omega) (fun h9 => hneX h9.symm)).trans ((hal.drew.cell (p := ⟨X, 0, none⟩) hX2).trans X2)
                  have y1 := (hgrow.cell_far ⟨EB, 0, none⟩ (by simp; omega) (fun h9 => hne3 h9.symm)).trans ((hal.drew.cell (p := ⟨EB, 0, none⟩) hEB2).trans F0)
                  have y2 := (hgrow.cell_far ⟨EB, 1, none⟩ (by simp; omega) (fun h9 => hne3 h9.symm)).trans ((hal.drew.cell (p := ⟨EB, 1, none⟩) hEB2).trans F1)
                  obtain ⟨y3, y4⟩ := (hRW3.below hal.drew).far et hgrow false et
                  refine hK.out _ _ (⟨y0, y1, y2⟩) (fun hHeld => ?_)
                  clear hK K
                  try simp only [Act.put, List.setIfInBounds_toArray, List.set_cons_zero, List.set_cons_succ]
                  refine wpAnyH_ready (rs := [12]) (by kernel_rfl) (by simp) (AllReadyH.cons rfl (fun K hK => ?_) AllReadyH.nil)
                  go_simp
                  refine hK.out _ _ (⟨y0, y1, y2⟩) (fun hHeld => ?_)
                  clear hK K
                  try simp only [Act.put, List.setIfInBounds_toArray, List.set_cons_zero, List.set_cons_succ]
                  refine wpAnyH_ready (rs := [13]) (by kernel_rfl) (by simp) (AllReadyH.cons rfl (fun K hK => ?_) AllReadyH.nil)
                  go_simp
                  refine hK.out _ _ (⟨keep_set hXG y0, keep_set hne1 y1, keep_set hne1 y2⟩) (fun hHeld => ?_)
                  clear hK K
                  try simp only [Act.put, List.setIfInBounds_toArray, List.set_cons_zero, List.set_cons_succ]
                  refine wpAnyH_done (by kernel_rfl) ?_ _
                  clear y0 y1 y2 y3 y4
                  obtain ⟨val2, r1, r2, _⟩ := RW.step hRW3 hbg3 hB3 hEB3 hal.drew hsal et hgrow hown5 hlies
                  go_wp2_with fail
                  go_roundw
                  case rel => exact ⟨j + 1, by omega, by go_num, val2, by rw [Hst.out, Hyes2.out]; exact r1, r2⟩
                  case measure => simp [intOf]; omega
            · have Hno : Hid (tnb xs (D ++ [e]) = tnb xs D) := tnb_no (by rw [Htg.out]; exact decide_eq_false ht)
              go_quiet (fail)
              have hbd : Below W1.heap.size W1 (W1.drewN nq) := below_drewN (Below.refl _ _) _
              have hRW2 := hRW1.below hbd
              have hbg2 := hbg1.then hbd (by have := hbg1.size; omega)
              go_wp2_with fail
              go_roundw
              case rel => exact ⟨j + 1, by omega, by go_num, val, by rw [Hst.out, Hno.out]; exact hRW2, hbg2⟩
              case measure => simp [intOf]; omega
          · obtain rfl : j = m := by omega
            have hji : ¬ (j : Int) < (j : Int) := by omega
            rw [List.take_of_length_le (by omega), ← dnE_succ] at hRW
            go_wp2_with fail
            go_roundw
            case rel => exact ⟨v + 1, by omega, by go_num, val, hRW, hbg⟩
            case measure => simp [intOf]; omega
      · have hvN2 : N = v := by omega
        subst hvN2
        obtain ⟨b0, hbi, hbz, hbs, hbb⟩ := info_parts infoB
        have hDf : ∀ e ∈ dnE out N, e.f < N ∧ e.t < N := fun e he => by
          obtain ⟨u, hu, he⟩ := dnE_mem he
          obtain ⟨h1, h2, _⟩ := hG.ok.ok u e he
          exact ⟨by omega, h2⟩
        have Hf : Hid (∀ b v, ∀ x ∈ tnb xs (dnE out N) b v, x < N) := fun b v => tnb_lt hDf b v
        have Hln : Hid (∀ b v, (tnb xs (dnE out N) b v).length ≤ 100000) := fun b v => Nat.le_trans (tnb_len _ _ _ _) HD.out
        have Hbk : Hid (∀ a b, b ∈ tnb xs (dnE out N) true a ↔ a ∈ tnb xs (dnE out N) false b) := tnb_back
        generalize tnb xs (dnE out N) = T at *
        have hX1 := (hbg.cell (p := ⟨X, 0, none⟩) hXc (fun b => by cases b; exact n3; exact n2)).trans HXc.out
        have hbw : Below w.heap.size w wr := Hb0.out.trans (hbg.bel hszc HG2.out)
        have hszr := hbg.size
        have hNN : ¬ (N : Int) < (N : Int) := by omega
        have hXr : X < wr.heap.size := by omega
        clear HOut HV3 u1 u3 HXc Hb0 hDf HD hbg hvN Hvs Hse
        go_wp2_with (refine wpList_make_full _ rfl (.tmp 90) (.tmp 90) 55 rfl wr.heap.size 4 b0 (.bool false) 1 Try.underlying55 hbi hbz hbs .i64 .i64 N N N rfl rfl rfl rfl (by rw [hbb]; omega) (by unfold maxLen; omega) (Nat.le_refl _) ?_)
        intro w2 hown2 hgrow2
        have hb2 : Below wr.heap.size wr w2 := (Below.refl _ wr).grown hgrow2 (Nat.le_refl _) (fun j hj => by cases hj)
        have hmk := made_false N
        simp only [Value.cells, Nat.mul_one] at hmk
        rw [hmk] at hown2
        have hs2 := (own_lt hown2).2
        obtain ⟨w3, hw3⟩ : ∃ w3, w3 = w2.alloc (.cells #[.slice (some ⟨wr.heap.size, 0, none⟩) N N] 55) := ⟨_, rfl⟩
        have hb23 : Below w2.heap.size w2 w3 := by rw [hw3]; exact (Below.refl _ w2).alloc (Nat.le_refl _) _
        have hs3 : w3.heap.size = w2.heap.size + 1 := by rw [hw3]; simp
        have hb3 : Below wr.heap.size wr w3 := hb2.trans (hb23.mono hb2.size)
        have hX2 : w3.cell? ⟨w2.heap.size, 0, none⟩ = some (.slice (some ⟨wr.heap.size, 0, none⟩) N N) := by rw [hw3]; simp
        have hown3 := own_more (own_below hown2 hb23) (Nat.zero_le wr.heap.size)
        have hRA := RR.of_rw hRW hb3 true (Q := wr.heap.size) (base := w3.heap.size) (fun v _ => Hf.out true v) (fun v _ => Hln.out true v) (Nat.le_refl _) hb3.size
        have hRB := RR.of_rw hRW hb3 false (Q := wr.heap.size) (base := w3.heap.size) (fun v _ => Hf.out false v) (fun v _ => Hln.out false v) (Nat.le_refl _) hb3.size
        have hX3 := (hb3.cell (p := ⟨X, 0, none⟩) hXr).trans hX1
        have hbw3 : Below w.heap.size w w3 := hbw.trans (hb3.mono (by omega))
        have hPs0 := Ps.begin (base := w3.heap.size) (Q := wr.heap.size) (N := N) (next := T true) hown3
        have hszw3 : w.heap.size ≤ w3.heap.size := hbw3.size
        have hXQ : X ≠ wr.heap.size := by omega
        have hX3l : X < w3.heap.size := by omega
        have hQ3 : wr.heap.size < w3.heap.size := by omega
        have HRA := Lib.hid hRA
        have HRB := Lib.hid hRB
        have HX3 := Lib.hid hX3
        have HX2 := Lib.hid hX2
        have hwQ : w.heap.size ≤ wr.heap.size := by omega
        clear hRW hX1 hown2 hgrow2 hmk hown3 hRA hRB hX3 hb2 hb23 hbw hb3 hX2
        generalize hQe : wr.heap.size = Q at *
        generalize hX2e : w2.heap.size = X2 at *
        have hX2Q : X2 ≠ Q := by omega
        have hX2l : X2 < w3.heap.size := by omega
        go_wp2_with fail
        rw [← hw3]
        clear hw3 hs3 hs2 hX2e hQe
        go_loopw [10, 93] (fun o i wx => ∃ k : Nat, k ≤ N ∧ i = .int .i64 k ∧ ∃ (sl : List Bool) (O : List Nat), Ps w3 wx w3.heap.size Q N (T true) sl O o ∧ ∀ x, x < k → x ∈ O) (fun _ i _ => N - (intOf i).toNat)
        case atStart => exact ⟨0, Nat.zero_le _, rfl, _, _, hPs0, fun x hx => by omega⟩
        case round =>
          clear hPs0
          obtain ⟨k, hk, rfl, sl, O, hps, hall⟩ := hrel
          have hszx := hps.bb.size
          by_cases hkN : k < N
          · have hki : (k : Int) < (N : Int) := by omega
            have y2 := (hps.bb.cell (p := ⟨X2, 0, none⟩) hX2l hX2Q).trans HX2.out
            have HW := Lib.hid (walk_any w3.heap.size Q (G true) N (T true) hN hQ3 (un N sl + 1) k sl O u10 wr (by omega) hkN hszx (HRA.out.bb hps.bb) hps.sll hps.seen hps.ord hps.lt hps.wk)
            have Hps := Lib.hid hps
            have Hall := Lib.hid hall
            clear hps hall
            go_wp2_with fail
            with_reducible refine HW.out.mono ?_
            intro e w5 hp
            obtain ⟨u', sl', O', rfl, hps', hv', hsub⟩ := Hps.out.walk hp
            have hall' : ∀ x, x < k + 1 → x ∈ O' := fun x hx => by
              by_cases hxk : x = k
              · subst hxk; exact hv'
              · exact hsub x (Hall.out x (by omega))
            have Hps' := Lib.hid hps'
            have Hall' := Lib.hid hall'
            clear hp hps' hv' hsub hall' HW
            go_wp2_with fail
            go_roundw
            case rel => exact ⟨k + 1, by omega, by go_num, _, _, Hps'.out, Hall'.out⟩
            case measure => simp [intOf]; omega
          · obtain rfl : k = N := by omega
            have hOl : 0 < O.length := List.length_pos_iff.2 fun e => by have := hall 0 hN0; rw [e] at this; cases this
            have hOn : O.length ≤ k := nodup_len' hps.lt hps.wk.nd
            obtain ⟨og, oc, ho⟩ := own_some hps.ord hOl
            subst ho
            have hord := hps.ord
            have hog := (hord.lt og rfl)
            have hseen := hps.seen
            have hbb := hps.bb
            have Hks := Lib.hid hps.wk.ks
            have Hlt := Lib.hid hps.lt
            have Hall := Lib.hid hall
            have hsll := hps.sll
            clear hps hall
            go_wp2_with (refine wpList_make_full _ rfl (.tmp 102) (.tmp 102) 33 rfl wr.heap.size 3 i0 (.int .i64 0) 1 Try.underlying33 hi hz0 hz1 .i64 .i64 k k k rfl rfl rfl rfl (by rw [hz2]; omega) (by unfold maxLen; omega) (Nat.le_refl _) ?_)
            intro w5 hown5 hgrow5
            have hb5 : Below wr.heap.size wr w5 := (Below.refl _ wr).grown hgrow5 (Nat.le_refl _) (fun j hj => by cases hj)
            have hmk := made_zerosG k
            have hown5' : w5.ownsRow wr.heap.size 3 1 (.slice (some ⟨wr.heap.size, 0, none⟩) k k) k (int1 (List.replicate k 0)) := by rw [← hmk]; exact hown5
            have hg5 := (own_lt hown5').2
            have hX5 : Below w5.heap.size w5 (w5.alloc (.cells #[.slice (some ⟨wr.heap.size, 0, none⟩) k k] 33)) := (Below.refl _ w5).alloc (Nat.le_refl _) _
            obtain ⟨w6, hw6⟩ : ∃ w6, w6 = w5.alloc (.cells #[.slice (some ⟨wr.heap.size, 0, none⟩) k k] 33) := ⟨_, rfl⟩
            have hX6 : w6.cell? ⟨w5.heap.size, 0, none⟩ = some (.slice (some ⟨wr.heap.size, 0, none⟩) k k) := by rw [hw6]; simp
            have hs6 : w6.heap.size = w5.heap.size + 1 := by rw [hw6]; simp
            have hb56 : Below w5.heap.size w5 w6 := by rw [hw6]; exact hX5
            have hb6 : Below wr.heap.size wr w6 := hb5.trans (hb56.mono hb5.size)
            have hown6 := own_below hown5' hb56
            have hseen6 := own_below hseen hb6
            have hord6 := own_below hord hb6
            have hbb6 := hbb.then hb6 hszx
            have y2 := (hbb6.cell (p := ⟨X2, 0, none⟩) hX2l hX2Q).trans HX2.out
            have hclr := Lib.run_clear_slice (P := Try.prog) w6 55 4 0 (.bool false) Try.underlying55 (fun _ => Try.zeroValue4 _) rfl rfl Q 0 k k hN0 (fun j hj => by
              rw [Nat.zero_add, (own_cellB hseen6 (List.getElem?_eq_getElem (show j < sl.length by omega))).1]; rfl) (fun j hj => by
              rw [Nat.zero_add]; exact (own_cellB hseen6 (List.getElem?_eq_getElem (show j < sl.length by omega))).2)
            have Hown6 := Lib.hid hown6
            have Hord6 := Lib.hid hord6
            have Hseen6 := Lib.hid hseen6
            have Hbb6 := Lib.hid hbb6
            have HX6 := Lib.hid hX6
            have Hb6 := Lib.hid hb6
            clear hown5 hgrow5 hmk hown5' hX5 hb56 hb5 hown6 hord6 hseen6 hbb6 hX6 hseen hord hbb
            rw [hw6] at y2 hclr
            go_wp2_with fail
            refine (backward_any _ _ _ _).mono ?_
            rintro e w9 ⟨rfl, rfl⟩
            rw [← hw6] at *
            obtain ⟨w7, hw7⟩ : ∃ w7, w7 = w6.setCells Q 0 (List.replicate k (Value.bool false)) := ⟨_, rfl⟩
            have hs7 : w7.heap.size = w6.heap.size := by rw [hw7]; exact size_setC _ _ _ _
            rw [← hw7]
            have hQ6 : Q ≠ wr.heap.size := by omega
            have hBB7 : BB w3.heap.size Q w3 w7 := by rw [hw7]; exact Hbb6.out.setCells _ _
            have hk7 : ∀ b, b < w6.heap.size → b ≠ Q → w7.heap[b]? = w6.heap[b]? := fun b _ h2 => by rw [hw7]; exact heap_setC h2 _ _ _
            have hseen7 : w7.ownsRow 0 4 1 (.slice (some ⟨Q, 0, none⟩) k k) k (bool1 (List.replicate k false)) := by rw [hw7]; exact own_clear Hseen6.out
            have hgrp7 : w7.ownsRow wr.heap.size 3 1 (.slice (some ⟨wr.heap.size, 0, none⟩) k k) k (int1 (List.replicate k 0)) := own_heap Hown6.out (hk7 _ (by omega) (by omega))
            have hogQ : og ≠ Q := by omega
            have hord7 : w7.ownsRow w3.heap.size 3 1 (.slice (some ⟨og, 0, none⟩) O.length oc) O.length (int1 (castN O)) := own_heap Hord6.out (hk7 og (by have := Hb6.out.size; omega) hogQ)
            have hX37 : w7.cell? ⟨w5.heap.size, 0, none⟩ = some (.slice (some ⟨wr.heap.size, 0, none⟩) k k) := (World.cell?_of_block (a := ⟨w5.heap.size, 0, none⟩) (hk7 w5.heap.size (by omega) (by omega))).trans HX6.out
            obtain ⟨w8, hw8⟩ : ∃ w8, w8 = w7.alloc (.cells #[.slice (some ⟨og, 0, none⟩) O.length oc] 33) := ⟨_, rfl⟩
            have hs8 : w8.heap.size = w7.heap.size + 1 := by rw [hw8]; simp
            have hb8 : Below w7.heap.size w7 w8 := by rw [hw8]; exact (Below.refl _ _).alloc (Nat.le_refl _) _
            have hBs8 : w8.cell? ⟨w7.heap.size, 0, none⟩ = some (.slice (some ⟨og, 0, none⟩) O.length oc) := by rw [hw8]; simp
            have hBB8 : BB w3.heap.size Q w3 w8 := hBB7.then hb8 (by omega)
            have hbw8 : Below w.heap.size w w8 := hbw3.trans (hBB8.bel hszw3 hwQ)
            have hseen8 := own_below hseen7 hb8
            have hgrp8 := own_more (own_below hgrp7 hb8) (show w.heap.size ≤ wr.heap.size by omega)
            have hord8 := own_below hord7 hb8
            have hX38 := (hb8.cell (p := ⟨w5.heap.size, 0, none⟩) (show w5.heap.size < w7.heap.size by omega)).trans hX37
            have hX28 := (hBB8.cell (p := ⟨X2, 0, none⟩) hX2l hX2Q).trans HX2.out
            have hX8 := (hBB8.cell (p := ⟨X, 0, none⟩) hX3l hXQ).trans HX3.out
            have hRR8 := HRB.out.bb hBB8
            have hit0 : It (T true) k O (ndF hN0 Hlt.out) w w8 Q wr.heap.size [] w8 (List.replicate k false) (List.replicate k 0) := ⟨by simp, by simp, fun _ _ => Qs.begin (by simp), hseen8, hgrp8, BG2.refl _⟩
            rw [← hw8]
            have hszs : w5.heap.size < w7.heap.size ∧ w7.heap.size < w8.heap.size ∧ wr.heap.size < w5.heap.size ∧ w3.heap.size ≤ wr.heap.size := by omega
            clear hw8 hw7 hw6 hclr y2 hs6 hs7 hs8
            go_wp2_with fail
            have hzs : ∀ j, j < (castN O).length → w8.cell? ⟨og, 0 + j, none⟩ = some (.int .i64 ((castN O).getD j 0)) := fun j hj => by
              rw [Nat.zero_add]
              refine (own_cell hord8 ?_).1
              rw [List.getD_eq_getElem?_getD, List.getElem?_eq_getElem hj]
              rfl
            have hcl : (castN O).length = O.length := castN_len O
            refine (wpIn_wide (n := 6)).1 ?_
            refine wpIn_rangeFunc_ownF (F := Fence.wide) rfl (by omega) (gf := 28) (lb := #[.pointer (some ⟨w7.heap.size, 0, none⟩)]) rfl trivial (enters_of Try.func28 (by kernel_rfl) rfl)
              (back_stops ndE (ndF hN0 Hlt.out) (6 - 1) (by omega) w7.heap.size og 0 oc (castN O) (by rw [hcl]; omega) (ndF_enc hN0 Hlt.out) w8 (by omega) (by have := (own_lt hord8).2; omega) (by rw [hcl]; exact hBs8) hzs) KeepsB.trans (keepsB_b (n := w8.heap.size) (fun b hb => by
                have := (own_lt hord8).2
                simp only [List.mem_cons, List.not_mem_nil, or_false] at hb
                omega)) (Below.refl _ _) (fun _ => rfl)
              (fun pre W => ∃ sl gs, It (T true) k O (ndF hN0 Hlt.out) w w8 Q wr.heap.size pre W sl gs) (fun _ _ _ => False) (It.own _ _ _ _ _ _ _ _) (fun _ _ _ _ _ hs _ _ => hs) ⟨_, _, hit0⟩ ?a1 ?assign ?body ?done ?stop
            case assign =>
              intro l x W K hK
              simp only [ndE, List.size_toArray, List.length_cons, List.length_nil, Nat.reduceAdd, List.zip_toArray, List.zip_cons_cons, List.zip_nil_right, List.foldl_toArray', List.foldl_cons, List.foldl_nil, List.setIfInBounds_toArray, List.set_cons_succ, List.set_cons_zero]
              gi_wp2
              exact hK
            case body =>
              rintro l pre x W ⟨sl2, gs, hit⟩ hlen
              generalize hGe : wr.heap.size = Gp at *
              obtain ⟨⟨pa, v⟩, hvk⟩ := x
              have hbX : w3.heap.size ≤ w8.heap.size := hBB8.size
              have hsW : w8.heap.size ≤ W.heap.size := hit.bg.size
              have hbbW : BB w3.heap.size Q w8 W := hit.bb hbX hszs.2.2.2
              have y1 := (hbbW.cell (p := ⟨X, 0, none⟩) hX3l hXQ).trans hX8
              have y2 := (hbbW.cell (p := ⟨X2, 0, none⟩) hX2l hX2Q).trans hX28
              have y3 := (hit.bg.cell (p := ⟨w5.heap.size, 0, none⟩) (show w5.heap.size < w8.heap.size by omega) (fun b => by cases b; (show w5.heap.size ≠ Gp; omega); (show w5.heap.size ≠ Q; omega))).trans hX38
              have HC := Lib.hid (CallsIn.inRound (F := Fence.wide) (n := 3) l (callsIn_wide.2 (walk_any W.heap.size Q (G false) k (T false) hN (by omega) (un k sl2 + 1) v sl2 [] (.slice none 0 0) W (by omega) hvk (Nat.le_refl _) ((hRR8.bb hbbW).more (by omega)) hit.sll hit.seen (World.ownsRow_nil _ _ _ _) (fun x hx => by cases hx) wk_nil)))
              have Hit := Lib.hid hit
              have hOgW : og < Gp := hog.2
              clear hit hRR8 hX8 hX28 hX38 hit0 hzs hBs8 hseen8 hgrp8 hord8 hord7 hgrp7 hseen7 hX37
              show Code.wpIn _ _ _ _ _ (Act.mk _ _) _
              gi_wp2_with fail
              refine ⟨trivial, ?_⟩
              with_reducible refine HC.out.mono ?_
              intro e w6 hp
              obtain ⟨M, sl3, u, rfl, hown, hsl3, hseen3, hwn, hMl, hbb3⟩ := hp
              rw [List.nil_append] at hown
              obtain ⟨A, cu, rfl, hIL⟩ := il_own hown
              have hMn : M.length ≤ k := nodup_len' hMl hwn.wk.nd
              have y4 := (hbb3.cell (p := ⟨w5.heap.size, 0, none⟩) (show w5.heap.size < W.heap.size by omega) (show w5.heap.size ≠ Q by omega)).trans y3
              have hsz3 := hbb3.size
              have hgr3 := own_heap Hit.out.grp (hbb3.block Gp (by omega) (by omega))
              have hlow := hown.lt
              gi_wp2
              gi_loopw [114] (fun i wx => ∃ j : Nat, j ≤ M.length ∧ i = .int .i64 j ∧ wx.ownsRow w.heap.size 3 1 (.slice (some ⟨Gp, 0, none⟩) k k) k (int1 (setAll gs (M.take j) (v : Int))) ∧ BB w6.heap.size Gp w6 wx)
                (fun i _ => M.length - (intOf i).toNat)
              case atStart => exact ⟨0, Nat.zero_le _, rfl, hgr3, BB.of (Below.refl _ _)⟩
              case round =>
                obtain ⟨j, hj, rfl, hrow, hbx⟩ := hrel
                have hsx := hbx.size
                by_cases hjM : j < M.length
                · have hji : (j : Int) < (M.length : Int) := by omega
                  obtain ⟨b', off, z, rfl, hb', hz, hc⟩ := hIL.at_ (k := j) hjM
                  have hlb := hlow b' rfl
                  obtain ⟨m, hm⟩ : ∃ m, M[j]? = some m := ⟨_, List.getElem?_eq_getElem hjM⟩
                  obtain rfl : z = (m : Int) := by
                    unfold castN at hz
                    rw [List.getElem?_map, hm] at hz
                    exact (Option.some.inj hz).symm
                  have hmk := hMl m (List.mem_of_getElem? hm)
                  have hmi : (m : Int) < (k : Int) := by omega
                  have y5 := (hbx.cell (p := ⟨b', off + j, none⟩) hb' (show b' ≠ Gp by omega)).trans hc
                  have y6 := (hbx.cell (p := ⟨w5.heap.size, 0, none⟩) (show w5.heap.size < w6.heap.size by omega) (show w5.heap.size ≠ Gp by omega)).trans y4
                  have hgl : (setAll gs (M.take j) (v : Int)).length = k := by rw [setAll_len]; exact Hit.out.gl
                  obtain ⟨y7, y8⟩ := own_cell hrow (k := m) (List.getElem?_eq_getElem (by rw [hgl]; exact hmk))
                  have Hst : Hid (setAll gs (M.take (j + 1)) (v : Int) = (setAll gs (M.take j) (v : Int)).set m v) := by
                    rw [Hid, List.take_add_one, hm, Option.toList_some, setAll_snoc]
                  have Hrow2 := Lib.hid (own_store hrow m (v : Int))
                  have Hbx2 := Lib.hid (hbx.setT m (.int .i64 (v : Int)))
                  clear hrow hbx hIL hlow hown hz hc
                  gi_wp2
                  go_roundw
                  case rel => exact ⟨j + 1, by omega, by go_num, by rw [Hst.out]; exact Hrow2.out, Hbx2.out⟩
                  case measure => simp [intOf]; omega
                · obtain rfl : j = M.length := by omega
                  have hji : ¬ (M.length : Int) < (M.length : Int) := by omega
                  rw [List.take_length] at hrow
                  have hfin := It.next (x := (⟨(pa, v), hvk⟩ : NdP k)) Hbk.out hN0 Hlt.out Hit.out Hks.out Hall.out (fun x y hy => Hf.out false x y hy) hQ6 hsl3 hMl hwn hseen3 hbb3 hrow hbx
                  have hkb : ∀ b, b < w8.heap.size → b ≠ Q → b ≠ Gp → wr.heap[b]? = W.heap[b]? := fun b h1 h2 h3 => (hbx.block b (by omega) h3).trans (hbb3.block b (by omega) h2)
                  have hokn : KeepsOthers W wr := ⟨Nat.le_trans hsz3 hsx, fun i o hi ho => by
                    have hiW := (Array.getElem?_eq_some_iff.1 hi).1
                    by_cases e1 : i = Q
                    · subst e1
                      obtain ⟨cs, fr, h9⟩ := row_ty Hit.out.seen
                      rw [h9] at hi; cases hi; cases ho
                    by_cases e2 : i = Gp
                    · subst e2
                      obtain ⟨cs, fr, h9⟩ := row_ty Hit.out.grp
                      rw [h9] at hi; cases hi; cases ho
                    exact ((hbx.block i (by omega) e2).trans (hbb3.block i hiW e1)).trans hi⟩
                  have hkB : KeepsB [w7.heap.size, og] W wr := fun b hb => by
                    simp only [List.mem_cons, List.not_mem_nil, or_false] at hb
                    exact hkb b (by omega) (by omega) (by omega)
                  have Hfin := Lib.hid hfin
                  clear hfin hbx hrow hkb hIL hown hlow
                  gi_wp2
                  exact ⟨hokn, hkB, _, _, Hfin.out⟩
            case done =>
              intro D ys W hD hys ⟨sl2, gs, hit⟩ hdf
              have y3 := (hit.bg.cell (p := ⟨w5.heap.size, 0, none⟩) (show w5.heap.size < w8.heap.size by omega) (fun b => by cases b; (show w5.heap.size ≠ wr.heap.size; omega); (show w5.heap.size ≠ Q; omega))).trans hX38
              obtain ⟨sl4, gs4, hit4⟩ := OwnFrom.putObj (It.own _ _ _ _ _ _ _ _) (.deferred none) ⟨_, _, hit⟩ hD hdf rfl
              have hlen : ys.length = O.length := by rw [hys, upF_len, hcl]
              have hqs := hit4.qs (by rw [hlen, ← hcl]; exact hys) (by omega)
              rw [hlen, Nat.sub_self] at hqs
              have Hpost : GrpPost k (T true) w (.returned (.slice (some ⟨wr.heap.size, 0, none⟩) k k)) (W.putObj D (.deferred none)) := ⟨_, gs4, rfl, hit4.gl, hit4.grp, Qs.fin Hall.out hqs, hbw8.trans (hit4.bg.bel hbw8.size fun b => by cases b; (show w.heap.size ≤ wr.heap.size; omega); (show w.heap.size ≤ Q; omega)), Qs.range (fun a y hy => Hf.out true a y hy) Hall.out hqs⟩
              go_wp2_with fail
              refine ⟨by simp, .inl ⟨_, _, rfl, run_takeDeferred hdf, ?_⟩⟩
              refine ⟨_, results_tmp rfl _ _ _, ?_⟩
              exact Hpost
            case stop =>
              intro D c pre W _ _ h _
              exact h.elim
end Go.Proofs.Ytapajkfnpkekdaa

/-
  slices.DeleteFunc at [][]int: sets with fewer than two members are taken out.
-/
namespace Go.Proofs.Ytapajkfnpkekdaa
open Go Go.RowKit Go.Shelf

/-- how many a slice has -/
def lnV : Value → Nat
  | .slice _ n _ => n
  | _ => 0
/-- two or more -/
def kpV (x : Value) : Bool := decide (2 ≤ lnV x)
set_option maxHeartbeats 1000000 in
theorem few_any (A : Option Addr) (n c : Nat) (w : World) (hn : n ≤ 1000000) :
    Calls Try.prog 17 #[.slice A n c] w fun e w' => e = .returned (.bool (!kpV (.slice A n c))) ∧ w' = w := by
  have hk : kpV (.slice A n c) = decide (2 ≤ n) := rfl
  rw [hk]
  go_enter Try.func17, Try.ntmps17
  by_cases h2 : 2 ≤ n
  · have h3 : ¬ (n : Int) < 2 := by omega
    rw [decide_eq_true h2]
    go_wp2_with fail
    go_ret
    exact ⟨rfl, rfl⟩
  · have h3 : (n : Int) < 2 := by omega
    rw [decide_eq_false h2]
    go_wp2_with fail
    go_ret
    exact ⟨rfl, rfl⟩
/-- values that are slices -/
def Sls (xs : List Value) : Prop := ∀ x ∈ xs, ∃ A n c, x = .slice A n c ∧ n ≤ 1000000

set_option maxRecDepth 100000 in
set_option maxHeartbeats 4000000 in
theorem index_any (base : Nat) (A : Option Addr) (n c : Nat) (xs : List Value) (w : World) (hown : w.ownsRow base 33 1 (.slice A n c) n xs) (hs : Sls xs) (hn : n ≤ 1000000) :
    Calls Try.prog 24 #[.slice A n c, .func (.func 17) #[] #[]] w fun e w' => Below w.heap.size w w' ∧
      ((e = .returned (.int .i64 (-1)) ∧ xs.filter kpV = xs) ∨ ∃ i : Nat, i < n ∧ e = .returned (.int .i64 i) ∧ (xs.take (i + 1)).filter kpV = xs.take i) := by
  have hl : xs.length = n := by have := hown.1; omega
  have Hs := Lib.hid hs
  clear hs
  go_enter Try.func24, Try.ntmps24
  go_wp2_with fail
  go_loopw [8] (fun i wr => ∃ k : Nat, k ≤ n ∧ i = .int .i64 k ∧ Below w.heap.size w wr ∧ (xs.take k).filter kpV = xs.take k) (fun i _ => n - (intOf i).toNat)
  case atStart => exact ⟨0, Nat.zero_le _, rfl, Below.refl _ _, rfl⟩
  case round =>
    obtain ⟨k, hk, rfl, hb, hf⟩ := hrel
    by_cases hkn : k < n
    · have hki : (k : Int) < (n : Int) := by omega
      obtain ⟨x, hx⟩ : ∃ x, xs[k]? = some x := ⟨_, List.getElem?_eq_getElem (by omega)⟩
      obtain ⟨B, m, d, rfl, hm⟩ := Hs.out x (List.mem_of_getElem? hx)
      obtain ⟨g, cap, he⟩ := own_some hown (by omega)
      cases he
      have hc := (hown.cellAt k (by omega)).trans hx
      have hc2 := (hb.cell (p := ⟨g, k, none⟩) (own_lt hown).2).trans hc
      have Htk : Hid (xs.take (k + 1) = xs.take k ++ [.slice B m d]) := by rw [Hid, List.take_add_one, hx, Option.toList_some]
      have Hcl := Lib.hid (few_any B m d wr hm)
      cases hkp : kpV (.slice B m d)
      · rw [hkp] at Hcl
        go_wp2_with fail
        refine Hcl.out.mono ?_
        rintro e w5 ⟨rfl, rfl⟩
        go_wp2_with fail
        go_ret
        exact ⟨hb, .inr ⟨k, hkn, rfl, by rw [Htk.out, List.filter_append, hf, List.filter_cons, hkp]; simp⟩⟩
      · rw [hkp] at Hcl
        go_wp2_with fail
        refine Hcl.out.mono ?_
        rintro e w5 ⟨rfl, rfl⟩
        go_wp2_with fail
        go_roundw
        case rel => exact ⟨k + 1, by omega, by go_num, hb, by rw [Htk.out, List.filter_append, hf, List.filter_cons, hkp]; simp⟩
        case measure => simp [intOf]; omega
    · obtain rfl : k = n := by omega
      have hki : ¬ (k : Int) < (k : Int) := by omega
      go_wp2_with fail
      go_ret
      rw [List.take_of_length_le (by omega)] at hf
      exact ⟨hb, .inl ⟨rfl, List.filter_eq_self.1 hf⟩⟩

/-- a row's beginning -/
theorem own_take {w : World} {base g n c : Nat} {e : TypeId} {xs : List Value} (h : w.ownsRow base e 1 (.slice (some ⟨g, 0, none⟩) n c) n xs) {i : Nat} (hi : i ≤ n) : w.ownsRow base e 1 (.slice (some ⟨g, 0, none⟩) i c) i (xs.take i) := by
  have hl := h.1
  rcases h.2 with ⟨h1, _⟩ | ⟨g', cap, cur, h1, h2, h3, h4, h5, h6, h7⟩
  · cases h1
  · cases h1
    refine ⟨by rw [List.length_take]; omega, .inr ⟨g, c, cur, rfl, h2, h3, by omega, h5, h6, ?_⟩⟩
    rw [← h7, List.take_take]
    congr 1
    omega
theorem KI.bbs {w w' : World} {base D n c : Nat} {xs : List Value} (hb : BB w.heap.size D w w') (hown : w.ownsRow base 33 1 (.slice (some ⟨D, 0, none⟩) n c) n xs) : KI w w' := fun q cs fr hq => by
  have hne := own_ne hown ⟨cs, fr, hq⟩ (by decide)
  exact (hb.block q (Array.getElem?_eq_some_iff.1 hq).1 (fun e => hne (by subst e; rfl))).trans hq

set_option maxRecDepth 100000 in
set_option maxHeartbeats 4000000 in
theorem delete_any (base : Nat) (A : Option Addr) (n c : Nat) (xs : List Value) (w : World) (hown : w.ownsRow base 33 1 (.slice A n c) n xs) (hs : Sls xs) (hn : n ≤ 1000000) (hbase : base ≤ w.heap.size) :
    Calls Try.prog 16 #[.slice A n c, .func (.func 17) #[] #[]] w fun e w' => ∃ u, e = .returned u ∧ w'.ownsRow base 33 1 u (xs.filter kpV).length (xs.filter kpV) ∧ Below base w w' ∧ KI w w' := by
  have hl : xs.length = n := by have := hown.1; omega
  have Hix := Lib.hid (index_any base A n c xs w hown hs hn)
  have Hs := Lib.hid hs
  clear hs
  go_enter Try.func16, Try.ntmps16
  go_wp2_with fail
  refine Hix.out.mono ?_
  clear Hix
  rintro e w1 ⟨hb1, ⟨rfl, hall⟩ | ⟨i0, hi0, rfl, hf0⟩⟩
  · go_wp2_with fail
    go_ret
    refine ⟨.slice A n c, rfl, ?_, hb1.mono hbase, KI.below hb1⟩
    rw [hall, hl]
    exact own_below hown hb1
  · obtain ⟨g, cap, he⟩ := own_some hown (by omega)
    cases he
    have hown1 := own_below hown hb1
    have hgl := own_lt hown
    have hi1 : ((i0 : Int) == -1) = false := by rw [beq_eq_false_iff_ne]; omega
    have hi2 : ¬ (i0 : Int) = -1 := by omega
    have hs1 := hb1.size
    go_wp2_with fail
    go_loopw [5, 6] (fun vi vj wr => ∃ i j : Nat, vi = .int .i64 i ∧ vj = .int .i64 j ∧ i < j ∧ j ≤ n ∧ ∃ ys, wr.ownsRow base 33 1 (.slice (some ⟨g, 0, none⟩) n c) n ys ∧ BB w1.heap.size g w1 wr ∧ ys.take i = (xs.take j).filter kpV ∧ ∀ m, j ≤ m → ys[m]? = xs[m]?) (fun _ vj _ => n - (intOf vj).toNat)
    case atStart => exact ⟨i0, i0 + 1, rfl, by go_num, by omega, by omega, xs, hown1, BB.of (Below.refl _ _), hf0.symm, fun _ _ => rfl⟩
    case round =>
      obtain ⟨i, j, rfl, rfl, hij, hj, ys, hys, hbb, htk, hrest⟩ := hrel
      have hyl : ys.length = n := by have := hys.1; omega
      by_cases hjn : j < n
      · have hji : (j : Int) < (n : Int) := by omega
        obtain ⟨x, hx⟩ : ∃ x, xs[j]? = some x := ⟨_, List.getElem?_eq_getElem (by omega)⟩
        obtain ⟨B, m, d, rfl, hm⟩ := Hs.out x (List.mem_of_getElem? hx)
        have hc2 := (hys.cellAt j (by omega)).trans ((hrest j (Nat.le_refl _)).trans hx)
        have Htk : Hid (xs.take (j + 1) = xs.take j ++ [.slice B m d]) := by rw [Hid, List.take_add_one, hx, Option.toList_some]
        have Hcl := Lib.hid (few_any B m d wr hm)
        cases hkp : kpV (.slice B m d)
        · rw [hkp] at Hcl
          go_wp2_with fail
          refine Hcl.out.mono ?_
          rintro e w5 ⟨rfl, rfl⟩
          go_wp2_with fail
          go_roundw
          case rel => exact ⟨i, j + 1, rfl, by go_num, by omega, by omega, ys, hys, hbb, by rw [Htk.out, List.filter_append, htk, List.filter_cons, hkp]; simp, fun m hm => hrest m (by omega)⟩
          case measure => simp [intOf]; omega
        · rw [hkp] at Hcl
          have hii : (i : Int) < (n : Int) := by omega
          have hfr := hys.frozenAt i
          have hci : (w5' : World) → True := fun _ => trivial
          clear hci
          obtain ⟨y, hy⟩ : ∃ y, ys[i]? = some y := ⟨_, List.getElem?_eq_getElem (by omega)⟩
          have hcy := (hys.cellAt i (by omega)).trans hy
          have Hst := Lib.hid (hys.stored i (.slice B m d)).1
          have Hbb := Lib.hid (hbb.setT i (.slice B m d))
          clear hbb hys
          go_wp2_with fail
          refine Hcl.out.mono ?_
          rintro e w5 ⟨rfl, rfl⟩
          go_wp2_with fail
          go_roundw
          case rel => exact ⟨i + 1, j + 1, by go_num, by go_num, by omega, by omega, _, Hst.out, Hbb.out, by rw [Htk.out, List.filter_append, ← htk, List.filter_cons, hkp, List.take_add_one, List.take_set_of_le (Nat.le_refl _), List.getElem?_set_self (by omega)]; simp, fun m hm => by rw [List.getElem?_set_ne (by omega)]; exact hrest m (by omega)⟩
          case measure => simp [intOf]; omega
      · obtain rfl : j = n := by omega
        have hji : ¬ (j : Int) < (j : Int) := by omega
        rw [List.take_of_length_le (l := xs) (by omega)] at htk
        have hjc : j ≤ c := by
          rcases hys.2 with ⟨h9, _⟩ | ⟨g', cap, cur, h9, _, _, h3, _⟩
          · cases h9
          · cases h9; exact h3
        have hci : ¬ c = i := by omega
        have hclr := Lib.run_clear_slice (P := Try.prog) wr 37 33 0 (.slice none 0 0) Try.underlying37 (fun _ => Try.zeroValue33 _) rfl rfl g i (j - i) (c - i) (by omega) (fun q hq => by
          rw [hys.cellAt (i + q) (by omega), List.getElem?_eq_getElem (show i + q < ys.length by omega)]; rfl) (fun q hq => hys.frozenAt (i + q))
        have hfill := own_fill (.slice none 0 0) (j - i) i wr ys (by omega) hys
        have hown9 := own_take hfill (i := i) (by omega)
        rw [List.append_assoc, List.take_append_of_le_length (by rw [List.length_take]; omega), List.take_take, Nat.min_self, htk] at hown9
        have hfl : (xs.filter kpV).length = i := by rw [← htk, List.length_take]; omega
        have Hown9 := Lib.hid hown9
        have Hbb9 := Lib.hid (hbb.setCells (List.replicate (j - i) (.slice none 0 0)) i)
        clear hown9 hfill hbb hys
        go_wp2_with fail
        go_ret
        refine ⟨.slice (some ⟨g, 0, none⟩) i c, rfl, ?_, (hb1.mono hbase).trans (Hbb9.out.bel (by omega) hgl.1), (KI.below hb1).trans (KI.bbs Hbb9.out hown1)⟩
        exact Hown9.out
end Go.Proofs.Ytapajkfnpkekdaa

/-
  The sets of equal variables while they are gathered. No walk in this text but the map's key.
-/
namespace Go.Proofs.Ytapajkfnpkekdaa
open Go Go.RowKit

/-- one group and one value -/
def grP (gs xs : List Int) (v x : Nat) : Bool := decide (gx gs v = gx gs x ∧ gx xs v = gx xs x)
theorem grP_iff {gs xs : List Int} {v x : Nat} : grP gs xs v x = true ↔ gx gs v = gx gs x ∧ gx xs v = gx xs x := decide_eq_true_iff
structure EqP (P : Nat → Nat → Bool) : Prop where
  refl : ∀ v, P v v = true
  symm : ∀ v x, P v x = true → P x v = true
  trans : ∀ v x y, P v x = true → P x y = true → P v y = true
theorem grP_eq (gs xs : List Int) : EqP (grP gs xs) :=
  ⟨fun _ => grP_iff.2 ⟨rfl, rfl⟩, fun _ _ h => grP_iff.2 ⟨(grP_iff.1 h).1.symm, (grP_iff.1 h).2.symm⟩, fun _ _ _ h g => grP_iff.2 ⟨(grP_iff.1 h).1.trans (grP_iff.1 g).1, (grP_iff.1 h).2.trans (grP_iff.1 g).2⟩⟩
/-- the first of each set, of those below k -/
def fsL (P : Nat → Nat → Bool) (k : Nat) : List Nat := (List.range k).filter (fst1 P)
/-- the sets, as far as those below k go -/
def stL (P : Nat → Nat → Bool) (k : Nat) : List (List Nat) := (fsL P k).map fun u => mem1 P u k
theorem fsL_succ (P : Nat → Nat → Bool) (k : Nat) : fsL P (k + 1) = if fst1 P k = true then fsL P k ++ [k] else fsL P k := by
  unfold fsL
  rw [List.range_succ, List.filter_append]
  by_cases h : fst1 P k = true
  · rw [if_pos h]; simp [h]
  · rw [if_neg h]; simp [h]
theorem fsL_mem {P : Nat → Nat → Bool} {k u : Nat} : u ∈ fsL P k ↔ u < k ∧ fst1 P u = true := by simp [fsL]
theorem stL_len (P : Nat → Nat → Bool) (k : Nat) : (stL P k).length = (fsL P k).length := by simp [stL]
theorem fsL_len (P : Nat → Nat → Bool) (k : Nat) : (fsL P k).length ≤ k := by
  have := List.length_filter_le (fst1 P) (List.range k)
  rwa [List.length_range] at this
theorem stL_at {P : Nat → Nat → Bool} {k i u : Nat} (h : (fsL P k)[i]? = some u) : (stL P k)[i]? = some (mem1 P u k) := by simp [stL, h]
/-- a new set -/
theorem stL_new {P : Nat → Nat → Bool} (E : EqP P) {k : Nat} (h : fst1 P k = true) : stL P (k + 1) = stL P k ++ [[k]] := by
  unfold stL
  rw [fsL_succ, if_pos h, List.map_append]
  congr 1
  · refine List.map_congr_left fun u hu => ?_
    have h1 := fst1_iff.1 h u (fsL_mem.1 hu).1
    rw [mem1_succ, if_neg (by rw [h1]; decide)]
  · rw [List.map_singleton, mem1_succ, if_pos (E.refl k)]
    have : mem1 P k k = [] := by
      unfold mem1
      rw [List.filter_eq_nil_iff]
      intro z hz h2
      have h1 := fst1_iff.1 h z (List.mem_range.1 hz)
      rw [E.symm _ _ h2] at h1
      cases h1
    rw [this]
    rfl
/-- one more in a set that is there -/
theorem stL_old {P : Nat → Nat → Bool} (E : EqP P) {k i u : Nat} (h : ¬ fst1 P k = true) (hi : (fsL P k)[i]? = some u) (hu : P u k = true) : stL P (k + 1) = (stL P k).set i (mem1 P u k ++ [k]) := by
  have hil : i < (fsL P k).length := (List.getElem?_eq_some_iff.1 hi).1
  have hpw : (fsL P k).Pairwise (· < ·) := List.pairwise_lt_range.filter _
  refine List.ext_getElem? fun j => ?_
  rw [List.getElem?_set]
  unfold stL
  rw [fsL_succ, if_neg h, List.getElem?_map, List.length_map]
  by_cases hj : i = j
  · subst hj
    rw [if_pos rfl, if_pos hil, hi, Option.map_some, mem1_succ, if_pos hu]
  · rw [if_neg hj, List.getElem?_map]
    cases hz : (fsL P k)[j]? with
    | none => rfl
    | some z =>
      have hjl : j < (fsL P k).length := (List.getElem?_eq_some_iff.1 hz).1
      have hzf := fsL_mem.1 (List.mem_of_getElem? hz)
      have huf := fsL_mem.1 (List.mem_of_getElem? hi)
      rw [Option.map_some, Option.map_some, mem1_succ]
      rw [if_neg]
      intro h2
      have h3 := E.trans _ _ _ h2 (E.symm _ _ hu)
      have e1 : (fsL P k)[j] = z := (List.getElem?_eq_some_iff.1 hz).2
      have e2 : (fsL P k)[i] = u := (List.getElem?_eq_some_iff.1 hi).2
      rcases Nat.lt_or_gt_of_ne hj with h4 | h4
      · have h5 := List.pairwise_iff_getElem.1 hpw i j hil hjl h4
        rw [e1, e2] at h5
        have h6 := fst1_iff.1 hzf.2 u h5
        rw [E.symm _ _ h3] at h6
        cases h6
      · have h5 := List.pairwise_iff_getElem.1 hpw j i hjl hil h4
        rw [e1, e2] at h5
        have h6 := fst1_iff.1 huf.2 z h5
        rw [h3] at h6
        cases h6
/-- those of two or more are the answer -/
theorem stL_cls (P : Nat → Nat → Bool) (n : Nat) : (stL P n).filter (fun l => decide (2 ≤ l.length)) = cls P n n := by
  unfold stL cls fsL
  rw [List.filter_map, List.filter_filter]
  congr 1
  refine List.filter_congr fun u _ => ?_
  show (decide (2 ≤ (mem1 P u n).length) && fst1 P u) = (fst1 P u && decide (1 < (mem1 P u n).length))
  exact Bool.and_comm _ _
theorem mem1_congr {P Q : Nat → Nat → Bool} {n u : Nat} (h : ∀ v x, v < n → x < n → P v x = Q v x) (hu : u < n) : mem1 P u n = mem1 Q u n :=
  List.filter_congr fun x hx => h u x hu (List.mem_range.1 hx)
theorem fst1_congr {P Q : Nat → Nat → Bool} {n u : Nat} (h : ∀ v x, v < n → x < n → P v x = Q v x) (hu : u < n) : fst1 P u = fst1 Q u := by
  cases h1 : fst1 Q u with
  | true => exact fst1_iff.2 fun z hz => by rw [h z u (by omega) hu]; exact fst1_iff.1 h1 z hz
  | false =>
    cases h2 : fst1 P u with
    | false => rfl
    | true => rw [fst1_iff.2 fun z hz => by rw [← h z u (by omega) hu]; exact fst1_iff.1 h2 z hz] at h1; cases h1
theorem cls_congr {P Q : Nat → Nat → Bool} {n : Nat} (h : ∀ v x, v < n → x < n → P v x = Q v x) : cls P n n = cls Q n n := by
  unfold cls
  have e : (List.range n).filter (fun u => fst1 P u && decide (1 < (mem1 P u n).length)) = (List.range n).filter (fun u => fst1 Q u && decide (1 < (mem1 Q u n).length)) :=
    List.filter_congr fun u hu => by rw [fst1_congr h (List.mem_range.1 hu), mem1_congr h (List.mem_range.1 hu)]
  rw [e]
  refine List.map_congr_left fun u hu => ?_
  rw [List.mem_filter] at hu
  exact mem1_congr h (List.mem_range.1 hu.1)

/-! ### the map -/
theorem laidG : laidOutB Try.prog = true := by kernel_rfl
theorem rowK : (59 : TypeId) < Try.prog.types.size := of_decide_eq_true (by kernel_rfl)
theorem wideK : (match Try.prog.underlying 59 with | some (.array _ _) | some (.struct _) => true | _ => false) = true := by rw [Try.underlying59]
set_option maxRecDepth 100000 in
theorem typK : Try.prog.keyTypeAt 2 59 = true := by kernel_rfl
set_option maxRecDepth 100000 in
theorem typK2 : Try.prog.keyType 59 = true := by kernel_rfl
set_option maxRecDepth 100000 in
theorem celK : Try.prog.cellsOf 59 = 2 := by kernel_rfl
set_option maxRecDepth 100000 in
theorem celI : Try.prog.cellsOf 3 = 1 := by kernel_rfl
set_option maxRecDepth 100000 in
theorem keyLaw : WideMaps.KeyLaw Try.prog 59 := deep_law_laid laidG (m := 2) (by omega) rowK typK wideK
theorem keyK : Maps.Keyed Try.prog 59 := Maps.Keyed.of_law keyLaw
/-- a place as a key -/
abbrev plV (a b : Int) : Value := .agg #[.int .i64 a, .int .i64 b]
set_option maxRecDepth 100000 in
theorem key_some {a b : Int} (ha : (Lit.int .i64 a).wf = true) (hb : (Lit.int .i64 b).wf = true) : ∃ l, keyOf Try.prog 59 (plV a b) = some l := by
  obtain ⟨m, hm⟩ : ∃ m, Try.prog.types.size = m + 1 := ⟨Try.prog.types.size - 1, (Nat.succ_pred_eq_of_pos (Nat.lt_of_le_of_lt (Nat.zero_le _) rowK)).symm⟩
  have hf : (plV a b).formed Try.prog 59 = true := by simp [Value.formed, Try.underlying59, celK]
  unfold keyOf
  rw [Try.underlying59]
  simp only [typK2, hf, Bool.and_self, if_true, hm]
  simp [Program.keyLits, Try.underlying59, Try.underlying3, celK, celI, Value.cells, ha, hb]
/-- what the map says when those below k have come -/
structure MPl (gs xs : List Int) (k : Nat) (D : DataW Unit) : Prop where
  map : Maps.IsMap D
  hit : ∀ v l, v < k → keyOf Try.prog 59 (plV (gx gs v) (gx xs v)) = some l → Maps.has D l = true ∧ ∃ i u : Nat, D.atKey l (.lit (.int .i64 0)) = .lit (.int .i64 (i : Int)) ∧ (fsL (grP gs xs) k)[i]? = some u ∧ grP gs xs u v = true
  miss : ∀ z l, keyOf Try.prog 59 (plV (gx gs z) (gx xs z)) = some l → (∀ v, v < k → grP gs xs v z = false) → Maps.has D l = false
theorem pl_inj {a b c d : Int} (h : plV a b = plV c d) : a = c ∧ b = d := by
  injection h with h
  injection h with h
  injection h with h1 h
  injection h with h2 _
  injection h1 with _ h1
  injection h2 with _ h2
  exact ⟨h1, h2⟩
theorem MPl.begin (gs xs : List Int) : MPl gs xs 0 (.map []) := ⟨Maps.isMap_empty, fun v l h => by omega, fun z l _ _ => rfl⟩
theorem MPl.new {gs xs : List Int} {k : Nat} {D : DataW Unit} (h : MPl gs xs k D) {l0 : Lit} (hl : keyOf Try.prog 59 (plV (gx gs k) (gx xs k)) = some l0) (hf : fst1 (grP gs xs) k = true) : MPl gs xs (k + 1) (D.put l0 (.lit (.int .i64 ((fsL (grP gs xs) k).length : Int)))) where
  map := h.map.put _ _
  hit := fun v l hv hk => by
    rw [fsL_succ, if_pos hf]
    by_cases e : l = l0
    · subst e
      obtain ⟨e1, e2⟩ := pl_inj (keyK.inj hk hl)
      exact ⟨Maps.has_put_same h.map (keyK.key hl) _, _, k, Maps.atKey_put_same h.map (keyK.key hl) _ _, by simp, grP_iff.2 ⟨e1.symm, e2.symm⟩⟩
    · have hvk : v < k := Nat.lt_of_le_of_ne (by omega) fun e2 => e (by subst e2; rw [hk] at hl; exact Option.some.inj hl)
      obtain ⟨h1, i, u, h2, h3, h4⟩ := h.hit v l hvk hk
      refine ⟨(Maps.has_put_other e _).trans h1, i, u, (Maps.atKey_put_other e _ _).trans h2, ?_, h4⟩
      rw [List.getElem?_append_left (List.getElem?_eq_some_iff.1 h3).1]
      exact h3
  miss := fun z l hk hz => by
    have e : l ≠ l0 := fun e => by
      subst e
      obtain ⟨e1, e2⟩ := pl_inj (keyK.inj hk hl)
      have := hz k (Nat.lt_succ_self k)
      rw [grP_iff.2 ⟨e1.symm, e2.symm⟩] at this
      cases this
    exact (Maps.has_put_other e _).trans (h.miss z l hk fun v hv => hz v (by omega))
theorem MPl.old {gs xs : List Int} {k : Nat} {D : DataW Unit} (h : MPl gs xs k D) (hf : ¬ fst1 (grP gs xs) k = true) {l0 : Lit} (hl : keyOf Try.prog 59 (plV (gx gs k) (gx xs k)) = some l0) :
    MPl gs xs (k + 1) D ∧ Maps.has D l0 = true ∧ ∃ i u : Nat, D.atKey l0 (.lit (.int .i64 0)) = .lit (.int .i64 (i : Int)) ∧ (fsL (grP gs xs) k)[i]? = some u ∧ grP gs xs u k = true := by
  have E := grP_eq gs xs
  obtain ⟨z, hz, hP⟩ : ∃ z, z < k ∧ grP gs xs z k = true := Classical.byContradiction fun hn => hf (fst1_iff.2 fun z hz => by
    cases hb : grP gs xs z k with
    | false => rfl
    | true => exact absurd ⟨z, hz, hb⟩ hn)
  obtain ⟨g1, g2⟩ := grP_iff.1 hP
  have hk : ∃ i u : Nat, D.atKey l0 (.lit (.int .i64 0)) = .lit (.int .i64 (i : Int)) ∧ (fsL (grP gs xs) k)[i]? = some u ∧ grP gs xs u k = true := by
    obtain ⟨_, i, u, h2, h3, h4⟩ := h.hit z l0 hz (by rw [g1, g2]; exact hl)
    exact ⟨i, u, h2, h3, E.trans _ _ _ h4 hP⟩
  have hh : Maps.has D l0 = true := (h.hit z l0 hz (by rw [g1, g2]; exact hl)).1
  refine ⟨⟨h.map, fun v l hv hkv => ?_, fun z l hk hz => h.miss z l hk fun v hv => hz v (by omega)⟩, hh, hk⟩
  rw [fsL_succ, if_neg hf]
  by_cases e : v = k
  · subst e
    obtain rfl : l = l0 := by rw [hkv] at hl; exact Option.some.inj hl
    exact ⟨hh, hk⟩
  · exact h.hit v l (by omega) hkv
end Go.Proofs.Ytapajkfnpkekdaa

/-
  'Classes': the sets of variables that are equal in all solutions, gathered by group and value.
-/
namespace Go.Proofs.Ytapajkfnpkekdaa
open Go Go.RowKit

/-- all cells stay -/
def KC (w w' : World) : Prop := ∀ (q : Nat) (cs : Array Value) (t : TypeId) (fr : Nat × Nat), w.heap[q]? = some (.cells cs t fr) → w'.heap[q]? = some (.cells cs t fr)
theorem KC.below {w w' : World} (h : Below w.heap.size w w') : KC w w' := fun q _ _ _ hq => (h.block q (Array.getElem?_eq_some_iff.1 hq).1).trans hq
theorem KC.grown {w w' : World} {b : Nat} (hg : w.grownBy w' (some b)) (hb : ∃ es c, w.heap[b]? = some (.map es c)) : KC w w' := fun q cs t fr hq => by
  refine (hg.block q (Array.getElem?_eq_some_iff.1 hq).1 fun e => ?_).trans hq
  obtain ⟨es, c, h⟩ := hb
  cases e
  rw [hq] at h
  cases h
theorem own_kc {w w' : World} {base size n : Nat} {e : TypeId} {v : Value} {xs : List Value} (h : w.ownsRow base e size v n xs) (k : KC w w') : w'.ownsRow base e size v n xs :=
  ⟨h.1, h.2.imp id fun ⟨g, cap, cur, e1, e2, e3, e4⟩ => ⟨g, cap, cur, e1, e2, k _ _ _ _ e3, e4⟩⟩
/-- a table of rows, each a block of its own -/
structure TS (w : World) (base : Nat) (u : Value) (xs : List Value) (ls : List (List Nat)) : Prop where
  tab : w.ownsRow base 33 1 u ls.length xs
  row : ∀ (i : Nat) (x : Value) (l : List Nat), xs[i]? = some x → ls[i]? = some l → w.ownsRow base 3 1 x l.length (int1 (castN l))
  apart : ∀ (i j : Nat) (x y : Value), xs[i]? = some x → xs[j]? = some y → i ≠ j → ∀ q, x.ownBlock = some q → y.ownBlock ≠ some q
section
variable {w w' : World} {base : Nat} {u : Value} {xs : List Value} {ls : List (List Nat)}
theorem TS.len (h : TS w base u xs ls) : xs.length = ls.length := by have := h.tab.1; omega
theorem TS.begin (w : World) (base : Nat) : TS w base (.slice none 0 0) [] [] :=
  ⟨World.ownsRow_nil _ _ _ _, fun i x l h => by simp at h, fun i j x y h => by simp at h⟩
theorem TS.kc (h : TS w base u xs ls) (k : KC w w') : TS w' base u xs ls :=
  ⟨own_kc h.tab k, fun i x l h1 h2 => own_kc (h.row i x l h1 h2) k, h.apart⟩
theorem own_ty {e : TypeId} {size n q : Nat} {v : Value} (h : w.ownsRow base e size v n xs) (hq : v.ownBlock = some q) : ∃ cs fr, w.heap[q]? = some (.cells cs e fr) := by
  rcases h.2 with ⟨rfl, _⟩ | ⟨g, cap, cur, rfl, _, hg, _⟩
  · cases hq
  · cases hq; exact ⟨_, _, hg⟩
/-- a set more, empty -/
theorem TS.snoc (h : TS w base u xs ls) (hg : w.grownBy w' u.ownBlock) {u' : Value} (hown : w'.ownsRow base 33 1 u' (ls.length + 1) (xs ++ [.slice none 0 0])) : TS w' base u' (xs ++ [.slice none 0 0]) (ls ++ [[]]) where
  tab := by rw [List.length_append, List.length_singleton]; exact hown
  row := fun i x l h1 h2 => by
    have hl := h.len
    by_cases hi : i < xs.length
    · rw [List.getElem?_append_left hi] at h1
      rw [List.getElem?_append_left (by omega)] at h2
      have h3 := h.row i x l h1 h2
      refine own_grown h3 hg fun k hk hx => ?_
      obtain ⟨cs, fr, h4⟩ := own_ty h.tab hk
      obtain ⟨cs', fr', h5⟩ := own_ty h3 hx
      rw [h4] at h5
      cases h5
    · rw [List.getElem?_append_right (by omega)] at h1 h2
      rw [hl] at h1
      cases hk : i - ls.length with
      | zero =>
        rw [hk] at h1 h2
        simp at h1 h2
        subst h1 h2
        exact World.ownsRow_nil _ _ _ _
      | succ j => rw [hk] at h2; simp at h2
  apart := fun i j x y h1 h2 hij q hx => by
    have hx' : i < xs.length := Classical.byContradiction fun hn => by
      rw [List.getElem?_append_right (by omega)] at h1
      have := List.mem_of_getElem? h1
      rw [List.mem_singleton] at this
      subst this
      cases hx
    rw [List.getElem?_append_left hx'] at h1
    by_cases hj : j < xs.length
    · rw [List.getElem?_append_left hj] at h2
      exact h.apart i j x y h1 h2 hij q hx
    · rw [List.getElem?_append_right (by omega)] at h2
      have := List.mem_of_getElem? h2
      rw [List.mem_singleton] at this
      subst this
      intro e
      cases e
/-- one more in a set -/
theorem TS.put (h : TS w base u xs ls) {i k : Nat} {x : Value} {l : List Nat} (hx : xs[i]? = some x) (hi : ls[i]? = some l) (hg : w.grownBy w' x.ownBlock) {g n c A c' : Nat} (hu : u = .slice (some ⟨A, 0, none⟩) n c')
    (hown : w'.ownsRow base 3 1 (.slice (some ⟨g, 0, none⟩) (l.length + 1) c) (l.length + 1) (int1 (castN l) ++ [.int .i64 (k : Int)])) (hlies : x.ownBlock = some g ∨ g = w.heap.size) :
    TS (w'.setCell ⟨A, i, none⟩ (.slice (some ⟨g, 0, none⟩) (l.length + 1) c)) base u (xs.set i (.slice (some ⟨g, 0, none⟩) (l.length + 1) c)) (ls.set i (l ++ [k])) := by
  subst hu
  have hil : i < xs.length := (List.getElem?_eq_some_iff.1 hx).1
  have hll := h.len
  have hrow := h.row i x l hx hi
  have hln : ls.length = n := by
    rcases h.tab.2 with ⟨h1, _⟩ | ⟨g', cap, cur, h1, _⟩
    · cases h1
    · cases h1; rfl
  have htab : w'.ownsRow base 33 1 (.slice (some ⟨A, 0, none⟩) n c') ls.length xs := own_grown h.tab hg fun q hq he => by
    obtain ⟨cs, fr, h4⟩ := own_ty h.tab he
    obtain ⟨cs', fr', h5⟩ := own_ty hrow hq
    rw [h4] at h5
    cases h5
  subst hln
  have hset : ∀ {v : Value} {m : Nat} {ys : List Value}, w'.ownsRow base 3 1 v m ys → (w'.setCell ⟨A, i, none⟩ (.slice (some ⟨g, 0, none⟩) (l.length + 1) c)).ownsRow base 3 1 v m ys := fun {v m ys} h1 =>
    ownsRow_setCell_other h1 (fun e => by
      obtain ⟨cs, fr, h4⟩ := own_ty h1 e
      obtain ⟨cs', fr', h5⟩ := own_ty htab (q := A) rfl
      rw [h4] at h5
      cases h5) _
  refine ⟨by rw [List.length_set]; exact (htab.stored i _).1, fun j y m h1 h2 => ?_, fun a b y z h1 h2 hab q hy => ?_⟩
  · by_cases e : i = j
    · subst e
      rw [List.getElem?_set_self hil] at h1
      rw [List.getElem?_set_self (by omega)] at h2
      cases h1
      cases h2
      have e2 : int1 (castN (l ++ [k])) = int1 (castN l) ++ [.int .i64 (k : Int)] := by simp [castN, int1]
      rw [List.length_append, List.length_singleton, e2]
      exact hset hown
    · rw [List.getElem?_set_ne e] at h1 h2
      have h3 := h.row j y m h1 h2
      exact hset (own_grown h3 hg fun q hq => h.apart i j x y hx h1 e q hq)
  · have hlt : ∀ (j : Nat) (y : Value), xs[j]? = some y → ∀ q, y.ownBlock = some q → q < w.heap.size := fun j y hj q hq => by
      have hjl : j < ls.length := by have := (List.getElem?_eq_some_iff.1 hj).1; omega
      exact ((h.row j y _ hj (List.getElem?_eq_getElem hjl)).lt q hq).2
    by_cases ea : i = a
    · subst ea
      rw [List.getElem?_set_self hil] at h1
      cases h1
      cases hy
      rw [List.getElem?_set_ne hab] at h2
      rcases hlies with h5 | h5
      · exact h.apart i b x z hx h2 hab _ h5
      · intro h6
        have : g < w.heap.size := hlt b z h2 _ h6
        omega
    · rw [List.getElem?_set_ne ea] at h1
      by_cases eb : i = b
      · subst eb
        rw [List.getElem?_set_self hil] at h2
        cases h2
        intro h6
        cases h6
        rcases hlies with h5 | h5
        · exact h.apart a i y x h1 hx (fun e => ea e.symm) _ hy h5
        · have : g < w.heap.size := hlt a y h1 _ hy
          omega
      · rw [List.getElem?_set_ne eb] at h2
        exact h.apart a b y z h1 h2 hab q hy
end
theorem own_sl {w : World} {base : Nat} {e : TypeId} {size n : Nat} {v : Value} {xs : List Value} (h : w.ownsRow base e size v n xs) : ∃ A c, v = .slice A n c := by
  rcases h.2 with ⟨rfl, rfl⟩ | ⟨g, cap, cur, rfl, _⟩
  · exact ⟨_, _, rfl⟩
  · exact ⟨_, _, rfl⟩
theorem newV {w : World} {x : Value} {ty : TypeId} : ∀ j u, [x][j]? = some u → (w.alloc (.cells #[x] ty)).cell? ((⟨w.heap.size, 0, none⟩ : Addr).add j) = some u := newI rfl
theorem KS.filt {w : World} : ∀ (xs : List Value) (ls : List (List Nat)), KS w xs ls → (∀ (i : Nat) (x : Value) (l : List Nat), xs[i]? = some x → ls[i]? = some l → lnV x = l.length) → KS w (xs.filter kpV) (ls.filter fun l => decide (2 ≤ l.length))
  | [], [], h, _ => h
  | [], _ :: _, h, _ => absurd h.1 (by simp)
  | _ :: _, [], h, _ => absurd h.1 (by simp)
  | x :: xs, l :: ls, h, hl => by
    have hx := hl 0 x l rfl rfl
    have ht : KS w xs ls := ⟨by have := h.1; simpa using this, fun j m y h1 h2 => h.2 (j + 1) m y (by simpa using h1) (by simpa using h2)⟩
    have ih := KS.filt xs ls ht fun i y m h1 h2 => hl (i + 1) y m (by simpa using h1) (by simpa using h2)
    have hk : kpV x = decide (2 ≤ l.length) := by unfold kpV; rw [hx]
    rw [List.filter_cons, List.filter_cons, hk]
    by_cases h2 : 2 ≤ l.length
    · rw [decide_eq_true h2, if_pos rfl, if_pos rfl]
      refine ⟨by simp [ih.1], fun j m y h3 h4 => ?_⟩
      cases j with
      | zero =>
        simp at h3 h4
        subst h3 h4
        exact h.2 0 _ _ rfl rfl
      | succ j => exact ih.2 j m y (by simpa using h3) (by simpa using h4)
    · rw [decide_eq_false h2]
      exact ih
theorem TS.ks {w : World} {base : Nat} {u : Value} {xs : List Value} {ls : List (List Nat)} (h : TS w base u xs ls) (hl : ∀ l ∈ ls, 0 < l.length) : KS w xs ls :=
  ⟨h.len, fun j l x h1 h2 => KR.of_own (h.row j x l h2 h1) (hl l (List.mem_of_getElem? h1))⟩
theorem stL_mem {P : Nat → Nat → Bool} (E : EqP P) {k : Nat} {l : List Nat} (h : l ∈ stL P k) : 0 < l.length ∧ l.length ≤ k := by
  unfold stL at h
  obtain ⟨u, hu, rfl⟩ := List.mem_map.1 h
  have h1 := (fsL_mem.1 hu).1
  refine ⟨List.length_pos_iff.2 fun e => ?_, mem1_len _ _ _⟩
  have h2 : u ∈ mem1 P u k := List.mem_filter.2 ⟨List.mem_range.2 h1, E.refl u⟩
  rw [e] at h2
  cases h2
theorem map_ne {w : World} {H : Type} {P : Program} {k t : TypeId} {R : Value → Option (DataW H × List MemPlace)} {b m base size n : Nat} {D : DataW H} {v : Value} {xs : List Value} (h : w.ownsMap P k R b m D) (ho : w.ownsRow base t size v n xs) : some b ≠ v.ownBlock := fun e => by
  obtain ⟨es, cl, h1, _⟩ := h
  obtain ⟨cs, fr, h2⟩ := own_ty ho e.symm
  rw [h1] at h2
  cases h2
theorem esC_len9 {n : Nat} {cs : List LCn} (hcs : ∀ c ∈ cs, Con n c) : ∀ k, (esC n cs k).length ≤ 9 * k
  | 0 => by simp [esC]
  | k + 1 => by
    have h1 := esC_len9 hcs k
    have h2 : (foC n cs k).length ≤ 9 := by
      cases h : cs[k]? with
      | none => simp [foC, h]
      | some c => rw [foC_at h]; exact edgC_len (hcs c (List.mem_of_getElem? h))
    rw [esC, List.length_append]
    omega
theorem esA_len9 {n : Nat} {cs : List LCn} (hcs : ∀ c ∈ cs, Con n c) : (esA n cs).length ≤ 9 * cs.length + n := by
  have := esC_len9 hcs cs.length
  unfold esA
  rw [List.length_append]
  have h2 : (zeC n cs.length n).length = n := by simp [zeC]
  omega
theorem filt_succ (E : List Edg) (N : Nat) : (E.filter fun e => decide (e.f < N + 1)).length = (E.filter fun e => decide (e.f < N)).length + (E.filter fun e => e.f == N).length := by
  induction E with
  | nil => rfl
  | cons e E ih =>
    simp only [List.filter_cons]
    by_cases h1 : e.f < N
    · have h2 : e.f < N + 1 := by omega
      have h3 : (e.f == N) = false := by rw [beq_eq_false_iff_ne]; omega
      simp only [decide_eq_true h1, decide_eq_true h2, h3, if_true, List.length_cons]
      simp only [Bool.false_eq_true, if_false]
      omega
    · by_cases h4 : e.f = N
      · have h2 : e.f < N + 1 := by omega
        have h3 : (e.f == N) = true := by rw [beq_iff_eq]; exact h4
        simp only [decide_eq_false h1, decide_eq_true h2, h3, if_true, List.length_cons]
        simp only [Bool.false_eq_true, if_false]
        omega
      · have h2 : ¬ e.f < N + 1 := by omega
        have h3 : (e.f == N) = false := by rw [beq_eq_false_iff_ne]; exact h4
        simp only [decide_eq_false h1, decide_eq_false h2, h3]
        simp only [Bool.false_eq_true, if_false]
        exact ih
theorem dn_len (E : List Edg) : ∀ N, (dnE (outE E) N).length = (E.filter fun e => decide (e.f < N)).length
  | 0 => by rw [List.filter_eq_nil_iff.2 (fun e _ => by simp)]; rfl
  | N + 1 => by
    rw [dnE_succ, List.length_append, dn_len E N, filt_succ]
    rfl
theorem dn_le (E : List Edg) (N : Nat) : (dnE (outE E) N).length ≤ E.length := by
  rw [dn_len]
  exact List.length_filter_le _ _
theorem dn_mem {E : List Edg} {N : Nat} {e : Edg} (h : ∀ e ∈ E, e.f < N) : e ∈ dnE (outE E) N ↔ e ∈ E := by
  constructor
  · intro he
    obtain ⟨v, _, h2⟩ := dnE_mem he
    exact (outE_mem.1 h2).1
  · intro he
    unfold dnE
    rw [List.mem_flatMap]
    exact ⟨e.f, List.mem_range.2 (h e he), outE_mem.2 ⟨he, rfl⟩⟩
/-- equal in all solutions: one group and one value -/
theorem grp_eqN {n N : Nat} {E : List Edg} {gs xs : List Int} (hN : n ≤ N) (hf : ∀ e ∈ E, e.f < N) (hV : ∀ e ∈ E, hol (gx xs) e) (hg : ∀ x y, x < N → y < N → (gx gs x = gx gs y ↔ Mut (tnb xs (dnE (outE E) N) true) x y)) :
    ∀ v x, v < n → x < n → grP gs xs v x = eqN E v x := fun v x hv hx => by
  have hk : ∀ a b, Rch (tnb xs (dnE (outE E) N) true) a b ↔ Rch (tn xs E) a b := fun a b => by
    have hm : ∀ p q, q ∈ tnb xs (dnE (outE E) N) true p ↔ q ∈ tn xs E p := fun p q => by
      show q ∈ tn xs (dnE (outE E) N) p ↔ _
      rw [tn_mem, tn_mem]
      constructor
      · rintro ⟨e, h1, h2⟩; exact ⟨e, (dn_mem hf).1 h1, h2⟩
      · rintro ⟨e, h1, h2⟩; exact ⟨e, (dn_mem hf).2 h1, h2⟩
    unfold Rch
    constructor
    · intro h
      induction h with
      | refl h1 => exact .refl h1
      | step h1 h2 h3 ih => exact .step ih ((hm _ _).1 h2) h3
    · intro h
      induction h with
      | refl h1 => exact .refl h1
      | step h1 h2 h3 ih => exact .step ih ((hm _ _).2 h2) h3
  have h1 := hg v x (by omega) (by omega)
  have h2 : eqN E v x = true ↔ grP gs xs v x = true := by
    rw [eqN_iff, grP_iff, eqS_iff (V := xs) hV, h1]
    unfold Mut
    rw [hk, hk]
    constructor
    · rintro ⟨h3, h4⟩; exact ⟨h3, h4.symm⟩
    · rintro ⟨h3, h4⟩; exact ⟨h3, h4.symm⟩
  cases h3 : eqN E v x with
  | true => exact h2.1 h3
  | false =>
    cases h4 : grP gs xs v x with
    | false => rfl
    | true => rw [h2.2 h4] at h3; cases h3

set_option maxRecDepth 100000 in
set_option maxHeartbeats 8000000 in
theorem classes_any (v : Int) (A : Option Addr) (K cap : Nat) (cs : List LCn) (w : World) (h : CL w w.heap.size A K cs) (hK : K ≤ 9223372036854775807) :
    Calls Try.prog 7 #[.int .i64 v, .slice A K cap] w (RClsPost v cs w) := by
  have hva := gvalid_any v A K cap cs w h hK
  cases hg : gvld v cs
  · rw [hg] at hva
    have Hva := Lib.hid hva
    clear hva
    go_enter Try.func7, Try.ntmps7
    go_wp2_with fail
    refine Hva.out.mono ?_
    rintro e w1 ⟨rfl, hb1⟩
    go_wp2_with fail
    go_ret2
    exact ⟨hb1, .inl ⟨hg, rfl⟩⟩
  · rw [hg] at hva
    have Hva := Lib.hid hva
    clear hva
    obtain ⟨i0, hi, hz0, hz1, hz2⟩ := info_parts infoI
    obtain ⟨s0, hs, hs0, hs1, hs2⟩ := info_parts infoS
    obtain ⟨n, rfl, hn, hl3, hcs⟩ := gvld_parts hg
    have hl : cs.length = K := h.1
    have Hcs := Lib.hid hcs
    have Hl := Lib.hid hl
    have hK3 : K ≤ 3000 := by omega
    have Hdn : Hid ((dnE (outE (esA n cs)) (n + 1)).length ≤ 100000) := by
      have h1 := dn_le (esA n cs) (n + 1)
      have h2 := esA_len9 hcs
      rw [Hid]
      omega
    clear hcs hl hl3
    go_enter Try.func7, Try.ntmps7
    go_wp2_with fail
    refine Hva.out.mono ?_
    rintro e w1 ⟨rfl, hb1⟩
    have Hbe := Lib.hid (begin_any A K cap n cs w1 ((h.below hb1).more hb1.size) hK3 hn Hcs.out)
    go_wp2_with fail
    refine Hbe.out.mono ?_
    intro e w2 hpost
    obtain ⟨S, OF, OU, ON, V, rfl, hS1, hO1, hb2, hse, hvs⟩ := beg_is hpost Hl.out hK3 hn Hcs.out
    clear hpost Hbe
    have hb12 : Below w.heap.size w w2 := hb1.trans (hb2.mono hb1.size)
    have hGE := ge_of Hcs.out
    have hL0 := lst_zero Hcs.out
    rw [Hl.out] at hGE hL0
    have had := addAll_any w.heap.size S OF OU ON (n + 1) K V (n + 1) (foC n cs) (outE (esA n cs)) _ _ 0 K w2 hse hvs hGE (Nat.zero_le _) (Nat.le_refl _) (by omega) (by omega) hL0 ⟨by have := hb1.size; omega, by have := hb1.size; omega, hb12.size⟩
    have Had := Lib.hid had
    have HGE := Lib.hid hGE
    have HonA := Lib.hid (onA Hcs.out)
    rw [Hl.out] at HonA
    clear had hGE hL0 hse hvs
    go_wp2_with fail
    refine Had.out.mono ?_
    clear Had
    rintro e w3 ⟨r, rfl, hb3, hr⟩
    have hb13 := hb12.trans hb3
    rcases hr with ⟨rfl, hse, V1, c1, xs, hvs, hL⟩ | ⟨rfl, hno⟩
    · have Hbd := Lib.hid (HGE.out.bound hvs.len hL (by omega))
      have HL := Lib.hid hL
      have Hgr := Lib.hid (groups_any S OF OU ON (n + 1) K V1 c1 (foC n cs) (outE (esA n cs)) _ xs w3 hse hvs HGE.out (fun v => ⟨HL.out.nn v, Hbd.out v⟩) (by omega) Hdn.out (Nat.succ_pos n))
      have hSlt := hse.lt.1
      have hs3 := hvs.s3
      have hvown := hvs.own
      have hvlen := hvs.len
      clear hse hvs hL
      go_wp2_with fail
      refine Hgr.out.mono ?_
      clear Hgr
      rintro e w4 ⟨gb, gs, rfl, hgl, hgown, hgrp, hb4, hrg⟩
      have hS4 := (hb4.cell (p := ⟨S, 3, none⟩) hSlt).trans hs3
      have hv4 := own_below hvown hb4
      have hb14 := hb13.trans (hb4.mono hb13.size)
      have hgl4 := own_lt hgown
      have hS4l : S < w4.heap.size := Nat.lt_of_lt_of_le hSlt hb4.size
      have Heq := Lib.hid (grp_eqN (gs := gs) (show n ≤ n + 1 by omega) (fun e he => (esA_ok Hcs.out he).1) (fun e he => HL.out.sat e ((HonA.out e).2 he)) hgrp)
      have Hsat : Hid (∃ y, Sat (fun e => e ∈ esA n cs) y) := ⟨gx xs, fun e he => HL.out.sat e ((HonA.out e).2 he)⟩
      have Hwf : Hid (∀ v, (Lit.int .i64 (gx xs v)).wf = true) := fun v => by
        have h1 := Hbd.out v
        have h2 := HL.out.nn v
        exact WalkArith.wf_i64 ⟨by omega, by omega⟩
      have Hgf : Hid (∀ v, v < n → (Lit.int .i64 (gx gs v)).wf = true) := fun v hv => by
        have h1 := hrg v (by omega)
        exact WalkArith.wf_i64 ⟨by omega, by omega⟩
      clear hgrp hs3 hvown Hbd HL HonA hrg
      have hmm := run_makeMap (P := Try.prog) 53 w4
      go_wp2_with fail
      clear hmm
      go_loopw [9, 30] (fun u9 i wr => ∃ k : Nat, k ≤ n ∧ i = .int .i64 k ∧ ∃ (vals : List Value) (D : DataW Unit), TS wr w4.heap.size u9 vals (stL (grP gs xs) k) ∧ wr.ownsMap Try.prog 59 (plainElem Try.prog 3) w4.heap.size k D ∧ MPl gs xs k D ∧ Below w4.heap.size w4 wr) (fun _ i _ => n - (intOf i).toNat)
      case atStart => exact ⟨0, Nat.zero_le _, rfl, [], .map [], TS.begin _ _, World.ownsMap_made _ _ _ _, MPl.begin _ _, (Below.refl _ w4).alloc (Nat.le_refl _) _⟩
      case round =>
        obtain ⟨k, hk, rfl, vals, D, hts, hmp, hmi, hbr⟩ := hrel
        by_cases hkn : k < n
        · have hki : (k : Int) < (n : Int) := by omega
          have hkj : (k : Int) < (n : Int) + 1 := by omega
          obtain ⟨y1, _⟩ := own_cell (own_below hgown hbr) (gx_some (xs := gs) (v := k) (by omega))
          obtain ⟨y2, _⟩ := own_cell (own_below hv4 hbr) (gx_some (xs := xs) (v := k) (by omega))
          have y3 := (hbr.cell (p := ⟨S, 3, none⟩) hS4l).trans hS4
          obtain ⟨l0, hkey⟩ := key_some (Hgf.out k hkn) (Hwf.out k)
          have HC : Hid (∀ wx : World, Below wr.heap.size wr wx → wx.cell? ⟨gb, k, none⟩ = some (.int .i64 (gx gs k)) ∧ wx.cell? ⟨S, 3, none⟩ = some (.slice (some ⟨V1, 0, none⟩) (n + 1) c1) ∧ wx.cell? ⟨V1, k, none⟩ = some (.int .i64 (gx xs k))) := by
            have l1 := hbr.size
            have l2 := (own_lt hv4).2
            have l3 := (own_lt hgown).2
            intro wx hx
            exact ⟨(hx.cell (p := ⟨gb, k, none⟩) (show gb < _ by omega)).trans y1, (hx.cell (p := ⟨S, 3, none⟩) (show S < _ by omega)).trans y3, (hx.cell (p := ⟨V1, k, none⟩) (show V1 < _ by omega)).trans y2⟩
          clear y1 y2 y3
          go_wp2_with fail
          go_region_held3 (fun wx => wx.cell? ⟨gb, k, none⟩ = some (.int .i64 (gx gs k)) ∧ wx.cell? ⟨S, 3, none⟩ = some (.slice (some ⟨V1, 0, none⟩) (n + 1) c1) ∧ wx.cell? ⟨V1, k, none⟩ = some (.int .i64 (gx xs k)))
            (first | exact HC.out _ (Below.refl _ _) | exact HC.out _ (Below.refl _ _).drew | exact HC.out _ ((Below.refl _ _).drew.alloc (Nat.le_refl _) _) | exact HC.out _ ((Below.refl _ _).alloc (Nat.le_refl _) _) | exact HC.out _ (((Below.refl _ _).alloc (Nat.le_refl _) _).setCell (Nat.le_refl _) _) | exact HC.out _ (((Below.refl _ _).drew.alloc (Nat.le_refl _) _).setCell (Nat.le_refl _) _)) (fail)
          obtain ⟨w5, hw5⟩ : ∃ w5, w5 = (wr.alloc (.cells #[.int .i64 (gx gs k), .int .i64 (gx xs k)] 59)).drew := ⟨_, rfl⟩
          rw [← hw5]
          have hb5 : Below wr.heap.size wr w5 := by rw [hw5]; exact ((Below.refl _ wr).alloc (Nat.le_refl _) _).drew
          have z0 : w5.cell? ⟨wr.heap.size, 0, none⟩ = some (.int .i64 (gx gs k)) := by rw [hw5]; simp
          have z1 : w5.cell? ⟨wr.heap.size, 1, none⟩ = some (.int .i64 (gx xs k)) := by rw [hw5]; simp
          have hs5 : w5.heap.size = wr.heap.size + 1 := by rw [hw5]; simp
          have hts5 := hts.kc (KC.below hb5)
          have hmp5 : w5.ownsMap Try.prog 59 (plainElem Try.prog 3) w4.heap.size k D := by rw [hw5]; exact (hmp.alloc _).drew
          have hbr5 : Below w4.heap.size w4 w5 := hbr.trans (hb5.mono hbr.size)
          clear hw5 hts hmp hb5 hbr
          obtain ⟨bq, hbq⟩ : ∃ bq, Maps.has D l0 = bq := ⟨_, rfl⟩
          go_upto_if 52 with (at_lookup; refine wpList_lookup_own_ok_int _ rfl _ _ 53 rfl 59 3 .i64 keyK Try.underlying53 Try.underlying3 (Try.zeroValue3 _) w4.heap.size k D rfl hmp5 (plV (gx gs k) (gx xs k)) l0 rfl hkey ?_; intro cv hat hwc; rw [hbq])
          go_cut [9, 12] (fun q9 q12 wx => ∃ (vals' : List Value) (D' : DataW Unit) (ls : List (List Nat)) (i : Nat) (l : List Nat), q12 = .int .i64 i ∧ TS wx w4.heap.size q9 vals' ls ∧ ls[i]? = some l ∧ ls.set i (l ++ [k]) = stL (grP gs xs) (k + 1) ∧ l.length ≤ k ∧ ls.length ≤ k + 1 ∧ wx.ownsMap Try.prog 59 (plainElem Try.prog 3) w4.heap.size (k + 1) D' ∧ MPl gs xs (k + 1) D' ∧ Below w4.heap.size w4 wx)
          case first =>
            by_cases hf : fst1 (grP gs xs) k = true
            · have hh : bq = false := hbq.symm.trans (hmi.miss k l0 hkey (fst1_iff.1 hf))
              clear hbq hat hwc
              subst hh
              have hmi2 := hmi.new hkey hf
              rw [← stL_len] at hmi2
              have hset := stL_new (grP_eq gs xs) hf
              have hml : (stL (grP gs xs) k).length ≤ k := by rw [stL_len]; exact fsL_len _ _
              generalize stL (grP gs xs) k = sk at *
              obtain ⟨A9, c9, rfl⟩ := own_sl hts5.tab
              generalize hmq : sk.length = m at *
              go_upto_region 17 with (at_mapUpdate; refine wpList_mapUpdate_own _ rfl _ _ _ 53 rfl 59 3 keyK Try.underlying53 (plainElem Try.prog 3) w4.heap.size k D rfl hmp5 (by unfold maxLen; omega) (plV (gx gs k) (gx xs k)) (.int .i64 m) l0 rfl rfl hkey (.lit (.int .i64 m)) [] (plainElem_int Try.underlying3 (WalkArith.wf_i64 ⟨by omega, by omega⟩)) ?_; intro w6 hmp6 hg6)
              have hkc6 : KC w5 w6 := KC.grown hg6 (by obtain ⟨es, cl, h9, _⟩ := hmp5; exact ⟨es, cl, h9⟩)
              have hts6 := hts5.kc hkc6
              have hb6 : Below w4.heap.size w4 w6 := hbr5.grown hg6 hbr5.size (fun j hj => by cases hj; exact Nat.le_refl _)
              have hxA : Below w6.heap.size w6 (w6.alloc (.cells #[.slice none 0 0] 33)) := (Below.refl _ w6).alloc (Nat.le_refl _) _
              have hts7 := hts6.kc (KC.below hxA)
              have hb7 := hb6.trans (hxA.mono hb6.size)
              have hmp7 := hmp6.alloc (.cells #[.slice none 0 0] 33)
              have hss : (w6.alloc (.cells #[.slice none 0 0] 33)).heap.size = w6.heap.size + 1 := by simp
              have htab := hts7.tab
              rw [hmq] at htab
              have h46 := hb6.size
              go_wp2_with (at_builtin; refine wpList_append_lies _ rfl _ _ 37 rfl w4.heap.size 33 s0 (.slice none 0 0) 1 24 Try.underlying37 hs hs0 hs1 hs2 rfl (by decide) _ m vals rfl htab ⟨w6.heap.size, 0, none⟩ 1 1 [.slice none 0 0] rfl rfl newV one_slice (by decide) (by unfold maxLen; omega) (by omega) (by rw [hss]; omega) (w6.heap.size + 1) hss ?_)
              intro g cap w7 hown7 hgrow7 _ hgl7
              have hts8 := hts7.snoc hgrow7 (by rw [hmq]; exact hown7)
              have hmp8 := hmp7.kept hgrow7 (map_ne hmp7 htab)
              have hb8 := hb7.grown hgrow7 (by rw [hss]; omega) (fun j hj => (htab.lt j hj).1)
              have hi2 : (sk ++ [[]])[m]? = some ([] : List Nat) := by rw [← hmq, List.getElem?_append_right (Nat.le_refl _), Nat.sub_self]; rfl
              have hs9 : (sk ++ [[]]).set m ([] ++ [k]) = stL (grP gs xs) (k + 1) := by rw [hset, ← hmq, List.set_append_right _ _ (Nat.le_refl _)]; simp
              have Hts := Lib.hid hts8
              have Hs9 := Lib.hid hs9
              have Hi2 := Lib.hid hi2
              have hlen : (sk ++ [[]]).length ≤ k + 1 := by rw [List.length_append, List.length_singleton]; omega
              clear hts8 hs9 hi2 hts7 htab hts6 hts5 hset
              go_wp2_with fail
              go_meet
              exact ⟨_, _, _, m, [], rfl, Hts.out, Hi2.out, Hs9.out, Nat.zero_le _, hlen, hmp8.mono (by omega), hmi2, hb8⟩
            · obtain ⟨hmi2, hh, i, u, hat2, hfi, hPu⟩ := hmi.old hf hkey
              rw [hbq] at hh
              clear hbq
              subst hh
              rw [hat2] at hat
              obtain rfl : (i : Int) = cv := by injection hat with h1; injection h1 with _ h1
              go_wp2_with fail
              go_meet
              exact ⟨vals, D, _, i, _, rfl, hts5, stL_at hfi, (stL_old (grP_eq gs xs) hf hfi hPu).symm, mem1_len _ _ _, by rw [stL_len]; have := fsL_len (grP gs xs) k; omega, hmp5.mono (Nat.le_succ k), hmi2, hbr5⟩
          case rest =>
            obtain ⟨vals', D', ls, i, l, rfl, hts6, hli, hset, hlk, hlsl, hmp6, hmi6, hbr6⟩ := hcut
            have hil : i < ls.length := (List.getElem?_eq_some_iff.1 hli).1
            obtain ⟨Ag, cg, rfl⟩ := own_some hts6.tab (by omega)
            obtain ⟨x, hx⟩ : ∃ x, vals'[i]? = some x := ⟨_, List.getElem?_eq_getElem (by rw [hts6.len]; exact hil)⟩
            have hrow := hts6.row i x l hx hli
            obtain ⟨B, d, rfl⟩ := own_sl hrow
            have hii : (i : Int) < (ls.length : Int) := by omega
            have hc1 := (hts6.tab.cellAt i (by omega)).trans hx
            have hxA : Below wc.heap.size wc (wc.alloc (.cells #[.int .i64 (k : Int)] 3)) := (Below.refl _ wc).alloc (Nat.le_refl _) _
            have hts7 := hts6.kc (KC.below hxA)
            have hrow7 := own_kc hrow (KC.below hxA)
            have hb7 := hbr6.trans (hxA.mono hbr6.size)
            have hmp7 := hmp6.alloc (.cells #[.int .i64 (k : Int)] 3)
            have hss : (wc.alloc (.cells #[.int .i64 (k : Int)] 3)).heap.size = wc.heap.size + 1 := by simp
            have h46 := hbr6.size
            have Hts7 := Lib.hid hts7
            have Hset := Lib.hid hset
            have Hli := Lib.hid hli
            have Hx := Lib.hid hx
            clear hts7 hset hli hx hts6 hrow hil
            generalize hml : ls.length = m at *
            generalize hll : l.length = q at *
            go_wp2_with (at_builtin; refine wpList_append_lies _ rfl _ _ 33 rfl w4.heap.size 3 i0 (.int .i64 0) 1 8 Try.underlying33 hi hz0 hz1 hz2 rfl (by decide) _ q (int1 (castN l)) rfl hrow7 ⟨wc.heap.size, 0, none⟩ 1 1 [.int .i64 (k : Int)] rfl rfl newV newI_one (by decide) (by unfold maxLen; omega) (by omega) (by rw [hss]; omega) (wc.heap.size + 1) hss ?_)
            intro g cap w7 hown7 hgrow7 hlies hgl7
            have hmp8 := hmp7.kept hgrow7 (map_ne hmp7 hrow7)
            have hb8 := hb7.grown hgrow7 (by rw [hss]; omega) (fun j hj => (hrow7.lt j hj).1)
            have htab8 := own_grown Hts7.out.tab hgrow7 fun r hr he => by
              obtain ⟨cs1, fr1, h4⟩ := own_ty Hts7.out.tab he
              obtain ⟨cs2, fr2, h5⟩ := own_ty hrow7 hr
              rw [h4] at h5
              cases h5
            rw [hml] at htab8
            have hc8 := (htab8.cellAt i (by omega)).trans Hx.out
            have hf8 := htab8.frozenAt i
            have hput := TS.put (k := k) (g := g) (c := cap) Hts7.out Hx.out Hli.out hgrow7 rfl (by rw [hll]; exact hown7) (hlies.imp id fun e => e.trans hss.symm)
            rw [Hset.out, hll] at hput
            have Hput := Lib.hid hput
            have hAg := (own_lt htab8).1
            have Hmp9 := Lib.hid (hmp8.setCell (a := ⟨Ag, i, none⟩) (fun e => map_ne hmp8 htab8 (by rw [e]; rfl)) (.slice (some ⟨g, 0, none⟩) (q + 1) cap))
            have Hb9 := Lib.hid (hb8.setCell (show w4.heap.size ≤ (⟨Ag, i, none⟩ : Addr).block from hAg) (.slice (some ⟨g, 0, none⟩) (q + 1) cap))
            clear hput htab8 hown7 hrow7 hmp8 hmp7 hmp6 hb8 hb7
            go_wp2_with fail
            go_roundw
            case rel => exact ⟨k + 1, by omega, by go_num, _, D', Hput.out, Hmp9.out, hmi6, Hb9.out⟩
            case measure => simp [intOf]; omega
        · obtain rfl : k = n := by omega
          have hki : ¬ (k : Int) < (k : Int) := by omega
          have hE := grP_eq gs xs
          have hlen : (stL (grP gs xs) k).length ≤ k := by rw [stL_len]; exact fsL_len _ _
          have hks := hts.ks fun l hl => (stL_mem hE hl).1
          have hfl := KS.filt vals (stL (grP gs xs) k) hks fun i x l h1 h2 => by
            obtain ⟨A5, c5, rfl⟩ := own_sl (hts.row i x l h1 h2)
            rfl
          rw [stL_cls, cls_congr Heq.out] at hfl
          have hsl : Sls vals := fun x hx => by
            obtain ⟨i, hi⟩ := List.mem_iff_getElem?.1 hx
            have hil : i < (stL (grP gs xs) k).length := by rw [← hts.len]; exact (List.getElem?_eq_some_iff.1 hi).1
            have hl := List.getElem?_eq_getElem hil
            obtain ⟨A5, c5, rfl⟩ := own_sl (hts.row i x _ hi hl)
            exact ⟨_, _, _, rfl, by have := (stL_mem hE (List.mem_of_getElem? hl)).2; omega⟩
          obtain ⟨A9, c9, rfl⟩ := own_sl hts.tab
          have Hde := Lib.hid (delete_any w4.heap.size A9 _ c9 vals wr hts.tab hsl (by omega) hbr.size)
          have Hfl := Lib.hid hfl
          clear hfl hks hsl hts hmi hmp
          generalize (stL (grP gs xs) k).length = m at *
          go_wp2_with fail
          refine Hde.out.mono ?_
          rintro e w9 ⟨u, rfl, hown9, hb9, hki9⟩
          have hb19 : Below w.heap.size w w9 := hb14.trans ((hbr.trans hb9).mono hb14.size)
          have hown9' := own_more hown9 hb14.size
          go_wp2_with fail
          go_ret2
          exact ⟨hb19, .inr ⟨hg, k, rfl, .inr ⟨u, _, rfl, hown9', Hfl.out.keep hki9, Hsat.out⟩⟩⟩
    · go_wp2_with fail
      go_ret2
      exact ⟨hb13, .inr ⟨hg, n, rfl, .inl ⟨rfl, fun y hy => hno y fun e he => hy e ((HonA.out e).1 he)⟩⟩⟩
end Go.Proofs.Ytapajkfnpkekdaa

/-
  The law of 'Classes': program and reference gather the same sets.
-/
namespace Go.Proofs.Ytapajkfnpkekdaa
open Go Go.RowKit

/-- what Classes says is a pair of a slice and an error -/
theorem RClsPost.pair {v : Int} {cs : List LCn} {w : World} {e : Ending} {w' : World} (h : RClsPost v cs w e w') : ∃ A n c r, e = .returned (.tuple #[.slice A n c, .int .i64 r]) := by
  obtain ⟨_, ⟨_, rfl⟩ | ⟨_, n, _, ⟨rfl, _⟩ | ⟨u, xs, rfl, ho, _, _⟩⟩⟩ := h
  · exact ⟨_, _, _, _, rfl⟩
  · exact ⟨_, _, _, _, rfl⟩
  · obtain ⟨A, c, rfl⟩ := own_sl ho
    exact ⟨_, _, _, _, rfl⟩
/-- two that say it say the same -/
theorem RClsPost.same {v : Int} {cs : List LCn} {w w1 w2 : World} {e d : Ending} (h : RClsPost v cs w e w1) (g : RClsPost v cs w1 d w2) : ∃ u1 u2 r ls, e = .returned (.tuple #[u1, .int .i64 r]) ∧ d = .returned (.tuple #[u2, .int .i64 r]) ∧ LL w2 u1 ls ∧ LL w2 u2 ls ∧ (∀ l ∈ ls, l.length ≤ 1000000) ∧ ls.length ≤ 1000000 := by
  have hbl := g.1
  obtain ⟨_, ⟨h0, rfl⟩ | ⟨h0, n, rfl, ⟨rfl, hno⟩ | ⟨u, xs, rfl, ho, hk, y, hy⟩⟩⟩ := h
  · obtain ⟨_, ⟨_, rfl⟩ | ⟨g0, _⟩⟩ := g
    · exact ⟨_, _, _, [], rfl, rfl, LL.nil _, LL.nil _, (fun l hl => by cases hl), (by simp)⟩
    · rw [h0] at g0; cases g0
  · obtain ⟨_, ⟨g0, _⟩ | ⟨_, m, hm, ⟨rfl, _⟩ | ⟨_, _, _, _, _, y, hy⟩⟩⟩ := g
    · rw [h0] at g0; cases g0
    · exact ⟨_, _, _, [], rfl, rfl, LL.nil _, LL.nil _, (fun l hl => by cases hl), (by simp)⟩
    · obtain rfl : n = m := by omega
      exact absurd hy (hno y)
  · obtain ⟨_, ⟨g0, _⟩ | ⟨_, m, hm, ⟨_, hno⟩ | ⟨u2, xs2, rfl, ho2, hk2, _⟩⟩⟩ := g
    · rw [h0] at g0; cases g0
    · obtain rfl : n = m := by omega
      exact absurd hy (hno y)
    · obtain rfl : n = m := by omega
      obtain ⟨n', hn', hn2, _⟩ := gvld_parts h0
      obtain rfl : n = n' := by omega
      refine ⟨_, _, _, _, rfl, rfl, (LL.of_own ho hk).below hbl, LL.of_own ho2 hk2, fun l hl => ?_, ?_⟩
      · unfold cls at hl
        obtain ⟨u, _, rfl⟩ := List.mem_map.1 hl
        have := mem1_len (eqN (esA n cs)) u n
        omega
      · have := cls_len (eqN (esA n cs)) n n
        omega

end Go.Proofs.Ytapajkfnpkekdaa
