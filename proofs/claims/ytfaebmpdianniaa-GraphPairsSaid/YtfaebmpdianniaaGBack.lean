/-
  slices.Backward at []int: its iterator's contract; a row that is filled; tables of rows as rows of nodes.
-/
import Derived.Test.YtfaebmpdianniaaGRowW
import Derived.RangeFuncFrom
import Derived.RangeFuncLeaves
import Derived.Shelf.Abstract
import Derived.WalkKit
import Derived.OwnWalkIn
import Derived.TacticsInMore
import Derived.LoopNIn
import Derived.LoopIn
import Derived.Lib.SliceRun
namespace Go.Proofs.Ytfaebmpdianniaa
open Go Go.RowKit Go.Shelf

attribute [local go_sem] Oper.semAt_some

/-- some blocks lie as they lay -/
def KeepsB (bs : List Nat) (W W' : World) : Prop := ∀ b ∈ bs, W'.heap[b]? = W.heap[b]?
theorem KeepsB.refl (bs : List Nat) (W : World) : KeepsB bs W W := fun _ _ => rfl
theorem KeepsB.trans {bs : List Nat} {A B C : World} (h : KeepsB bs A B) (k : KeepsB bs B C) : KeepsB bs A C := fun b hb => (k b hb).trans (h b hb)
theorem KeepsB.cell {bs : List Nat} {W W' : World} (h : KeepsB bs W W') {b : Nat} (hb : b ∈ bs) (i : Nat) : W'.cell? ⟨b, i, none⟩ = W.cell? ⟨b, i, none⟩ := World.cell?_of_block (h b hb)
theorem keepsB_b {bs : List Nat} {n : Nat} (hn : ∀ b ∈ bs, b < n) (W : World) (l : Nat) (o o' : Obj) (hl : n ≤ l) (_ : W.heap[l]? = some o) (_ : o.isCells = false) (_ : o.isWalk = false) : KeepsB bs W (W.putObj l o') := fun b hb => World.putObj_heap_other (by have := hn b hb; omega)

/-- what has come when k rounds are over -/
def upF {α : Type} (F : Nat → α) (k : Nat) : List α := (List.range k).map F
theorem upF_len {α : Type} (F : Nat → α) (k : Nat) : (upF F k).length = k := by simp [upF]
theorem upF_snoc {α : Type} (F : Nat → α) (k : Nat) : upF F (k + 1) = upF F k ++ [F k] := by simp [upF, List.range_succ]

set_option maxRecDepth 100000 in
set_option maxHeartbeats 2000000 in
theorem backward1_in {α : Type} (enc : α → Array Value) (F : Nat → α) (n : Nat) (hn : 1 ≤ n) (l Bs b off cap : Nat) (zs : List Int) (hreach : zs.length ≤ 100000) (hF : ∀ m, m < zs.length → enc (F (zs.length - (m + 1))) = #[.int .i64 (m : Int), .int .i64 (zs.getD m 0)]) (J Jx : List α → World → Prop)
    (hY : ∀ pre x W, J pre W → pre.length < zs.length → YieldAt Fence.wide (n - 1) Try.prog l (enc x) W fun e W' =>
      (e = .returned (.bool true) ∧ J (pre ++ [x]) W' ∧ KeepsB [Bs, b] W W') ∨ (e = .returned (.bool false) ∧ Jx (pre ++ [x]) W'))
    (W : World) (hBs : W.cell? ⟨Bs, 0, none⟩ = some (.slice (some ⟨b, off, none⟩) zs.length cap)) (hc : ∀ j, j < zs.length → W.cell? ⟨b, off + j, none⟩ = some (.int .i64 (zs.getD j 0))) (h0 : J [] W) :
    CallsIn Fence.wide n Try.prog 61 #[.func (.yield l) #[] #[], .pointer (some ⟨Bs, 0, none⟩)] W fun e W' => (∃ v, e = .returned v) ∧
      ((∃ ys, ys = upF F zs.length ∧ J ys W') ∨ (∃ pre, (∃ k, k ≤ zs.length ∧ pre = upF F k) ∧ Jx pre W')) := by
  refine callsIn_of_wp Try.func61 rfl trivial ?_ rfl
  simp only [Try.ntmps61, List.size_toArray, List.length_cons, List.length_nil, Nat.reduceAdd, Nat.reduceSub, Array.replicate_succ, Array.replicate_zero, List.push_toArray, List.append_toArray, List.nil_append, List.cons_append]
  obtain ⟨len, hlen⟩ : ∃ len, len = zs.length := ⟨_, rfl⟩
  rw [← hlen] at hBs hY hc hreach hF ⊢
  clear hlen
  have w1 : IntKind.i64.wrap ((len : Int) - 1) = (len : Int) - 1 := by rw [IntKind.wrap_i64]; omega
  gi_wp2
  gi_loopw [3] (fun i wr => ∃ m : Nat, m ≤ len ∧ i = .int .i64 ((m : Int) - 1) ∧ J (upF F (len - m)) wr ∧ KeepsB [Bs, b] W wr)
    (fun i _ => (intOf i + 1).toNat)
  case atStart => exact ⟨len, Nat.le_refl _, rfl, by rw [Nat.sub_self]; exact h0, KeepsB.refl _ _⟩
  case round =>
    obtain ⟨m, hm, rfl, hJs, hnx⟩ := hrel
    have hbs := (hnx.cell (b := Bs) (by simp) 0).trans hBs
    cases m with
    | zero =>
      have hneg : ¬ (0 : Int) ≤ -1 := by omega
      rw [Nat.sub_zero] at hJs
      gi_wp2
      go_end0
      first | exact ⟨⟨_, rfl⟩, .inl hJs⟩ | exact ⟨⟨_, rfl⟩, .inl ⟨_, rfl, hJs⟩⟩
    | succ m =>
      have hcx := (hnx.cell (b := b) (by simp) (off + m)).trans (hc m (by omega))
      have Hst : Hid (upF F (len - m) = upF F (len - (m + 1)) ++ [F (len - (m + 1))]) := by
        rw [Hid, ← upF_snoc]
        congr 1
        omega
      obtain ⟨fn, tmps, assign, body, hy, hR⟩ := hY _ (F (len - (m + 1))) wr hJs (by rw [upF_len]; omega)
      rw [hF m (by omega)] at hy
      generalize hz : zs.getD m 0 = z at *
      have hml : (m : Int) < (len : Int) := by omega
      have e1 : ((m + 1 : Nat) : Int) - 1 = (m : Int) := by omega
      have w2 : IntKind.i64.wrap ((m : Int) - 1) = (m : Int) - 1 := by rw [IntKind.wrap_i64]; omega
      rw [e1]
      clear hz
      gi_wp2
      refine hR.mono ?_
      rintro e W3 (⟨rfl, hJ3, hk3⟩ | ⟨rfl, hJx3⟩)
      · gi_wp2
        go_roundw
        case rel => exact ⟨m, by omega, rfl, by rw [Hst.out]; exact hJ3, hnx.trans hk3⟩
        case measure => simp [intOf] <;> omega
      · gi_wp2
        refine bodyPost_ret (results_none rfl _ _ _) rfl ?_
        exact ⟨⟨_, rfl⟩, .inr ⟨_, ⟨len - m, by omega, Hst.out.symm⟩, hJx3⟩⟩

set_option maxHeartbeats 1000000 in
/-- slices.Backward boxes the slice; the function value captures the box. -/
theorem backward_any (a : Option Addr) (len cap : Nat) (w : World) :
    Calls Try.prog 45 #[.slice a len cap] w fun e w' => e = .returned (.func (.func 61) #[] #[.pointer (some ⟨w.heap.size, 0, none⟩)]) ∧ w' = w.alloc (.cells #[.slice a len cap] 42) := by
  go_enter Try.func45, Try.ntmps45
  go_wp2_with fail
  go_ret
  exact ⟨rfl, rfl⟩
theorem back_stops {α : Type} (enc : α → Array Value) (F : Nat → α) (n : Nat) (hn : 1 ≤ n) (Bs b off cap : Nat) (zs : List Int) (hreach : zs.length ≤ 100000) (hF : ∀ m, m < zs.length → enc (F (zs.length - (m + 1))) = #[.int .i64 (m : Int), .int .i64 (zs.getD m 0)]) (w : World) (hBs : Bs < w.heap.size) (hb : b < w.heap.size)
    (hc : w.cell? ⟨Bs, 0, none⟩ = some (.slice (some ⟨b, off, none⟩) zs.length cap)) (hz : ∀ j, j < zs.length → w.cell? ⟨b, off + j, none⟩ = some (.int .i64 (zs.getD j 0))) :
    SeqStopsK Fence.wide n Try.prog 61 #[.pointer (some ⟨Bs, 0, none⟩)] enc (KeepsB [Bs, b]) (fun ys => ys = upF F zs.length) (fun pre => ∃ k, k ≤ zs.length ∧ pre = upF F k) zs.length w := fun l J Jx W hW _ _ hY h0 =>
  backward1_in enc F n hn l Bs b off cap zs hreach hF J Jx hY W ((hW.cell (p := ⟨Bs, 0, none⟩) hBs).trans hc) (fun j hj => (hW.cell (p := ⟨b, off + j, none⟩) hb).trans (hz j hj)) h0

/-- a row is filled with one value -/
theorem own_fill {base g n cap : Nat} {e : TypeId} (z : Value) : ∀ (m k : Nat) (w : World) (xs : List Value), k + m ≤ n → w.ownsRow base e 1 (.slice (some ⟨g, 0, none⟩) n cap) n xs → (w.setCells g k (List.replicate m z)).ownsRow base e 1 (.slice (some ⟨g, 0, none⟩) n cap) n (xs.take k ++ List.replicate m z ++ xs.drop (k + m))
  | 0, k, w, xs, _, h => by
    show w.ownsRow _ _ _ _ _ _
    rw [List.replicate_zero, List.append_nil, Nat.add_zero, List.take_append_drop]
    exact h
  | m + 1, k, w, xs, hk, h => by
    have hl : xs.length = n := by have := h.1; omega
    have h1 := own_fill z m (k + 1) _ _ (by omega) ((h.stored k z).1)
    rw [List.replicate_succ]
    show ((w.setCell ⟨g, k, none⟩ z).setCells g (k + 1) (List.replicate m z)).ownsRow _ _ _ _ _ _
    have e1 : (xs.set k z).take (k + 1) ++ List.replicate m z ++ (xs.set k z).drop (k + 1 + m) = xs.take k ++ (z :: List.replicate m z) ++ xs.drop (k + (m + 1)) := by
      rw [List.take_succ_eq_append_getElem (by simp; omega), List.take_set_of_le (by omega), List.getElem_set_self, List.drop_set_of_lt (by omega)]
      simp only [List.append_assoc, List.cons_append, List.nil_append]
      rw [show k + 1 + m = k + (m + 1) by omega]
    rw [e1] at h1
    exact h1
theorem own_clear {w : World} {base g n cap : Nat} {e : TypeId} {sl : List Bool} (h : w.ownsRow base e 1 (.slice (some ⟨g, 0, none⟩) n cap) n (bool1 sl)) : (w.setCells g 0 (List.replicate n (.bool false))).ownsRow base e 1 (.slice (some ⟨g, 0, none⟩) n cap) n (bool1 (List.replicate n false)) := by
  have h1 := own_fill (.bool false) n 0 w _ (by omega) h
  have hl : (bool1 sl).length = n := by have := h.1; omega
  rw [List.take_zero, List.nil_append, Nat.zero_add, List.drop_of_length_le (by omega), List.append_nil] at h1
  have e2 : bool1 (List.replicate n false) = List.replicate n (.bool false) := by simp [bool1]
  rw [e2]
  exact h1
/-- a table of rows as the rows of nodes that a walk reads -/
theorem RR.of_rw {w w' : World} {B N base Q : Nat} {G : Bool → Nat} {val : Bool → Nat → Value} {ls : Bool → Nat → List Nat} (h : RW w B G N val ls) (hb : Below w.heap.size w w') (b : Bool) (hlt : ∀ v, v < N → ∀ x ∈ ls b v, x < N) (hlen : ∀ v, v < N → (ls b v).length ≤ 100000) (hQ : w.heap.size ≤ Q) (hbase : w.heap.size ≤ base) : RR w' base Q (G b) N (ls b) where
  row := fun v hv => by
    obtain ⟨c0, _⟩ := h.cell b hv
    have hlt2 := (h.own b v hv).lt
    obtain ⟨A, c, he, hI⟩ := il_own (h.own b v hv)
    rw [he] at c0 hlt2
    refine ⟨A, _, c, (hb.cell (p := ⟨G b, v, none⟩) (h.lt b).2).trans c0, (hI.below hb).more hbase, hlen v hv, fun b' off e hq => ?_⟩
    have := (hlt2 b' (by rw [e]; rfl)).2
    omega
  lt := hlt
  g := ⟨by have := (h.lt b).2; omega, by have := (h.lt b).2; omega⟩
end Go.Proofs.Ytfaebmpdianniaa
