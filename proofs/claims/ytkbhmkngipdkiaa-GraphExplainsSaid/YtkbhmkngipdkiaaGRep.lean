/-
  slices.Repeat of one number: a row of one's own with that number everywhere.
-/
import Derived.Test.YtkbhmkngipdkiaaGSpr
import Derived.Test.YtkbhmkngipdkiaaShelf4
import Derived.Shelf.Bits.Mul64
import Derived.Laws.CopyOwn
import Derived.Laws.CopyRow
namespace Go.Proofs.Ytkbhmkngipdkiaa
open Go Go.RowKit Go.Shelf

theorem mulOne_any (m : Nat) (w : World) (hm : m ≤ 100000) :
    Calls Try.prog 70 #[.int .u64 1, .int .u64 m] w fun e w' => e = .returned (.tuple #[.int .u64 0, .int .u64 m]) ∧ w' = w := by
  have h := Any.bits_Mul Try.layMul 1 m (by omega) (by omega) w
  rw [Nat.one_mul, Nat.div_eq_of_lt (show m < 18446744073709551616 by omega), Nat.mod_eq_of_lt (show m < 18446744073709551616 by omega)] at h
  exact h

/-- a row that is full is its block -/
theorem own_block {w : World} {base g m : Nat} {e : TypeId} {l : List Int} (h : w.ownsRow base e 1 (.slice (some ⟨g, 0, none⟩) m m) m (int1 l)) : w.heap[g]? = some (.cells (int1 l).toArray e (0, 0)) := by
  rcases h.2 with ⟨h1, _⟩ | ⟨g', cap, cur, h1, _, h2, _, _, h3, h4⟩
  · cases h1
  · cases h1
    have : cur = (int1 l).toArray := by
      have e1 : cur.toList.take (m * 1) = int1 l := h4
      rw [List.take_of_length_le (by simp; omega)] at e1
      rw [← e1]
    rw [← this]; exact h2
theorem block_own {w : World} {base g m : Nat} {e : TypeId} {l : List Int} (h : w.heap[g]? = some (.cells (int1 l).toArray e (0, 0))) (hl : l.length = m) (hb : base ≤ g) (hm : m ≤ 100000) : w.ownsRow base e 1 (.slice (some ⟨g, 0, none⟩) m m) m (int1 l) := by
  refine ⟨by rw [int1_len]; omega, .inr ⟨g, m, _, rfl, hb, h, Nat.le_refl _, by unfold maxLen; omega, by simp [int1_len, hl], ?_⟩⟩
  rw [List.take_of_length_le (by simp [int1_len, hl])]
/-- the first k numbers are written -/
def repL (m k : Nat) (z : Int) : List Int := List.replicate k z ++ List.replicate (m - k) 0
theorem repL_len {m k : Nat} {z : Int} (h : k ≤ m) : (repL m k z).length = m := by simp [repL]; omega
theorem repL_next {m k c : Nat} {z : Int} : (int1 (repL m k z)).take k ++ (int1 (List.replicate c z) ++ (int1 (repL m k z)).drop (k + c)) = int1 (repL m (k + c) z) := by
  unfold int1 repL
  rw [← List.map_take, ← List.map_drop, ← List.map_append, ← List.map_append]
  congr 1
  rw [List.take_left' (by simp), List.drop_append]
  simp only [List.length_replicate, List.drop_replicate]
  rw [show k - (k + c) = 0 by omega, show k + c - k = c by omega, List.replicate_zero, List.nil_append, ← List.append_assoc, List.replicate_append_replicate]
  rw [show m - k - c = m - (k + c) by omega]
theorem copied_at {m k : Nat} {z : Int} {w : World} {g : Nat} {e : TypeId} (h : w.heap[g]? = some (.cells (int1 (repL m k z)).toArray e (0, 0))) {c : Nat} (hc : c ≤ k) : ∀ j v, (int1 (List.replicate c z))[j]? = some v → w.cell? ((⟨g, 0, none⟩ : Addr).add j) = some v := by
  intro j v hj
  have hjc : j < c := by have := (List.getElem?_eq_some_iff.1 hj).1; simpa [int1] using this
  have hv : v = .int .i64 z := by simp [int1, hjc] at hj; exact hj.symm
  subst hv
  rw [Addr.add_lit, Nat.zero_add]
  simp [World.cell?, h, int1, repL, List.getElem?_append, show j < k by omega]
theorem repL_set {w : World} {g m k c : Nat} {z : Int} {e : TypeId} (h : w.heap[g]? = some (.cells (int1 (repL m k z)).toArray e (0, 0))) (_ : k + c ≤ m) :
    (w.setRow g (((int1 (repL m k z)).toArray.toList.take k) ++ (int1 (List.replicate c z) ++ (int1 (repL m k z)).toArray.toList.drop (k + (int1 (List.replicate c z)).length))).toArray).heap[g]? = some (.cells (int1 (repL m (k + c) z)).toArray e (0, 0)) := by
  rw [setRow_heap w g _ _ e (0, 0) h]
  congr 2
  rw [← repL_next]
  simp [int1]
theorem one_ints (l : List Int) : ∀ v ∈ int1 l, v.oneCell' = true := fun v hv => by
  obtain ⟨x, _, rfl⟩ := List.mem_map.1 hv
  rfl

theorem rep_cur {m k c : Nat} {z : Int} {w : World} {g : Nat} (hgc : w.heap[g]? = some (.cells (int1 (repL m k z)).toArray 3 (0, 0))) (hkc : k + c ≤ m) : ∀ W, W = w.setRow g (((int1 (repL m k z)).toArray.toList.take k) ++ (int1 (List.replicate c z) ++ (int1 (repL m k z)).toArray.toList.drop (k + (int1 (List.replicate c z)).length))).toArray →
    W.heap[g]? = some (.cells (int1 (repL m (k + c) z)).toArray 3 (0, 0)) ∧ ∀ B, B ≤ g → Below B w W := fun W hW => by
  subst hW
  exact ⟨repL_set hgc hkc, fun B hB => below_setRow (Below.refl _ _) hB _⟩
theorem sizeI : (Try.prog.info? 3).map (·.size) = some 1 := by
  obtain ⟨i0, hi, _, hz1, _⟩ := info_parts infoI
  rw [hi]; exact congrArg some hz1
theorem wpList_copy_rep {ops : Array Oper} {rest : List Oper} {o : Oper} {a : Act} {w : World} {Q : Exit → Act → World → Prop} (hgd : o.guard = none) (d s : Operand) (ho : o.op = .call { callee := .builtin .copy, args := #[d, s], argTypes := #[25, 25] })
    (g m k c dLen dCap : Nat) (ad : Addr) (sLen sCap : Nat) (z : Int) (hd : a.eval d = .slice (some ⟨g, k, none⟩) dLen dCap) (hs : a.eval s = .slice (some ad) sLen sCap) (hgc : w.heap[g]? = some (.cells (int1 (repL m k z)).toArray 3 (0, 0)))
    (hc : c = Nat.min sLen dLen) (hkc : k + c ≤ m) (hsrc : ∀ j v, (int1 (List.replicate c z))[j]? = some v → w.cell? (ad.add j) = some v)
    (h : ∀ W, W.heap[g]? = some (.cells (int1 (repL m (k + c) z)).toArray 3 (0, 0)) → (∀ B, B ≤ g → Below B w W) → wpList Try.prog ops Q rest (a.put o.dst (.int .i64 c)) W) : wpList Try.prog ops Q (o :: rest) a w := by
  refine wpList_copy_own hgd d s 25 25 ho 3 Try.underlying25 sizeI g k dLen dCap ad sLen sCap hd hs _ 3 hgc (int1 (List.replicate c z)) (by rw [int1_len, List.length_replicate]; exact hc) hsrc (by rw [int1_len, List.length_replicate, List.size_toArray, int1_len, repL_len (by omega)]; exact hkc) (one_ints _) ?_
  obtain ⟨h1, h2⟩ := rep_cur hgc hkc _ rfl
  have h3 := h _ h1 h2
  have hgi : goInt (int1 (List.replicate c z)).length = .int .i64 c := by rw [int1_len, List.length_replicate]; rfl
  rw [hgi]
  exact h3
theorem step_copy_rep {ops : Array Oper} {o : Oper} {a : Act} {w : World} {K : Act → World → Prop} {Q : Exit → Act → World → Prop} {E : Prop} (hgd : o.guard = none) (td : Tmp) (hdst : o.dst = some td) (d s : Operand) (ho : o.op = .call { callee := .builtin .copy, args := #[d, s], argTypes := #[25, 25] })
    (g m k c dLen dCap : Nat) (ad : Addr) (sLen sCap : Nat) (z : Int) (hd : a.eval d = .slice (some ⟨g, k, none⟩) dLen dCap) (hs : a.eval s = .slice (some ad) sLen sCap) (hgc : w.heap[g]? = some (.cells (int1 (repL m k z)).toArray 3 (0, 0)))
    (hc : c = Nat.min sLen dLen) (hkc : k + c ≤ m) (hsrc : ∀ j v, (int1 (List.replicate c z))[j]? = some v → w.cell? (ad.add j) = some v)
    (hK : ∀ W, W.heap[g]? = some (.cells (int1 (repL m (k + c) z)).toArray 3 (0, 0)) → (∀ B, B ≤ g → Below B w W) → K (a.put (some td) (.int .i64 c)) W) :
    if Region.wanted o (yielded ops a.tmps) = true then Oper.wp Try.prog o a w K Q else E := by
  have hw : Region.wanted o (yielded ops a.tmps) = true := by simp [Region.wanted, hgd]
  rw [if_pos hw]
  have hrun := run_copy_row (P := Try.prog) w 25 25 o.type 3 g k dLen dCap ad sLen sCap _ 3 (int1 (List.replicate c z)) Try.underlying25 sizeI hgc (by rw [int1_len, List.length_replicate]; exact hc) hsrc (by rw [int1_len, List.length_replicate, List.size_toArray, int1_len, repL_len (by omega)]; exact hkc) (one_ints _)
  obtain ⟨h1, h2⟩ := rep_cur hgc hkc _ rfl
  have h3 := hK _ h1 h2
  rw [← hdst] at h3
  obtain ⟨W, hW, hrun2⟩ : ∃ W, K (a.put o.dst (.int .i64 c)) W ∧ (Builtin.copy_ #[25, 25] o.type #[.slice (some ⟨g, k, none⟩) dLen dCap, .slice (some ad) sLen sCap]).run Try.prog w = .ok (.int .i64 c) W := ⟨_, h3, by
    rw [hrun, List.append_assoc, int1_len, List.length_replicate]; rfl⟩
  clear h3 h1 h2 hrun
  unfold Oper.wp
  simp [execOp, ho, resolve, invoke, builtin, hd, hs, hrun2, Result.andThen]
  exact hW

set_option maxRecDepth 100000 in
set_option maxHeartbeats 4000000 in
theorem repeat_any (q m : Nat) (z : Int) (w : World) (hq : q < w.heap.size) (hz : w.cell? ⟨q, 0, none⟩ = some (.int .i64 z)) (h0 : 0 < m) (hm : m ≤ 2000) :
    Calls Try.prog 48 #[.slice (some ⟨q, 0, none⟩) 1 1, .int .i64 m] w fun e w' => ∃ g, e = .returned (.slice (some ⟨g, 0, none⟩) m m) ∧ w'.ownsRow w.heap.size 3 1 (.slice (some ⟨g, 0, none⟩) m m) m (int1 (List.replicate m z)) ∧ Below w.heap.size w w' := by
  obtain ⟨i0, hi, hz0, hz1, hz2⟩ := info_parts infoI
  have hM := Lib.hid (mulOne_any m w (by omega))
  go_enter Try.func48, Try.ntmps48
  go_wp2_with fail
  refine hM.out.mono ?_
  rintro e w1 ⟨rfl, rfl⟩
  go_wp2_with (refine wpList_make_full _ rfl _ _ 25 rfl w1.heap.size 3 i0 (.int .i64 0) 1 Try.underlying25 hi hz0 hz1 .i64 .i64 m m m rfl rfl rfl rfl (by rw [hz2]; omega) (by unfold maxLen; omega) (Nat.le_refl _) ?_)
  intro w2 hown2 hgrow2
  have hb2 : Below w1.heap.size w1 w2 := (Below.refl _ w1).grown hgrow2 (Nat.le_refl _) (fun j hj => by cases hj)
  have hmade : (madeCells #[Value.int .i64 0] m).toList = int1 (repL m 0 z) := by
    refine List.ext_getElem? fun j => ?_
    by_cases hj : j < m
    · simp [madeCells, int1, repL, hj, Nat.mod_one]
    · rw [List.getElem?_eq_none (by simp [madeCells]; omega), List.getElem?_eq_none (by rw [int1_len, repL_len (by omega)]; omega)]
  rw [hmade] at hown2
  have hg2 := own_block hown2
  have hsz2 : w1.heap.size < w2.heap.size := (own_lt hown2).2
  generalize hgg : w1.heap.size = g at hown2 hg2 hsz2 ⊢
  clear hown2 hgrow2 hmade
  have hz2 : ∀ j v, (int1 (List.replicate 1 z))[j]? = some v → w2.cell? ((⟨q, 0, none⟩ : Addr).add j) = some v := by
    intro j v hj
    have hj0 : j = 0 := by have := (List.getElem?_eq_some_iff.1 hj).1; simp [int1] at this; omega
    subst hj0
    simp [int1] at hj
    subst hj
    exact (hb2.cell (p := ⟨q, 0, none⟩) hq).trans hz
  go_wp2_with (refine wpList_copy_rep rfl _ _ rfl g m 0 1 m m ⟨q, 0, none⟩ 1 1 z rfl rfl hg2 (Nat.min_eq_left h0).symm (by omega) hz2 ?_)
  intro W3 hset hB3
  have hb3 := hb2.trans (hB3 _ (Nat.le_of_eq hgg))
  clear hB3 hb2 hg2 hsz2 hz2
  go_wp2_with fail
  go_loopw [8] (fun t wr => ∃ k : Nat, 1 ≤ k ∧ k ≤ m ∧ t = .int .i64 k ∧ wr.heap[g]? = some (.cells (int1 (repL m k z)).toArray 3 (0, 0)) ∧ Below w1.heap.size w1 wr) (fun t _ => m - (intOf t).toNat)
  case atStart => exact ⟨1, Nat.le_refl _, h0, rfl, hset, hb3⟩
  case round =>
    clear hset hb3
    obtain ⟨k, hk0, hk, rfl, hg, hb⟩ := hrel
    by_cases hkm : k < m
    · have hki : (k : Int) < (m : Int) := by omega
      obtain ⟨c, hc⟩ : ∃ c, c = Nat.min k (m - k) := ⟨_, rfl⟩
      have hc1 : c ≤ k := by rw [hc]; exact Nat.min_le_left _ _
      have hc2 : k + c ≤ m := by have : c ≤ m - k := by rw [hc]; exact Nat.min_le_right _ _
                                 omega
      have hc0 : 0 < c := by rw [hc]; exact Nat.lt_min.2 ⟨hk0, by omega⟩
      have hcp := copied_at hg hc1
      have Hc := Lib.hid hc
      clear hc
      have hk1 : k ≤ m := hk
      have hmk : ¬ m = k := by omega
      have hwr : IntKind.i64.wrap ((k : Int) + (c : Int)) = ((k + c : Nat) : Int) := by rw [IntKind.wrap_i64]; omega
      go_wp2_with fail
      go_region_law (refine step_copy_rep rfl 45 rfl _ _ rfl g m k c (m - k) (m - k) ⟨g, 0, none⟩ k m z (by simp [Act.eval, Act.put]) (by simp [Act.eval, Act.put]) hg Hc.out hc2 hcp ?_; intro W4 hg4 hB4)
      all_goals
        have hb4 := hb.drew.trans (hB4 _ (Nat.le_of_eq hgg))
        simp [Act.put]
        go_wp2_with fail
        go_roundw
        case rel => exact ⟨k + c, by omega, hc2, by go_num, hg4, hb4⟩
        case measure => simp [intOf]; omega
    · obtain rfl : m = k := by omega
      have hki : ¬ (m : Int) < (m : Int) := by omega
      have hr : repL m m z = List.replicate m z := by simp [repL]
      rw [hr] at hg
      subst hgg
      go_wp2_with fail
      go_ret
      exact ⟨_, rfl, block_own hg (by simp) (Nat.le_refl _) (by omega), hb⟩
end Go.Proofs.Ytkbhmkngipdkiaa
