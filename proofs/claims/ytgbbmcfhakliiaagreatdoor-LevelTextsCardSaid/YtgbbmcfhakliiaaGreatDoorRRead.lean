/-
  'Read' of the reference, at any place of any text ('read_any').
-/
import Derived.Test.YtgbbmcfhakliiaaGreatDoorRPart
import Derived.Lib.Bytes2
namespace Go.Proofs.YtgbbmcfhakliiaaGreatDoor
open Go Go.RowKit

theorem heap2 (w : World) (o0 o1 : Obj) : ((w.alloc o0).alloc o1).heap[w.heap.size]? = some o0 ∧ ((w.alloc o0).alloc o1).heap[w.heap.size + 1]? = some o1 := by
  constructor
  · show ((w.heap.push o0).push o1)[w.heap.size]? = some o0
    rw [Array.getElem?_push_lt (by simp), Array.getElem_push_eq]
  · show ((w.heap.push o0).push o1)[w.heap.size + 1]? = some o1
    rw [Array.getElem?_push]
    simp
theorem pre_max {s : ByteArray} {a : Nat} (_h : a + 4 ≤ s.size) : ((s.extract a (a + 4)).toList == [109, 97, 120, 40]) = Lib.hasPrefix (s.data.toList.drop a) [109, 97, 120, 40] := by
  have hl : s.data.toList.length = s.size := (Lib.size_eq s).symm
  rw [← Lib.hasPrefix_of_take, decide_eq_true (by simp [hl]; omega), Bool.true_and]
  congr 1
  rw [ByteArray.toList_eq]
  simp
theorem own_none {w : World} {B : Nat} {e : TypeId} : w.ownsRow B e 2 (.slice none 0 0) ([] : List (Int × Int)).length (flat2 []) := ⟨rfl, .inl ⟨rfl, rfl⟩⟩

set_option maxRecDepth 100000 in
set_option maxHeartbeats 1000000 in
theorem read_part (s : ByteArray) (a : Nat) (w : World) (hs : s.size ≤ 1000000) (ha : a ≤ s.size) (hpre : Lib.hasPrefix (s.data.toList.drop a) [109, 97, 120, 40] = false) :
    Calls Tryz.prog 24 #[.string s, .int .i64 a] w fun e w' => ∃ (k : Nat) (c : Int) (l : List (Int × Int)) (A : Option Addr) (n cap : Nat), k ≤ s.size ∧
      e = .returned (.tuple #[.agg #[.int .i64 c, .slice A n cap], .int .i64 k, .bool (readR (s.data.toList.drop a)).isSome]) ∧ w'.ownsRow (w.heap.size + 2) 45 2 (.slice A n cap) l.length (flat2 l) ∧ Below w.heap.size w w' ∧ (∀ x, readR (s.data.toList.drop a) = some x → x = ((c, l), s.data.toList.drop k)) := by
  have hsz : s.size ≤ 9223372036854775807 := by omega
  have hne : w.heap.size ≠ w.heap.size + 1 := by omega
  obtain ⟨R, hR⟩ : ∃ R, partR 0 [] (s.data.toList.drop a) = R := ⟨_, rfl⟩
  have hrd : Hid (readR (s.data.toList.drop a) = if R.2.2 = true then some (R.1, R.2.1) else none) := by
    rw [Hid, readR, if_neg (by rw [hpre]; decide), hR]
  have hp := part_any s a 0 none 0 0 [] (w.heap.size + 2) ((w.alloc (.cells #[.int .i64 0, .slice none 0 0] 24)).alloc (.cells #[.int .i64 0, .slice none 0 0] 24)) hs (by simp) own_none (by simp) R hR ha
  have Hp := Lib.hid hp
  clear hp hR
  by_cases h4 : s.size < a + 4
  · clear hpre
    go_enter Tryz.func24, Tryz.ntmps24
    go_wp2_with fail
    refine Hp.out.mono ?_
    rintro e w1 ⟨k, A', n', cap', hk1, hk2, hk3, rfl, hown, hb⟩
    have HK := Lib.hid hk3
    clear hk3
    obtain ⟨⟨q0, q1, q2, q3⟩, q4, q5⟩ := box2 (hb.mono (by omega))
    have y2 : w1.frozen? ⟨w.heap.size, 0, none⟩ = false := by rw [hb.frozen (p := ⟨w.heap.size, 0, none⟩) (by simp)]; exact frozen_far (heap2 w _ _).1
    have y3 : w1.frozen? ⟨w.heap.size, 1, none⟩ = false := by rw [hb.frozen (p := ⟨w.heap.size, 1, none⟩) (by simp)]; exact frozen_far (heap2 w _ _).1
    go_wp2_with fail
    have e0 := World.cell?_setCell_same w1 ⟨w.heap.size, 0, none⟩ (.int .i64 R.1.1) q0
    have e1 := World.cell?_setCell_same (w1.setCell ⟨w.heap.size, 0, none⟩ (.int .i64 R.1.1)) ⟨w.heap.size, 1, none⟩ (.slice A' n' cap') (keep_off (by decide) q1)
    refine bodyPost_ret (v := .tuple #[.agg #[.int .i64 R.1.1, .slice A' n' cap'], .int .i64 k, .bool R.2.2]) (by simp [results, Tryz.results24, go_sem, keep_off (show (1 : Nat) ≠ 0 by decide) e0, e1]) rfl ?_
    refine ⟨k, R.1.1, R.1.2, A', n', cap', hk2, ?_, ?_, (q5.setCell (Nat.le_refl _) _).setCell (Nat.le_refl _) _, ?_⟩
    · rw [hrd.out]; cases R.2.2 <;> rfl
    · exact ownsRow_setCell_below (a := ⟨w.heap.size, 1, none⟩) (ownsRow_setCell_below (a := ⟨w.heap.size, 0, none⟩) hown (by show w.heap.size < _; omega) _) (by show w.heap.size < _; omega) _
    · intro x hx
      rw [hrd.out] at hx
      split at hx
      · rw [← HK.out]; exact (Option.some.inj hx).symm
      · cases hx
  · have h5 : (a : Int) + 4 ≤ s.size := by omega
    have h6 : ¬ ((s.size : Int) < (a : Int) + 4) := by omega
    have h7 : (a : Int) ≤ (a : Int) + 4 := by omega
    have h8 : (0 : Int) ≤ (a : Int) := by omega
    have h9 : ((a : Int) + 4).toNat = a + 4 := by omega
    have hx : (!(s.extract a (a + 4)).toList == [109, 97, 120, 40]) = true := by rw [pre_max (by omega), hpre]; rfl
    clear hpre
    go_enter Tryz.func24, Tryz.ntmps24
    go_wp2_with fail
    refine Hp.out.mono ?_
    rintro e w1 ⟨k, A', n', cap', hk1, hk2, hk3, rfl, hown, hb⟩
    have HK := Lib.hid hk3
    clear hk3
    obtain ⟨⟨q0, q1, q2, q3⟩, q4, q5⟩ := box2 (hb.mono (by omega))
    have y2 : w1.frozen? ⟨w.heap.size, 0, none⟩ = false := by rw [hb.frozen (p := ⟨w.heap.size, 0, none⟩) (by simp)]; exact frozen_far (heap2 w _ _).1
    have y3 : w1.frozen? ⟨w.heap.size, 1, none⟩ = false := by rw [hb.frozen (p := ⟨w.heap.size, 1, none⟩) (by simp)]; exact frozen_far (heap2 w _ _).1
    go_wp2_with fail
    have e0 := World.cell?_setCell_same w1 ⟨w.heap.size, 0, none⟩ (.int .i64 R.1.1) q0
    have e1 := World.cell?_setCell_same (w1.setCell ⟨w.heap.size, 0, none⟩ (.int .i64 R.1.1)) ⟨w.heap.size, 1, none⟩ (.slice A' n' cap') (keep_off (by decide) q1)
    refine bodyPost_ret (v := .tuple #[.agg #[.int .i64 R.1.1, .slice A' n' cap'], .int .i64 k, .bool R.2.2]) (by simp [results, Tryz.results24, go_sem, keep_off (show (1 : Nat) ≠ 0 by decide) e0, e1]) rfl ?_
    refine ⟨k, R.1.1, R.1.2, A', n', cap', hk2, ?_, ?_, (q5.setCell (Nat.le_refl _) _).setCell (Nat.le_refl _) _, ?_⟩
    · rw [hrd.out]; cases R.2.2 <;> rfl
    · exact ownsRow_setCell_below (a := ⟨w.heap.size, 1, none⟩) (ownsRow_setCell_below (a := ⟨w.heap.size, 0, none⟩) hown (by show w.heap.size < _; omega) _) (by show w.heap.size < _; omega) _
    · intro x hx
      rw [hrd.out] at hx
      split at hx
      · rw [← HK.out]; exact (Option.some.inj hx).symm
      · cases hx
/-- the result's box, untouched, and the box of the level that is read -/
structure RB (w wr : World) (c : Int) (v : Value) : Prop where
  bel : Below w.heap.size w wr
  size : w.heap.size + 2 ≤ wr.heap.size
  a0 : wr.cell? ⟨w.heap.size + 1, 0, none⟩ = some (.int .i64 c)
  a1 : wr.cell? ⟨w.heap.size + 1, 1, none⟩ = some v
  a2 : wr.frozen? ⟨w.heap.size + 1, 0, none⟩ = false
  a3 : wr.frozen? ⟨w.heap.size + 1, 1, none⟩ = false
  r0 : wr.cell? ⟨w.heap.size, 0, none⟩ = some (.int .i64 0)
  r1 : wr.cell? ⟨w.heap.size, 1, none⟩ = some (.slice none 0 0)
  r2 : wr.frozen? ⟨w.heap.size, 0, none⟩ = false
  r3 : wr.frozen? ⟨w.heap.size, 1, none⟩ = false
theorem RB.start (w : World) : RB w ((w.alloc (.cells #[.int .i64 0, .slice none 0 0] 24)).alloc (.cells #[.int .i64 0, .slice none 0 0] 24)) 0 (.slice none 0 0) := by
  obtain ⟨⟨q0, q1, q2, q3⟩, q4, q5⟩ := box2 (w := w) (x0 := .int .i64 0) (x1 := .slice none 0 0) (y0 := .int .i64 0) (y1 := .slice none 0 0) (t := 24) (Below.refl _ _)
  have h := heap2 w (.cells #[.int .i64 0, .slice none 0 0] 24) (.cells #[.int .i64 0, .slice none 0 0] 24)
  exact ⟨q5, q4, q2, q3, frozen_far h.2, frozen_far h.2, q0, q1, frozen_far h.1, frozen_far h.1⟩
theorem RB.below {w wr w5 : World} {c : Int} {v : Value} (h : RB w wr c v) (hb : Below (w.heap.size + 2) wr w5) : RB w w5 c v :=
  ⟨h.bel.trans (hb.mono (by omega)), by have := hb.size; have := h.size; omega,
    (hb.cell (p := ⟨w.heap.size + 1, 0, none⟩) (show w.heap.size + 1 < _ by omega)).trans h.a0, (hb.cell (p := ⟨w.heap.size + 1, 1, none⟩) (show w.heap.size + 1 < _ by omega)).trans h.a1,
    (hb.frozen (p := ⟨w.heap.size + 1, 0, none⟩) (show w.heap.size + 1 < _ by omega)).trans h.a2, (hb.frozen (p := ⟨w.heap.size + 1, 1, none⟩) (show w.heap.size + 1 < _ by omega)).trans h.a3,
    (hb.cell (p := ⟨w.heap.size, 0, none⟩) (show w.heap.size < _ by omega)).trans h.r0, (hb.cell (p := ⟨w.heap.size, 1, none⟩) (show w.heap.size < _ by omega)).trans h.r1,
    (hb.frozen (p := ⟨w.heap.size, 0, none⟩) (show w.heap.size < _ by omega)).trans h.r2, (hb.frozen (p := ⟨w.heap.size, 1, none⟩) (show w.heap.size < _ by omega)).trans h.r3⟩
theorem RB.put {w wr : World} {c : Int} {v : Value} (h : RB w wr c v) (c' : Int) (v' : Value) : RB w ((wr.setCell ⟨w.heap.size + 1, 0, none⟩ (.int .i64 c')).setCell ⟨w.heap.size + 1, 1, none⟩ v') c' v' := by
  have hsz : ((wr.setCell ⟨w.heap.size + 1, 0, none⟩ (.int .i64 c')).setCell ⟨w.heap.size + 1, 1, none⟩ v').heap.size = wr.heap.size := by simp
  exact ⟨(h.bel.setCell (by show w.heap.size ≤ w.heap.size + 1; omega) _).setCell (by show w.heap.size ≤ w.heap.size + 1; omega) _, by rw [hsz]; exact h.size,
    keep_off (by decide) (World.cell?_setCell_same _ _ _ h.a0), World.cell?_setCell_same _ _ _ (keep_off (by decide) h.a1), by rw [World.frozen?_setCell, World.frozen?_setCell]; exact h.a2, by rw [World.frozen?_setCell, World.frozen?_setCell]; exact h.a3,
    keep_set (by omega) (keep_set (by omega) h.r0), keep_set (by omega) (keep_set (by omega) h.r1), by rw [World.frozen?_setCell, World.frozen?_setCell]; exact h.r2, by rw [World.frozen?_setCell, World.frozen?_setCell]; exact h.r3⟩
theorem RB.ret {w wr : World} {c : Int} {v : Value} (h : RB w wr c v) : ((wr.setCell ⟨w.heap.size, 0, none⟩ (.int .i64 c)).setCell ⟨w.heap.size, 1, none⟩ v).cell? ⟨w.heap.size, 0, none⟩ = some (.int .i64 c) ∧ ((wr.setCell ⟨w.heap.size, 0, none⟩ (.int .i64 c)).setCell ⟨w.heap.size, 1, none⟩ v).cell? ⟨w.heap.size, 1, none⟩ = some v ∧ Below w.heap.size w ((wr.setCell ⟨w.heap.size, 0, none⟩ (.int .i64 c)).setCell ⟨w.heap.size, 1, none⟩ v) :=
  ⟨keep_off (by decide) (World.cell?_setCell_same _ _ _ h.r0), World.cell?_setCell_same _ _ _ (keep_off (by decide) h.r1), (h.bel.setCell (Nat.le_refl _) _).setCell (Nat.le_refl _) _⟩

theorem partR_len (c : Int) (l : List (Int × Int)) (t : List UInt8) : (partR c l t).1.2.length ≤ l.length + 1 := by
  cases t with
  | nil => exact Nat.le_succ _
  | cons b r =>
    rw [partR]
    split
    · split <;> simp
    · exact Nat.le_succ _

set_option maxRecDepth 100000 in
set_option maxHeartbeats 4000000 in
theorem read_max (s : ByteArray) (a : Nat) (w : World) (hs : s.size ≤ 1000000) (ha : a + 4 ≤ s.size) (hpre : Lib.hasPrefix (s.data.toList.drop a) [109, 97, 120, 40] = true) :
    Calls Tryz.prog 24 #[.string s, .int .i64 a] w fun e w' => ∃ (k : Nat) (c : Int) (l : List (Int × Int)) (A : Option Addr) (n cap : Nat), k ≤ s.size ∧
      e = .returned (.tuple #[.agg #[.int .i64 c, .slice A n cap], .int .i64 k, .bool (readR (s.data.toList.drop a)).isSome]) ∧ w'.ownsRow (w.heap.size + 2) 45 2 (.slice A n cap) l.length (flat2 l) ∧ Below w.heap.size w w' ∧ (∀ x, readR (s.data.toList.drop a) = some x → x = ((c, l), s.data.toList.drop k)) := by
  have hsz : s.size ≤ 9223372036854775807 := by omega
  have hne : w.heap.size ≠ w.heap.size + 1 := by omega
  have hrd : Hid (readR (s.data.toList.drop a) = loopR 9 0 [] (s.data.toList.drop (a + 4))) := by
    rw [Hid, readR, if_pos hpre, List.drop_drop]
  have h5 : (a : Int) + 4 ≤ s.size := by omega
  have h6 : ¬ ((s.size : Int) < (a : Int) + 4) := by omega
  have h7 : (a : Int) ≤ (a : Int) + 4 := by omega
  have h8 : (0 : Int) ≤ (a : Int) := by omega
  have h9 : ((a : Int) + 4).toNat = a + 4 := by omega
  have hx : (!(s.extract a (a + 4)).toList == [109, 97, 120, 40]) = false := by rw [pre_max (by omega), hpre]; rfl
  clear hpre
  go_enter Tryz.func24, Tryz.ntmps24
  go_wp2_with fail
  go_loopw [8, 9, 10] (fun k o i wr => ∃ j : Nat, j ≤ 9 ∧ i = .int .i64 j ∧ ∃ kk : Nat, kk ≤ s.size ∧ k = .int .i64 kk ∧ ∃ ob : Bool, o = .bool ob ∧ ∃ (c : Int) (A : Option Addr) (n cap : Nat) (l : List (Int × Int)), RB w wr c (.slice A n cap) ∧ wr.ownsRow (w.heap.size + 2) 45 2 (.slice A n cap) l.length (flat2 l) ∧ l.length ≤ j ∧ loopR 9 0 [] (s.data.toList.drop (a + 4)) = loopR (9 - j) c l (s.data.toList.drop kk)) (fun _ _ i _ => 9 - (intOf i).toNat)
  case atStart => exact ⟨0, by omega, rfl, a + 4, by omega, by rw [show ((a + 4 : Nat) : Int) = (a : Int) + 4 by omega], true, rfl, 0, none, 0, 0, [], RB.start w, own_none, Nat.le_refl _, rfl⟩
  case round =>
    obtain ⟨j, hj, rfl, kk, hkk, rfl, ob, rfl, c, A, n, cap, l, hrb, hown, hlj, hloop⟩ := hrel
    have HL : Hid (readR (s.data.toList.drop a) = loopR (9 - j) c l (s.data.toList.drop kk)) := by rw [Hid, hrd.out]; exact hloop
    have Hloop := Lib.hid hloop
    clear hloop
    have a0 := hrb.a0
    have a1 := hrb.a1
    have a2 := hrb.a2
    have a3 := hrb.a3
    have r0 := hrb.r0
    have r1 := hrb.r1
    have r2 := hrb.r2
    have r3 := hrb.r3
    by_cases hj9 : j < 9
    · obtain ⟨R, hR⟩ : ∃ R, partR c l (s.data.toList.drop kk) = R := ⟨_, rfl⟩
      have hp := part_any s kk c A n cap l (w.heap.size + 2) wr hs (by omega) hown hrb.size R hR hkk
      have Hp := Lib.hid hp
      have Hst : Hid (loopR (9 - j) c l (s.data.toList.drop kk) = if R.2.2 = true then match R.2.1 with
          | [] => none
          | b :: r => if b = 41 then some (R.1, r) else if b = 44 then loopR (9 - (j + 1)) R.1.1 R.1.2 r else none
        else none) := by
        rw [Hid, show 9 - j = (9 - (j + 1)) + 1 by omega, loopR, hR]
        generalize R.2.1 = t
        cases t <;> rfl
      have HR2 := Lib.hid hR
      clear hp hR
      go_wp2_with fail
      refine Hp.out.mono ?_
      rintro e w1 ⟨k, A', n', cap', hk1, hk2, hk3, rfl, hown5, hb⟩
      have HK := Lib.hid hk3
      clear hk3
      have hlen : R.1.2.length ≤ j + 1 := by have := partR_len c l (s.data.toList.drop kk); rw [HR2.out] at this; omega
      have g := hrb.below hb
      have G := g.put R.1.1 (.slice A' n' cap')
      have O := ownsRow_setCell_below (a := ⟨w.heap.size + 1, 1, none⟩) (ownsRow_setCell_below (a := ⟨w.heap.size + 1, 0, none⟩) hown5 (by show w.heap.size + 1 < _; omega) (.int .i64 R.1.1)) (by show w.heap.size + 1 < _; omega) (.slice A' n' cap')
      clear a0 a1 a2 a3 r0 r1 r2 r3
      have a0 := g.a0
      have a1 := g.a1
      have a2 := g.a2
      have a3 := g.a3
      have r0 := g.r0
      have r1 := g.r1
      have r2 := g.r2
      have r3 := g.r3
      cases hok : R.2.2
      · have HN : Hid (readR (s.data.toList.drop a) = none) := by rw [Hid, HL.out, Hst.out, hok]; rfl
        go_wp2_with fail
        have e := G.ret
        refine bodyPost_ret (v := .tuple #[.agg #[.int .i64 R.1.1, (.slice A' n' cap')], .int .i64 k, .bool false]) (by simp [results, Tryz.results24, go_sem, e.1, e.2.1]) rfl ?_
        refine ⟨k, R.1.1, R.1.2, _, _, _, hk2, by rw [HN.out]; rfl, ?_, e.2.2, ?_⟩
        · exact ownsRow_setCell_below (a := ⟨w.heap.size, 1, none⟩) (ownsRow_setCell_below (a := ⟨w.heap.size, 0, none⟩) O (by show w.heap.size < _; omega) _) (by show w.heap.size < _; omega) _
        · intro x hx
          rw [HN.out] at hx
          cases hx
      · by_cases hkl : k < s.size
        · have Hd := Lib.hid (drop_at hkl)
          by_cases h41 : s[k].toNat = 41
          · have HN : Hid (readR (s.data.toList.drop a) = some (R.1, s.data.toList.drop (k + 1))) := by
              rw [Hid, HL.out, Hst.out, if_pos hok, HK.out, Hd.out]
              exact if_pos (UInt8.toNat_inj.1 h41)
            go_wp2_with fail
            have e := G.ret
            refine bodyPost_ret (v := .tuple #[.agg #[.int .i64 R.1.1, (.slice A' n' cap')], .int .i64 ((k : Int) + 1), .bool true]) (by simp [results, Tryz.results24, go_sem, e.1, e.2.1]) rfl ?_
            refine ⟨k + 1, R.1.1, R.1.2, _, _, _, by omega, by rw [HN.out]; rfl, ?_, e.2.2, ?_⟩
            · exact ownsRow_setCell_below (a := ⟨w.heap.size, 1, none⟩) (ownsRow_setCell_below (a := ⟨w.heap.size, 0, none⟩) O (by show w.heap.size < _; omega) _) (by show w.heap.size < _; omega) _
            · intro x hx
              rw [HN.out] at hx
              exact (Option.some.inj hx).symm
          · by_cases h44 : s[k].toNat = 44
            · have Hnx : Hid (loopR 9 0 [] (s.data.toList.drop (a + 4)) = loopR (9 - (j + 1)) R.1.1 R.1.2 (s.data.toList.drop (k + 1))) := by
                rw [Hid, Hloop.out, Hst.out, if_pos hok, HK.out, Hd.out]
                exact (if_neg (fun e => h41 (by rw [e]; rfl))).trans (if_pos (UInt8.toNat_inj.1 h44))
              go_wp2_with fail
              go_roundw
              case rel => exact ⟨j + 1, by omega, by go_num, k + 1, by omega, by go_num, true, rfl, R.1.1, A', n', cap', R.1.2, G, O, hlen, Hnx.out⟩
              case measure => simp [intOf]; omega
            · have HN : Hid (readR (s.data.toList.drop a) = none) := by
                rw [Hid, HL.out, Hst.out, if_pos hok, HK.out, Hd.out]
                exact (if_neg (fun e => h41 (by rw [e]; rfl))).trans (if_neg (fun e => h44 (by rw [e]; rfl)))
              go_wp2_with fail
              have e := G.ret
              refine bodyPost_ret (v := .tuple #[.agg #[.int .i64 R.1.1, (.slice A' n' cap')], .int .i64 k, .bool false]) (by simp [results, Tryz.results24, go_sem, e.1, e.2.1]) rfl ?_
              refine ⟨k, R.1.1, R.1.2, _, _, _, hk2, by rw [HN.out]; rfl, ?_, e.2.2, ?_⟩
              · exact ownsRow_setCell_below (a := ⟨w.heap.size, 1, none⟩) (ownsRow_setCell_below (a := ⟨w.heap.size, 0, none⟩) O (by show w.heap.size < _; omega) _) (by show w.heap.size < _; omega) _
              · intro x hx
                rw [HN.out] at hx
                cases hx
        · have HN : Hid (readR (s.data.toList.drop a) = none) := by
            rw [Hid, HL.out, Hst.out, if_pos hok, HK.out, List.drop_eq_nil_of_le (by rw [← Lib.size_eq]; omega)]
          go_wp2_with fail
          have e := G.ret
          refine bodyPost_ret (v := .tuple #[.agg #[.int .i64 R.1.1, (.slice A' n' cap')], .int .i64 k, .bool false]) (by simp [results, Tryz.results24, go_sem, e.1, e.2.1]) rfl ?_
          refine ⟨k, R.1.1, R.1.2, _, _, _, hk2, by rw [HN.out]; rfl, ?_, e.2.2, ?_⟩
          · exact ownsRow_setCell_below (a := ⟨w.heap.size, 1, none⟩) (ownsRow_setCell_below (a := ⟨w.heap.size, 0, none⟩) O (by show w.heap.size < _; omega) _) (by show w.heap.size < _; omega) _
          · intro x hx
            rw [HN.out] at hx
            cases hx
    · have HN : Hid (readR (s.data.toList.drop a) = none) := by rw [Hid, HL.out, show 9 - j = 0 by omega]; rfl
      have G := hrb
      have O := hown
      go_wp2_with fail
      have e := G.ret
      refine bodyPost_ret (v := .tuple #[.agg #[.int .i64 c, (.slice A n cap)], .int .i64 kk, .bool false]) (by simp [results, Tryz.results24, go_sem, e.1, e.2.1]) rfl ?_
      refine ⟨kk, c, l, _, _, _, hkk, by rw [HN.out]; rfl, ?_, e.2.2, ?_⟩
      · exact ownsRow_setCell_below (a := ⟨w.heap.size, 1, none⟩) (ownsRow_setCell_below (a := ⟨w.heap.size, 0, none⟩) O (by show w.heap.size < _; omega) _) (by show w.heap.size < _; omega) _
      · intro x hx
        rw [HN.out] at hx
        cases hx
theorem read_any (s : ByteArray) (a : Nat) (w : World) (hs : s.size ≤ 1000000) (ha : a ≤ s.size) :
    Calls Tryz.prog 24 #[.string s, .int .i64 a] w fun e w' => ∃ (k : Nat) (c : Int) (l : List (Int × Int)) (A : Option Addr) (n cap : Nat), k ≤ s.size ∧
      e = .returned (.tuple #[.agg #[.int .i64 c, .slice A n cap], .int .i64 k, .bool (readR (s.data.toList.drop a)).isSome]) ∧ w'.ownsRow (w.heap.size + 2) 45 2 (.slice A n cap) l.length (flat2 l) ∧ Below w.heap.size w w' ∧ (∀ x, readR (s.data.toList.drop a) = some x → x = ((c, l), s.data.toList.drop k)) := by
  cases hpre : Lib.hasPrefix (s.data.toList.drop a) [109, 97, 120, 40]
  · exact read_part s a w hs ha hpre
  · have h4 := Lib.hasPrefix_le hpre
    have hl : s.data.toList.length = s.size := (Lib.size_eq s).symm
    rw [List.length_drop, hl] at h4
    exact read_max s a w hs (by simp at h4; omega) hpre
end Go.Proofs.YtgbbmcfhakliiaaGreatDoor
