/-
  'Format' of the reference: the same text, for every level.
-/
import Derived.Test.YtgbbmcfhakliiaaGreatDoorFormat
import Derived.Test.YtgbbmcfhakliiaaGreatDoorRNormal
import Derived.Deep.DeepCutAuto
namespace Go.Proofs.YtgbbmcfhakliiaaGreatDoor
open Go Go.RowKit Go.Shelf

theorem str2 {x : Int × Int} (h : ¬ x.2 = 0) : (((⟨#[117]⟩ ++ ⟨(Lib.itoa x.1).toArray⟩ : ByteArray) ++ ⟨#[43]⟩ : ByteArray) ++ ⟨(Lib.itoa x.2).toArray⟩ : ByteArray) = bs (partB x) := by
  rw [partB, if_neg h, show (⟨#[117]⟩ ++ ⟨(Lib.itoa x.1).toArray⟩ : ByteArray) = bs ([117] ++ Lib.itoa x.1) from bs_app [117] _, show (bs ([117] ++ Lib.itoa x.1) ++ ⟨#[43]⟩ : ByteArray) = bs ([117] ++ Lib.itoa x.1 ++ [43]) from bs_app _ [43]]
  rw [← List.append_assoc]
  exact bs_app _ _
theorem join_snoc (p : List UInt8) : ∀ (ps : List (List UInt8)), ps ≠ [] → Lib.join (ps ++ [p]) [44] = Lib.join ps [44] ++ 44 :: p
  | [], h => absurd rfl h
  | [q], _ => by simp [Lib.join, List.intercalate, List.intersperse]
  | q :: r :: t, _ => by
    have ih := join_snoc p (r :: t) (by simp)
    rw [show (q :: r :: t) ++ [p] = q :: r :: (t ++ [p]) from rfl]
    have j2 : ∀ (p q : List UInt8) (r : List (List UInt8)), Lib.join (p :: q :: r) [44] = p ++ 44 :: Lib.join (q :: r) [44] := fun p q r => by simp [Lib.join, List.intercalate, List.intersperse]
    rw [j2, j2, show r :: (t ++ [p]) = (r :: t) ++ [p] from rfl, ih]
    simp
theorem bs_size' (l : List UInt8) : (bs l).size = l.length := by simp [bs, ByteArray.size]

/-- the cells of texts -/
def vS (ps : List (List UInt8)) : List Value := ps.map fun p => .string (bs p)
theorem vS_snoc (ps : List (List UInt8)) (p : List UInt8) : vS (ps ++ [p]) = vS ps ++ [.string (bs p)] := by simp [vS]
theorem vS_len (ps : List (List UInt8)) : (vS ps).length = ps.length := by simp [vS]
theorem vS_at {ps : List (List UInt8)} {j : Nat} {p : List UInt8} (h : ps[j]? = some p) : (vS ps)[j]? = some (.string (bs p)) := by simp [vS, h]

theorem vS_eq (ps : List (List UInt8)) : vS ps = (ps.map bs).map Value.string := by simp [vS]
theorem own_textAt {w : World} {B : Nat} {A : Option Addr} {n c : Nat} {ps : List (List UInt8)} (h : w.ownsRow B 9 1 (.slice A n c) n (vS ps)) (hn : 0 < n) : ∃ g, A = some ⟨g, 0, none⟩ ∧ ∀ j p, ps[j]? = some p → w.cell? ⟨g, j, none⟩ = some (.string (bs p)) := by
  rw [vS_eq] at h
  rcases h.2 with ⟨e, hz⟩ | ⟨g, cap, cur, e, _⟩
  · omega
  · injection e with e1 e2 e3
    exact ⟨g, e1, fun j p hp => own_cells h e1 (show (ps.map bs)[j]? = some (bs p) by rw [List.getElem?_map, hp]; rfl)⟩
theorem wholeB_more {ps : List (List UInt8)} (h : ps.length ≠ 1) : wholeB ps = [109, 97, 120, 40] ++ Lib.join ps [44] ++ [41] := by
  unfold wholeB
  split
  · exact absurd rfl h
  · rfl

set_option maxRecDepth 100000 in
set_option maxHeartbeats 4000000 in
theorem refFormat_any (c : Int) (A : Option Addr) (n cap : Nat) (l : List (Int × Int)) (w : World) (h : PL w w.heap.size A n l) (hn : n ≤ cap) (hm : cap ≤ 9223372036854775807) (hP : Pow w) :
    Calls Tryz.prog 7 #[.agg #[.int .i64 c, .slice A n cap]] w fun e w' => e = .returned (.tuple #[.string (bs (fText c l)), .int .i64 (nErr c l)]) ∧ Below w.heap.size w w' := by
  obtain ⟨i0, hi, hz0, hz1, hz2⟩ := info_parts infoS
  have hb0 : Below w.heap.size w (w.alloc (.cells #[.int .i64 c, .slice A n cap] 24)) := (Below.refl _ _).alloc (Nat.le_refl _) _
  have hN := refNormal_any c A n cap l _ (h.lift hb0) hn hm
  have Hsm := Lib.hid (@nvars_small c l)
  have Hft : Hid (fText c l = if nErr c l = 0 then wholeB (partsB (nConst c l) (nVars c l)) else []) := rfl
  generalize nErr c l = er at hN Hsm Hft ⊢
  generalize nConst c l = cc at hN Hsm Hft
  generalize nVars c l = cv at hN Hsm Hft
  by_cases he : er = 0
  · have hq1 : (er == 0) = true := by simp [he]
    have hq2 : (er != 0) = false := by simp [he]
    obtain ⟨hsm, hlen, hc0, hc1⟩ := Hsm.out he
    have Hf : Hid (fText c l = wholeB (partsB cc cv)) := by rw [Hid, Hft.out, if_pos he]
    have He := Lib.hid he; clear he
    go_enter Tryz.func7, Tryz.ntmps7
    go_wp2_with fail
    refine hN.mono ?_
    rintro e w1 ⟨v, rfl, ⟨A2, m2, c2, rfl, hP2, hm2, hc2, _⟩, hb1⟩
    have hb01 : Below w.heap.size w w1 := hb0.trans (hb1.mono hb0.size)
    have hwl := hP.lt
    have hwl1 := hb01.size
    have hcv : cv.length = m2 := hP2.1
    obtain ⟨ps, hps⟩ : ∃ ps, ps = cv.map partB := ⟨_, rfl⟩
    have Hps := Lib.hid hps
    have hpl : ps.length = m2 := by rw [hps, List.length_map]; exact hcv
    clear hps
    go_wp2_with fail
    go_loopw [6, 7] (fun v i wr => ∃ k : Nat, k ≤ m2 ∧ i = .int .i64 k ∧ ∃ (A' : Option Addr) (cap' : Nat), v = .slice A' k cap' ∧ wr.ownsRow (w1.heap.size + 1) 9 1 (.slice A' k cap') k (vS (ps.take k)) ∧ Below (w1.heap.size + 1) (w1.alloc (.cells #[.int .i64 cc, .slice A2 m2 c2] 24)) wr) (fun _ i _ => m2 - (intOf i).toNat)
    case atStart => exact ⟨0, Nat.zero_le _, rfl, none, 0, rfl, World.ownsRow_nil _ _ _ _, Below.refl _ _⟩
    case round =>
      obtain ⟨k, hk, rfl, A', cap', rfl, hown, hbr⟩ := hrel
      have hszr : w1.heap.size + 1 ≤ wr.heap.size := by have := hbr.size; simpa using this
      have b0 : wr.cell? ⟨w1.heap.size, 0, none⟩ = some (.int .i64 cc) := (hbr.cell (p := ⟨w1.heap.size, 0, none⟩) (Nat.lt_succ_self _)).trans (by simp)
      have b1 : wr.cell? ⟨w1.heap.size, 1, none⟩ = some (.slice A2 m2 c2) := (hbr.cell (p := ⟨w1.heap.size, 1, none⟩) (Nat.lt_succ_self _)).trans (by simp)
      have hb1r : Below w1.heap.size w1 wr := ((Below.refl _ w1).alloc (Nat.le_refl _) _).trans (hbr.mono (by omega))
      have hwr : Below w.heap.size w wr := hb01.trans (hb1r.mono hwl1)
      have hPr : Pow wr := hP.below hwr (.inl (Nat.le_refl _))
      by_cases hlt : k < m2
      · obtain ⟨b, off, x, rfl, hbl, hx, hx0, hx1⟩ := (hP2.below hb1r).at_ hlt
        obtain ⟨⟨s1, s2⟩, s3, s4⟩ := hsm x (List.mem_of_getElem? hx)
        have hi1 := itoa_any x.1 wr hPr s1 (by omega)
        have hl1 := Lib.itoa_length_le x.1 (by omega) (by omega)
        generalize ht1 : Lib.itoa x.1 = t1 at hi1 hl1
        have Ht1 := Lib.hid ht1; clear ht1
        have Hss : Hid (vS (ps.take k) ++ [Value.string (bs (partB x))] = vS (ps.take (k + 1))) := by rw [Hid, take_snoc (show ps[k]? = some (partB x) by rw [Hps.out, List.getElem?_map, hx]; rfl), vS_snoc]
        by_cases hz : x.2 = 0
        · have hq3 : (x.2 == 0) = true := by simp [hz]
          have hq4 : (x.2 != 0) = false := by simp [hz]
          have Hz := Lib.hid hz; clear hz
          go_wp2_with fail
          refine hi1.mono ?_
          rintro e w3 ⟨rfl, hb3⟩
          have y0 : w3.cell? ⟨w1.heap.size, 0, none⟩ = some (.int .i64 cc) := (hb3.cell (p := ⟨w1.heap.size, 0, none⟩) (show w1.heap.size < _ by omega)).trans b0
          have y1 : w3.cell? ⟨w1.heap.size, 1, none⟩ = some (.slice (some ⟨b, off, none⟩) m2 c2) := (hb3.cell (p := ⟨w1.heap.size, 1, none⟩) (show w1.heap.size < _ by omega)).trans b1
          have u0 : w3.cell? ⟨b, off + k * 2, none⟩ = some (.int .i64 x.1) := (hb3.cell (p := ⟨b, off + k * 2, none⟩) (show b < _ by omega)).trans hx0
          have u1 : w3.cell? ⟨b, off + k * 2 + 1, none⟩ = some (.int .i64 x.2) := (hb3.cell (p := ⟨b, off + k * 2 + 1, none⟩) (show b < _ by omega)).trans hx1
          have hown3 := own_below hown hb3
          have hsz3 := hb3.size
          have hrow : ∀ k', (Value.slice A' k cap').ownBlock = some k' → w1.heap.size + 1 ≤ k' := fun k' hk' => (hown.lt k' hk').1
          clear hown
          go_wp2_with (at_builtin; refine wpList_append_own _ rfl _ _ 37 rfl (w1.heap.size + 1) 9 i0 (.string ⟨#[]⟩) 1 16 Tryz.underlying37 hi hz0 hz1 hz2 rfl (by decide) (.slice A' k cap') k _ rfl (hown3.alloc _) ⟨w3.heap.size, 0, none⟩ 1 1 [.string _] rfl rfl news1 (fun u hu => by rw [List.mem_singleton.1 hu]; rfl) (by unfold maxLen; omega) (by omega) (by simp; omega) ?_)
          rw [show (⟨#[117]⟩ ++ ⟨t1.toArray⟩ : ByteArray) = bs (partB x) from by rw [← Ht1.out]; exact str0 Hz.out]
          intro v' w5 hown5 hgrow _
          rw [Hss.out] at hown5
          obtain ⟨A5, c5, rfl⟩ := own_slice hown5
          have hb5 : Below (w1.heap.size + 1) (w1.alloc (.cells #[.int .i64 cc, .slice (some ⟨b, off, none⟩) m2 c2] 24)) w5 := ((hbr.trans (hb3.mono hszr)).alloc (by omega) _).grown hgrow (by simp; omega) hrow
          go_wp2_with fail
          go_roundw
          case rel => exact ⟨k + 1, by omega, by go_num, A5, c5, rfl, hown5, hb5⟩
          case measure => simp [intOf]; omega
        · have hq3 : (x.2 == 0) = false := by simp [hz]
          have hq4 : (x.2 != 0) = true := by simp [hz]
          have Hz := Lib.hid hz; clear hz
          go_wp2_with fail
          refine hi1.mono ?_
          rintro e w3 ⟨rfl, hb3⟩
          have y0 : w3.cell? ⟨w1.heap.size, 0, none⟩ = some (.int .i64 cc) := (hb3.cell (p := ⟨w1.heap.size, 0, none⟩) (show w1.heap.size < _ by omega)).trans b0
          have y1 : w3.cell? ⟨w1.heap.size, 1, none⟩ = some (.slice (some ⟨b, off, none⟩) m2 c2) := (hb3.cell (p := ⟨w1.heap.size, 1, none⟩) (show w1.heap.size < _ by omega)).trans b1
          have u0 : w3.cell? ⟨b, off + k * 2, none⟩ = some (.int .i64 x.1) := (hb3.cell (p := ⟨b, off + k * 2, none⟩) (show b < _ by omega)).trans hx0
          have u1 : w3.cell? ⟨b, off + k * 2 + 1, none⟩ = some (.int .i64 x.2) := (hb3.cell (p := ⟨b, off + k * 2 + 1, none⟩) (show b < _ by omega)).trans hx1
          have hi2 := itoa_any x.2 w3 (hPr.below hb3 (.inl (Nat.le_refl _))) s3 (by omega)
          have hl2 := Lib.itoa_length_le x.2 (by omega) (by omega)
          generalize ht2 : Lib.itoa x.2 = t2 at hi2 hl2
          have Ht2 := Lib.hid ht2; clear ht2
          go_wp2_with fail
          refine hi2.mono ?_
          rintro e w4 ⟨rfl, hb4⟩
          have hb34 := hb3.trans (hb4.mono hb3.size)
          have hown3 := own_below hown hb34
          have hsz3 := hb34.size
          have hrow : ∀ k', (Value.slice A' k cap').ownBlock = some k' → w1.heap.size + 1 ≤ k' := fun k' hk' => (hown.lt k' hk').1
          clear hown y0 y1 u0 u1
          go_wp2_with (at_builtin; refine wpList_append_own _ rfl _ _ 37 rfl (w1.heap.size + 1) 9 i0 (.string ⟨#[]⟩) 1 16 Tryz.underlying37 hi hz0 hz1 hz2 rfl (by decide) (.slice A' k cap') k _ rfl (hown3.alloc _) ⟨w4.heap.size, 0, none⟩ 1 1 [.string _] rfl rfl news1 (fun u hu => by rw [List.mem_singleton.1 hu]; rfl) (by unfold maxLen; omega) (by omega) (by simp; omega) ?_)
          rw [show (((⟨#[117]⟩ ++ ⟨t1.toArray⟩ : ByteArray) ++ ⟨#[43]⟩ : ByteArray) ++ ⟨t2.toArray⟩ : ByteArray) = bs (partB x) from by rw [← Ht1.out, ← Ht2.out]; exact str2 Hz.out]
          intro v' w5 hown5 hgrow _
          rw [Hss.out] at hown5
          obtain ⟨A5, c5, rfl⟩ := own_slice hown5
          have hb5 : Below (w1.heap.size + 1) (w1.alloc (.cells #[.int .i64 cc, .slice (some ⟨b, off, none⟩) m2 c2] 24)) w5 := ((hbr.trans (hb34.mono hszr)).alloc (by omega) _).grown hgrow (by simp; omega) hrow
          go_wp2_with fail
          go_roundw
          case rel => exact ⟨k + 1, by omega, by go_num, A5, c5, rfl, hown5, hb5⟩
          case measure => simp [intOf]; omega
      · obtain rfl : k = m2 := by omega
        have hfull : ps.take k = ps := List.take_of_length_le (by omega)
        rw [hfull] at hown
        clear hfull
        have hcvl : (cv = []) ↔ k = 0 := by rw [← hcv]; simp
        have hlen' := parts_len (c := cc) hsm hc0 (by omega)
        by_cases hc : cc = 0 ∧ cv ≠ []
        · have hk0 : 0 < k := by
            rcases Nat.eq_zero_or_pos k with h | h
            · exact absurd (hcvl.2 h) hc.2
            · exact h
          have hqe : ps = partsB cc cv := by rw [partsB, if_pos hc, List.append_nil, Hps.out]
          have hql : ∀ p ∈ ps, p.length ≤ 44 := by rw [hqe]; exact hlen'
          have hq5 : (cc == 0) = true := by simp [hc.1]
          have hq6 : (cc != 0) = false := by simp [hc.1]
          have hq7 : ((k : Int) == 0) = false := by simp; omega
          have hown3 := hown
          have hwr3 := hwr
          have Hqs := Lib.hid hqe
          clear hqe hlen' hcvl hc hown hP2
          generalize ps = qs at *
          obtain ⟨g, rfl, hcell⟩ := own_textAt hown3 (by omega)
          clear hown3
          have Hcell := Lib.hid hcell
          clear hcell
          by_cases h1 : k = 1
          · obtain ⟨p, hp⟩ : ∃ p, qs = [p] := List.length_eq_one_iff.1 (by omega)
            have x0 := Hcell.out 0 p (by rw [hp]; rfl)
            have Hw : Hid (fText c l = p) := by rw [Hid, Hf.out, ← Hqs.out, hp]; rfl
            have hqi : ((k : Int) == 1) = true := by rw [h1]; rfl
            clear hp
            go_wp2_with fail
            go_ret2
            exact ⟨by rw [Hw.out, He.out]; rfl, hwr3⟩
          · have hqi : ((k : Int) == 1) = false := by simp; omega
            go_wp2_with fail
            go_loopw [9, 10] (fun v i wx => ∃ j : Nat, j ≤ k ∧ i = .int .i64 j ∧ ∃ t : ByteArray, v = .string t ∧ t = bs ([109, 97, 120, 40] ++ Lib.join (qs.take j) [44]) ∧ t.size ≤ 45 * j + 4 ∧ wx = wr) (fun _ i _ => k - (intOf i).toNat)
            case atStart => exact ⟨0, by omega, rfl, _, rfl, rfl, by decide, rfl⟩
            case round =>
              obtain ⟨j, hj, rfl, t, rfl, ht, htz, rfl⟩ := hrel
              have Ht := Lib.hid ht
              clear ht
              by_cases hjq : j < k
              · obtain ⟨x, hx⟩ : ∃ x, qs[j]? = some x := ⟨_, List.getElem?_eq_getElem (show j < qs.length by omega)⟩
                have hxz : (bs x).size ≤ 44 := by rw [bs_size']; exact hql x (List.mem_of_getElem? hx)
                have hcx := Hcell.out j x hx
                have Hst : Hid (qs.take (j + 1) = qs.take j ++ [x]) := take_snoc hx
                clear hx
                rcases Nat.eq_zero_or_pos j with rfl | hj0
                · have Hn : Hid (t ++ bs x = bs ([109, 97, 120, 40] ++ Lib.join (qs.take 1) [44])) := by
                    rw [Hid, Ht.out, Hst.out]
                    rw [show (bs ([109, 97, 120, 40] ++ Lib.join (qs.take 0) [44]) ++ bs x : ByteArray) = bs (([109, 97, 120, 40] ++ Lib.join (qs.take 0) [44]) ++ x) from bs_app _ _]
                    simp [Lib.join, List.intercalate]
                  have hz2 : (t ++ bs x).size ≤ 45 * 1 + 4 := by rw [ByteArray.size_append]; omega
                  have hcx0 := hcx
                  go_wp2_with fail
                  go_roundw
                  case rel => exact ⟨1, by omega, by go_num, t ++ bs x, rfl, Hn.out, hz2, by simp⟩
                  case measure => simp [intOf]; omega
                · have Hn : Hid ((t ++ ⟨#[44]⟩ : ByteArray) ++ bs x = bs ([109, 97, 120, 40] ++ Lib.join (qs.take (j + 1)) [44])) := by
                    have hne : qs.take j ≠ [] := fun e => by
                      have := congrArg List.length e
                      rw [List.length_take, List.length_nil] at this; omega
                    rw [Hid, Ht.out, Hst.out, join_snoc _ _ hne]
                    rw [show (bs ([109, 97, 120, 40] ++ Lib.join (qs.take j) [44]) ++ ⟨#[44]⟩ : ByteArray) = bs (([109, 97, 120, 40] ++ Lib.join (qs.take j) [44]) ++ [44]) from bs_app _ [44]]
                    rw [show (bs (([109, 97, 120, 40] ++ Lib.join (qs.take j) [44]) ++ [44]) ++ bs x : ByteArray) = bs ((([109, 97, 120, 40] ++ Lib.join (qs.take j) [44]) ++ [44]) ++ x) from bs_app _ _]
                    simp
                  have hz2 : ((t ++ ⟨#[44]⟩ : ByteArray) ++ bs x).size ≤ 45 * (j + 1) + 4 := by rw [ByteArray.size_append, ByteArray.size_append, show (⟨#[44]⟩ : ByteArray).size = 1 from rfl]; omega
                  have hji : (0 : Int) < (j : Int) := by omega
                  go_wp2_with fail
                  go_roundw
                  case rel => exact ⟨j + 1, by omega, by go_num, (t ++ ⟨#[44]⟩ : ByteArray) ++ bs x, rfl, Hn.out, hz2, by simp⟩
                  case measure => simp [intOf]; omega
              · have hfull : qs.take j = qs := List.take_of_length_le (by omega)
                have Hw : Hid ((t ++ ⟨#[41]⟩ : ByteArray) = bs (fText c l)) := by
                  rw [Hid, Ht.out, hfull, Hf.out, ← Hqs.out, wholeB_more (by omega)]
                  exact bs_app _ [41]
                clear hfull
                go_wp2_with fail
                go_ret2
                exact ⟨by rw [← Hw.out, He.out]; rfl, hwr3⟩
        · have hqe : ps ++ [Lib.itoa cc] = partsB cc cv := by rw [partsB, if_neg hc, Hps.out]
          have hql : ∀ p ∈ ps ++ [Lib.itoa cc], p.length ≤ 44 := by rw [hqe]; exact hlen'
          have hi3 := itoa_any cc wr hPr hc0 (by omega)
          have Hit : Hid (bs (Lib.itoa cc) = ⟨(Lib.itoa cc).toArray⟩) := rfl
          rw [← Hit.out] at hi3
          have Hsn : Hid (vS ps ++ [.string (bs (Lib.itoa cc))] = vS (ps ++ [Lib.itoa cc])) := (vS_snoc _ _).symm
          have hql2 : (ps ++ [Lib.itoa cc]).length = k + 1 := by simp; omega
          have Hqs := Lib.hid hqe
          clear hqe hlen'
          generalize bs (Lib.itoa cc) = ib at hi3 Hsn
          generalize ps ++ [Lib.itoa cc] = qs at hql Hsn hql2 Hqs
          have hrow : ∀ k', (Value.slice A' k cap').ownBlock = some k' → w1.heap.size + 1 ≤ k' := fun k' hk' => (hown.lt k' hk').1
          by_cases hcz : cc = 0
          · have hk0 : k = 0 := hcvl.1 (Classical.byContradiction fun e => hc ⟨hcz, e⟩)
            have hq5 : (cc == 0) = true := by simp [hcz]
            have hq6 : (cc != 0) = false := by simp [hcz]
            have hq7 : ((k : Int) == 0) = true := by simp [hk0]
            clear hc hcvl hcz hk0
            go_wp2_with fail
            refine hi3.mono ?_
            rintro e w3 ⟨rfl, hb3⟩
            have hown2 := own_below hown hb3
            have hsz3 := hb3.size
            go_wp2_with (at_builtin; refine wpList_append_own _ rfl _ _ 37 rfl (w1.heap.size + 1) 9 i0 (.string ⟨#[]⟩) 1 16 Tryz.underlying37 hi hz0 hz1 hz2 rfl (by decide) (.slice A' k cap') k _ rfl (hown2.alloc _) ⟨w3.heap.size, 0, none⟩ 1 1 [.string _] rfl rfl news1 (fun u hu => by rw [List.mem_singleton.1 hu]; rfl) (by unfold maxLen; omega) (by omega) (by simp; omega) ?_)
            intro v' w5 hown3 hgrow _
            rw [Hsn.out] at hown3
            obtain ⟨A5, c5, rfl⟩ := own_slice hown3
            have hwr3 : Below w.heap.size w w5 := (hwr.trans (hb3.mono hwr.size)).trans ((((Below.refl _ w3).alloc (show w1.heap.size + 1 ≤ _ by omega) _).grown hgrow (by simp; omega) hrow).mono (by omega))
            clear hgrow hown hown2 hP2
            have hkq : k + 1 ≤ 9 := by omega
            generalize hqk : k + 1 = q at *
            obtain ⟨g, rfl, hcell⟩ := own_textAt hown3 (by omega)
            clear hown3
            have Hcell := Lib.hid hcell
            clear hcell
            by_cases h1 : q = 1
            · obtain ⟨p, hp⟩ : ∃ p, qs = [p] := List.length_eq_one_iff.1 (by omega)
              have x0 := Hcell.out 0 p (by rw [hp]; rfl)
              have Hw : Hid (fText c l = p) := by rw [Hid, Hf.out, ← Hqs.out, hp]; rfl
              have hqi : ((q : Int) == 1) = true := by rw [h1]; rfl
              clear hp
              go_wp2_with fail
              go_ret2
              exact ⟨by rw [Hw.out, He.out]; rfl, hwr3⟩
            · have hqi : ((q : Int) == 1) = false := by simp; omega
              go_wp2_with fail
              go_loopw [9, 10] (fun v i wx => ∃ j : Nat, j ≤ q ∧ i = .int .i64 j ∧ ∃ t : ByteArray, v = .string t ∧ t = bs ([109, 97, 120, 40] ++ Lib.join (qs.take j) [44]) ∧ t.size ≤ 45 * j + 4 ∧ wx = w5) (fun _ i _ => q - (intOf i).toNat)
              case atStart => exact ⟨0, by omega, rfl, _, rfl, rfl, by decide, rfl⟩
              case round =>
                obtain ⟨j, hj, rfl, t, rfl, ht, htz, rfl⟩ := hrel
                have Ht := Lib.hid ht
                clear ht
                by_cases hjq : j < q
                · obtain ⟨x, hx⟩ : ∃ x, qs[j]? = some x := ⟨_, List.getElem?_eq_getElem (show j < qs.length by omega)⟩
                  have hxz : (bs x).size ≤ 44 := by rw [bs_size']; exact hql x (List.mem_of_getElem? hx)
                  have hcx := Hcell.out j x hx
                  have Hst : Hid (qs.take (j + 1) = qs.take j ++ [x]) := take_snoc hx
                  clear hx
                  rcases Nat.eq_zero_or_pos j with rfl | hj0
                  · have Hn : Hid (t ++ bs x = bs ([109, 97, 120, 40] ++ Lib.join (qs.take 1) [44])) := by
                      rw [Hid, Ht.out, Hst.out]
                      rw [show (bs ([109, 97, 120, 40] ++ Lib.join (qs.take 0) [44]) ++ bs x : ByteArray) = bs (([109, 97, 120, 40] ++ Lib.join (qs.take 0) [44]) ++ x) from bs_app _ _]
                      simp [Lib.join, List.intercalate]
                    have hz2 : (t ++ bs x).size ≤ 45 * 1 + 4 := by rw [ByteArray.size_append]; omega
                    have hcx0 := hcx
                    go_wp2_with fail
                    go_roundw
                    case rel => exact ⟨1, by omega, by go_num, t ++ bs x, rfl, Hn.out, hz2, by simp⟩
                    case measure => simp [intOf]; omega
                  · have Hn : Hid ((t ++ ⟨#[44]⟩ : ByteArray) ++ bs x = bs ([109, 97, 120, 40] ++ Lib.join (qs.take (j + 1)) [44])) := by
                      have hne : qs.take j ≠ [] := fun e => by
                        have := congrArg List.length e
                        rw [List.length_take, List.length_nil] at this; omega
                      rw [Hid, Ht.out, Hst.out, join_snoc _ _ hne]
                      rw [show (bs ([109, 97, 120, 40] ++ Lib.join (qs.take j) [44]) ++ ⟨#[44]⟩ : ByteArray) = bs (([109, 97, 120, 40] ++ Lib.join (qs.take j) [44]) ++ [44]) from bs_app _ [44]]
                      rw [show (bs (([109, 97, 120, 40] ++ Lib.join (qs.take j) [44]) ++ [44]) ++ bs x : ByteArray) = bs ((([109, 97, 120, 40] ++ Lib.join (qs.take j) [44]) ++ [44]) ++ x) from bs_app _ _]
                      simp
                    have hz2 : ((t ++ ⟨#[44]⟩ : ByteArray) ++ bs x).size ≤ 45 * (j + 1) + 4 := by rw [ByteArray.size_append, ByteArray.size_append, show (⟨#[44]⟩ : ByteArray).size = 1 from rfl]; omega
                    have hji : (0 : Int) < (j : Int) := by omega
                    go_wp2_with fail
                    go_roundw
                    case rel => exact ⟨j + 1, by omega, by go_num, (t ++ ⟨#[44]⟩ : ByteArray) ++ bs x, rfl, Hn.out, hz2, by simp⟩
                    case measure => simp [intOf]; omega
                · have hfull : qs.take j = qs := List.take_of_length_le (by omega)
                  have Hw : Hid ((t ++ ⟨#[41]⟩ : ByteArray) = bs (fText c l)) := by
                    rw [Hid, Ht.out, hfull, Hf.out, ← Hqs.out, wholeB_more (by omega)]
                    exact bs_app _ [41]
                  clear hfull
                  go_wp2_with fail
                  go_ret2
                  exact ⟨by rw [← Hw.out, He.out]; rfl, hwr3⟩
          · have hq5 : (cc == 0) = false := by simp [hcz]
            have hq6 : (cc != 0) = true := by simp [hcz]
            clear hc hcvl hcz
            go_wp2_with fail
            refine hi3.mono ?_
            rintro e w3 ⟨rfl, hb3⟩
            have hown2 := own_below hown hb3
            have hsz3 := hb3.size
            go_wp2_with (at_builtin; refine wpList_append_own _ rfl _ _ 37 rfl (w1.heap.size + 1) 9 i0 (.string ⟨#[]⟩) 1 16 Tryz.underlying37 hi hz0 hz1 hz2 rfl (by decide) (.slice A' k cap') k _ rfl (hown2.alloc _) ⟨w3.heap.size, 0, none⟩ 1 1 [.string _] rfl rfl news1 (fun u hu => by rw [List.mem_singleton.1 hu]; rfl) (by unfold maxLen; omega) (by omega) (by simp; omega) ?_)
            intro v' w5 hown3 hgrow _
            rw [Hsn.out] at hown3
            obtain ⟨A5, c5, rfl⟩ := own_slice hown3
            have hwr3 : Below w.heap.size w w5 := (hwr.trans (hb3.mono hwr.size)).trans ((((Below.refl _ w3).alloc (show w1.heap.size + 1 ≤ _ by omega) _).grown hgrow (by simp; omega) hrow).mono (by omega))
            clear hgrow hown hown2 hP2
            have hkq : k + 1 ≤ 9 := by omega
            generalize hqk : k + 1 = q at *
            obtain ⟨g, rfl, hcell⟩ := own_textAt hown3 (by omega)
            clear hown3
            have Hcell := Lib.hid hcell
            clear hcell
            by_cases h1 : q = 1
            · obtain ⟨p, hp⟩ : ∃ p, qs = [p] := List.length_eq_one_iff.1 (by omega)
              have x0 := Hcell.out 0 p (by rw [hp]; rfl)
              have Hw : Hid (fText c l = p) := by rw [Hid, Hf.out, ← Hqs.out, hp]; rfl
              have hqi : ((q : Int) == 1) = true := by rw [h1]; rfl
              clear hp
              go_wp2_with fail
              go_ret2
              exact ⟨by rw [Hw.out, He.out]; rfl, hwr3⟩
            · have hqi : ((q : Int) == 1) = false := by simp; omega
              go_wp2_with fail
              go_loopw [9, 10] (fun v i wx => ∃ j : Nat, j ≤ q ∧ i = .int .i64 j ∧ ∃ t : ByteArray, v = .string t ∧ t = bs ([109, 97, 120, 40] ++ Lib.join (qs.take j) [44]) ∧ t.size ≤ 45 * j + 4 ∧ wx = w5) (fun _ i _ => q - (intOf i).toNat)
              case atStart => exact ⟨0, by omega, rfl, _, rfl, rfl, by decide, rfl⟩
              case round =>
                obtain ⟨j, hj, rfl, t, rfl, ht, htz, rfl⟩ := hrel
                have Ht := Lib.hid ht
                clear ht
                by_cases hjq : j < q
                · obtain ⟨x, hx⟩ : ∃ x, qs[j]? = some x := ⟨_, List.getElem?_eq_getElem (show j < qs.length by omega)⟩
                  have hxz : (bs x).size ≤ 44 := by rw [bs_size']; exact hql x (List.mem_of_getElem? hx)
                  have hcx := Hcell.out j x hx
                  have Hst : Hid (qs.take (j + 1) = qs.take j ++ [x]) := take_snoc hx
                  clear hx
                  rcases Nat.eq_zero_or_pos j with rfl | hj0
                  · have Hn : Hid (t ++ bs x = bs ([109, 97, 120, 40] ++ Lib.join (qs.take 1) [44])) := by
                      rw [Hid, Ht.out, Hst.out]
                      rw [show (bs ([109, 97, 120, 40] ++ Lib.join (qs.take 0) [44]) ++ bs x : ByteArray) = bs (([109, 97, 120, 40] ++ Lib.join (qs.take 0) [44]) ++ x) from bs_app _ _]
                      simp [Lib.join, List.intercalate]
                    have hz2 : (t ++ bs x).size ≤ 45 * 1 + 4 := by rw [ByteArray.size_append]; omega
                    have hcx0 := hcx
                    go_wp2_with fail
                    go_roundw
                    case rel => exact ⟨1, by omega, by go_num, t ++ bs x, rfl, Hn.out, hz2, by simp⟩
                    case measure => simp [intOf]; omega
                  · have Hn : Hid ((t ++ ⟨#[44]⟩ : ByteArray) ++ bs x = bs ([109, 97, 120, 40] ++ Lib.join (qs.take (j + 1)) [44])) := by
                      have hne : qs.take j ≠ [] := fun e => by
                        have := congrArg List.length e
                        rw [List.length_take, List.length_nil] at this; omega
                      rw [Hid, Ht.out, Hst.out, join_snoc _ _ hne]
                      rw [show (bs ([109, 97, 120, 40] ++ Lib.join (qs.take j) [44]) ++ ⟨#[44]⟩ : ByteArray) = bs (([109, 97, 120, 40] ++ Lib.join (qs.take j) [44]) ++ [44]) from bs_app _ [44]]
                      rw [show (bs (([109, 97, 120, 40] ++ Lib.join (qs.take j) [44]) ++ [44]) ++ bs x : ByteArray) = bs ((([109, 97, 120, 40] ++ Lib.join (qs.take j) [44]) ++ [44]) ++ x) from bs_app _ _]
                      simp
                    have hz2 : ((t ++ ⟨#[44]⟩ : ByteArray) ++ bs x).size ≤ 45 * (j + 1) + 4 := by rw [ByteArray.size_append, ByteArray.size_append, show (⟨#[44]⟩ : ByteArray).size = 1 from rfl]; omega
                    have hji : (0 : Int) < (j : Int) := by omega
                    go_wp2_with fail
                    go_roundw
                    case rel => exact ⟨j + 1, by omega, by go_num, (t ++ ⟨#[44]⟩ : ByteArray) ++ bs x, rfl, Hn.out, hz2, by simp⟩
                    case measure => simp [intOf]; omega
                · have hfull : qs.take j = qs := List.take_of_length_le (by omega)
                  have Hw : Hid ((t ++ ⟨#[41]⟩ : ByteArray) = bs (fText c l)) := by
                    rw [Hid, Ht.out, hfull, Hf.out, ← Hqs.out, wholeB_more (by omega)]
                    exact bs_app _ [41]
                  clear hfull
                  go_wp2_with fail
                  go_ret2
                  exact ⟨by rw [← Hw.out, He.out]; rfl, hwr3⟩
  · have hq1 : (er == 0) = false := by simp [he]
    have hq2 : (er != 0) = true := by simp [he]
    have Hf : Hid (fText c l = []) := by rw [Hid, Hft.out, if_neg he]
    have He := Lib.hid he; clear he
    go_enter Tryz.func7, Tryz.ntmps7
    go_wp2_with fail
    refine hN.mono ?_
    rintro e w1 ⟨v, rfl, ⟨A2, m2, c2, rfl, _, _, _, _⟩, hb1⟩
    have hb01 : Below w.heap.size w w1 := hb0.trans (hb1.mono hb0.size)
    go_wp2_with fail
    go_ret2
    exact ⟨by rw [Hf.out]; rfl, hb01.alloc hb01.size _⟩
end Go.Proofs.YtgbbmcfhakliiaaGreatDoor
