/-
  'Eval' of the reference: the same number and the same error as package level's, for every level and every list of numbers.
-/
import Derived.Test.YtpahgbnfgnmlaaaDoorEval
namespace Go.Proofs.YtpahgbnfgnmlaaaDoor
open Go Go.RowKit

set_option maxRecDepth 100000 in
set_option maxHeartbeats 4000000 in
theorem refEval_any (c : Int) (A : Option Addr) (n cap : Nat) (l : List (Int × Int)) (V : Option Addr) (m capV : Nat) (vals : List Int) (w : World)
    (h : PL w w.heap.size A n l) (hn : n ≤ cap) (hm : cap ≤ 9223372036854775807) (hv : IL w w.heap.size V m vals) (_hmv : m ≤ 9223372036854775807) :
    Calls Tryd.prog 34 #[.agg #[.int .i64 c, .slice A n cap], .slice V m capV] w fun e w' => e = .returned (.tuple #[.int .i64 (evV c vals l), .int .i64 (evE c vals l)]) ∧ Below w.heap.size w w' := by
  have hmv := _hmv
  have hbw : Below w.heap.size w (w.alloc (.cells #[.int .i64 c, .slice A n cap] 24)) := (Below.refl _ _).alloc (Nat.le_refl _) _
  have hval := refValid_any c A n cap l _ (h.lift hbw) hn hm
  cases h1 : vld c l
  · have Hf : Hid (evV c vals l = 0) := by rw [Hid, evV, h1]; rfl
    have Hg : Hid (evE c vals l = 4) := by rw [Hid, evE, h1]; rfl
    rw [h1] at hval
    have Hv := Lib.hid hval; clear hval h1
    go_enter Tryd.func34, Tryd.ntmps34
    go_wp2_with fail
    refine Hv.out.mono ?_
    rintro e w1 ⟨rfl, hb1⟩
    go_wp2_with fail
    go_ret2
    exact ⟨ret_two Hf.out.symm Hg.out.symm, hbw.trans (hb1.mono hbw.size)⟩
  have Hat := Lib.hid (fun k (x : Int × Int) (hx : l[k]? = some x) => vld_at h1 hx)
  have Hf : Hid (evV c vals l = if evBad vals l = true then 0 else evMax c vals l) := by rw [Hid, evV, if_pos h1]
  have Hg : Hid (evE c vals l = if evBad vals l = true then 1 else 0) := by rw [Hid, evE, if_pos h1]
  have hlen : n ≤ 8 := by have := (vld_iff.1 h1).len; have := h.1; omega
  rw [h1] at hval
  have Hv := Lib.hid hval; clear hval h1
  go_enter Tryd.func34, Tryd.ntmps34
  go_wp2_with fail
  refine Hv.out.mono ?_
  rintro e w1 ⟨rfl, hb1⟩
  have hbb : Below (w.heap.size + 1) (w.alloc (.cells #[.int .i64 c, .slice A n cap] 24)) w1 := hb1.mono (by simp)
  have g1 : w1.cell? ⟨w.heap.size, 0, none⟩ = some (.int .i64 c) := (hbb.cell (p := ⟨w.heap.size, 0, none⟩) (by simp)).trans (by simp)
  go_wp2_with fail
  go_loopw [6, 7] (fun t i wr => ∃ k : Nat, k ≤ n ∧ i = .int .i64 k ∧ t = .int .i64 (evMax c vals (l.take k)) ∧ evBad vals (l.take k) = false ∧ Below (w.heap.size + 1) (w.alloc (.cells #[.int .i64 c, .slice A n cap] 24)) wr) (fun _ i _ => n - (intOf i).toNat)
  case atStart => exact ⟨0, Nat.zero_le _, rfl, rfl, rfl, hbb⟩
  case round =>
    obtain ⟨k, hk, rfl, rfl, hno, hbr⟩ := hrel
    have Hno := Lib.hid hno; clear hno g1
    have hbwr := back0 hbr
    have hsr : w.heap.size + 1 ≤ wr.heap.size := by simpa using hbr.size
    have g2 : wr.cell? ⟨w.heap.size, 1, none⟩ = some (.slice A n cap) := (hbr.cell (p := ⟨w.heap.size, 1, none⟩) (by simp)).trans (by simp)
    by_cases hlt : k < n
    · obtain ⟨b, off, x, rfl, hbl, hx, hx0, hx1⟩ := (h.below hbwr).at_ hlt
      obtain ⟨⟨q1, q2⟩, q3, q4⟩ := Hat.out k x hx
      have hbs := evBad_snoc vals (l.take k) x
      have hms := evMax_snoc c vals (l.take k) x
      have hbo := evBad_of (vals := vals) hx
      rw [← take_snoc hx] at hbs hms
      have hnn := asv_nn vals x.1
      obtain ⟨v, hve⟩ : ∃ v : Nat, x.1 = v := ⟨x.1.toNat, by omega⟩
      have hq2 : v ≤ 1199 := by omega
      by_cases hv0 : v < m
      · obtain ⟨b2, off2, z, rfl, hbl2, hz, hcz⟩ := (hv.below hbwr).at_ hv0
        have hae : asv vals x.1 = if 0 < z then z else 0 := by rw [hve]; exact asv_some hz
        rw [hve] at hx0
        by_cases hz0 : 0 < z
        · rw [if_pos hz0] at hae
          rw [hae] at hbs hms hbo
          have Hms := Lib.hid hms; clear hms hae
          by_cases ha : 2147483647 < z
          · have Hb := Lib.hid (hbo ha); clear hbo hbs
            go_wp2
            go_ret2
            exact ⟨ret_two (by rw [Hf.out, Hb.out]; rfl) (by rw [Hg.out, Hb.out]; rfl), hbwr⟩
          · have Hb : Hid (evBad vals (l.take (k + 1)) = false) := by rw [Hid, hbs, Hno.out]; simp [ha]
            clear hbo hbs
            generalize evMax c vals (l.take k) = t at Hms ⊢
            go_wp2
            go_roundw
            case rel => exact ⟨k + 1, by omega, by go_num, by rw [Hms.out], Hb.out, hbr⟩
            case measure => simp [intOf]; omega
        · rw [if_neg hz0] at hae
          rw [hae] at hbs hms
          rw [Int.zero_add] at hms
          have Hms := Lib.hid hms; clear hms hae hbo
          have Hb : Hid (evBad vals (l.take (k + 1)) = false) := by rw [Hid, hbs, Hno.out]; simp
          clear hbs
          generalize evMax c vals (l.take k) = t at Hms ⊢
          go_wp2
          go_roundw
          case rel => exact ⟨k + 1, by omega, by go_num, by rw [Hms.out], Hb.out, hbr⟩
          case measure => simp [intOf]; omega
      · have hae : asv vals x.1 = 0 := by rw [hve]; exact asv_none (by have := hv.1; omega)
        rw [hve] at hx0
        rw [hae] at hbs hms
        rw [Int.zero_add] at hms
        have Hms := Lib.hid hms; clear hms hae hbo
        have Hb : Hid (evBad vals (l.take (k + 1)) = false) := by rw [Hid, hbs, Hno.out]; simp
        clear hbs
        generalize evMax c vals (l.take k) = t at Hms ⊢
        go_wp2
        go_roundw
        case rel => exact ⟨k + 1, by omega, by go_num, by rw [Hms.out], Hb.out, hbr⟩
        case measure => simp [intOf]; omega
    · have hfull : l.take k = l := List.take_of_length_le (by have := h.1; omega)
      rw [hfull] at Hno ⊢
      clear hfull
      go_wp2
      go_ret2
      exact ⟨ret_two (by rw [Hf.out, Hno.out]; rfl) (by rw [Hg.out, Hno.out]; rfl), hbwr⟩
end Go.Proofs.YtpahgbnfgnmlaaaDoor
