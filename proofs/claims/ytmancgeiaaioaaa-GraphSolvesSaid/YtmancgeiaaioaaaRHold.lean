/-
  'Holds' of tenetref02.
-/
import Derived.Test.YtmancgeiaaioaaaGHold
import Derived.Test.YtmancgeiaaioaaaRGVld
namespace Go.Proofs.Ytmancgeiaaioaaa
open Go Go.RowKit

set_option maxRecDepth 100000 in
set_option maxHeartbeats 2000000 in
theorem rvalue_any (c : Int) (A : Option Addr) (n cap : Nat) (l : List (Int × Int)) (vA : Option Addr) (vn vc : Nat) (vs : List Int) (w : World) (h : PL w w.heap.size A n l) (hx : IL w w.heap.size vA vn vs) (hn : n ≤ 9223372036854775807)
    (hl : ∀ x ∈ l, (0 ≤ x.1 ∧ x.1 < vn) ∧ 0 ≤ x.2 ∧ x.2 ≤ 1000) (hvs : Vs vs) (hc : 0 ≤ c ∧ c ≤ 1000) :
    Calls Try.prog 45 #[.agg #[.int .i64 c, .slice A n cap], .slice vA vn vc] w fun e w' => e = .returned (.int .i64 (valM c l vs)) ∧ Below w.heap.size w w' := by
  have hX : Below w.heap.size w (w.alloc (.cells #[.int .i64 c, .slice A n cap] 43)) := (Below.refl _ w).alloc (Nat.le_refl _) _
  have hXs : (w.alloc (.cells #[.int .i64 c, .slice A n cap] 43)).heap.size = w.heap.size + 1 := by simp
  have hx1 : (w.alloc (.cells #[.int .i64 c, .slice A n cap] 43)).cell? ⟨w.heap.size, 1, none⟩ = some (.slice A n cap) := by simp
  have Hl := Lib.hid hl
  have HX := Lib.hid hX
  have HXs := Lib.hid hXs
  have Hx1 := Lib.hid hx1
  clear hl hX hXs hx1
  go_enter Try.func45, Try.ntmps45
  go_wp2_with fail
  go_loopw [5, 6] (fun v i wr => ∃ k : Nat, k ≤ n ∧ i = .int .i64 k ∧ ∃ z : Int, v = .int .i64 z ∧ valM c (l.take k) vs = z ∧ Below (w.heap.size + 1) (w.alloc (.cells #[.int .i64 c, .slice A n cap] 43)) wr) (fun _ i _ => n - (intOf i).toNat)
  case atStart => exact ⟨0, Nat.zero_le _, rfl, c, rfl, rfl, Below.refl _ _⟩
  case round =>
    obtain ⟨k, hk, rfl, z, rfl, hz, hbx⟩ := hrel
    have Hz := Lib.hid hz
    have hzl := valM_le hvs hc.1 hc.2 (l.take k) fun x hx => (Hl.out x (List.mem_of_mem_take hx)).2.2
    rw [hz] at hzl
    clear hz
    have hb : Below w.heap.size w wr := HX.out.trans (hbx.mono (by omega))
    have hsz : w.heap.size + 1 ≤ wr.heap.size := by have := hbx.size; have := HXs.out; omega
    have b1 : wr.cell? ⟨w.heap.size, 1, none⟩ = some (.slice A n cap) := (hbx.cell (p := ⟨w.heap.size, 1, none⟩) (by show w.heap.size < _; omega)).trans Hx1.out
    by_cases hlt : k < n
    · obtain ⟨b, off, x, rfl, hbl, hx1, y0, y1⟩ := (h.below hb).at_ hlt
      obtain ⟨⟨q0, q1⟩, q2, q3⟩ := Hl.out x (List.mem_of_getElem? hx1)
      obtain ⟨g, og, u, rfl, hgl, hu, u0⟩ := (hx.below hb).at_ (show x.1.toNat < vn by omega)
      have hu9 := hvs u (List.mem_of_getElem? hu)
      have e1 : ((x.1.toNat : Nat) : Int) = x.1 := by omega
      have hxv : x.1 < (vn : Int) := by omega
      have hki : (k : Int) < (n : Int) := by omega
      have Hst : Hid (valM c (l.take (k + 1)) vs = if z < u + x.2 then u + x.2 else z) := by rw [Hid, take_snoc hx1, valM_snoc, Hz.out, gx_at hu]
      by_cases ha : z < u + x.2
      · have ha2 : z ≤ u + x.2 := by omega
        have Hi : Hid (valM c (l.take (k + 1)) vs = u + x.2) := by rw [Hid, Hst.out, if_pos ha]
        clear hx1 hu
        go_wp2_with fail
        go_quiet (fail)
        go_wp2_with fail
        go_roundw
        case rel => exact ⟨k + 1, by omega, by go_num, _, rfl, Hi.out, below_drewN hbx _⟩
        case measure => simp [intOf]; omega
      · have Hi : Hid (valM c (l.take (k + 1)) vs = z) := by rw [Hid, Hst.out, if_neg ha]
        clear hx1 hu
        go_wp2_with fail
        go_quiet (fail)
        go_wp2_with fail
        go_roundw
        case rel => exact ⟨k + 1, by omega, by go_num, _, rfl, Hi.out, below_drewN hbx _⟩
        case measure => simp [intOf]; omega
    · have hfull : l.take k = l := List.take_of_length_le (by have := h.1; omega)
      have hkn : k = n := by omega
      rw [hfull] at Hz
      clear hfull
      subst hkn
      have hji : ¬ (k : Int) < (k : Int) := by omega
      go_wp2_with fail
      go_ret
      exact ⟨ret_int Hz.out.symm, hb⟩

set_option maxRecDepth 100000 in
set_option maxHeartbeats 4000000 in
theorem rbroken_any (n : Nat) (A : Option Addr) (K cap : Nat) (cs : List LCn) (vA : Option Addr) (vc : Nat) (vs : List Int) (w : World) (h : CL w w.heap.size A K cs) (hK : K ≤ 9223372036854775807) (hcs : ∀ c ∈ cs, Con n c)
    (hx : IL w w.heap.size vA n vs) (hvs : Vs vs) :
    Calls Try.prog 33 #[.slice A K cap, .slice vA n vc] w fun e w' => ∃ i : Int, e = .returned (.int .i64 i) ∧ FstI (brkB vs) cs i ∧ Below w.heap.size w w' := by
  go_enter Try.func33, Try.ntmps33
  go_wp2_with fail
  go_loopw [5] (fun i wr => ∃ k : Nat, k ≤ K ∧ i = .int .i64 k ∧ Hid (∀ (j : Nat) (c : LCn), j < k → cs[j]? = some c → brkB vs c = false) ∧ Below w.heap.size w wr) (fun i _ => K - (intOf i).toNat)
  case atStart => exact ⟨0, Nat.zero_le _, rfl, fun j c hj _ => by omega, Below.refl _ _⟩
  case round =>
    obtain ⟨k, hk, rfl, Hno, hb⟩ := hrel
    by_cases hlt : k < K
    · obtain ⟨b, off, c, A1, m1, c1, A2, m2, c2, rfl, hbl, hc, y0, y1, y2, y3, p1, p2, hcap1, hcap2⟩ := (h.below hb).at_ hlt
      have hsz := hb.size
      have Hcon := hcs c (List.mem_of_getElem? hc)
      have hki : (k : Int) < (K : Int) := by omega
      have p1w : PL wr wr.heap.size A1 m1 c.1.2 := p1.more hsz
      have p2w : PL wr wr.heap.size A2 m2 c.2.2 := p2.more hsz
      have hb2 : ∀ x ∈ c.2.2, (0 ≤ x.1 ∧ x.1 < n) ∧ 0 ≤ x.2 ∧ x.2 ≤ 1000 := fun x hx => by
        rcases Hcon.b1 with h0 | ⟨y, h0, _, h1⟩
        · rw [h0] at hx; cases hx
        · rw [h0] at hx; rw [List.mem_singleton.1 hx]; exact h1
      have hxw : IL wr wr.heap.size vA n vs := (hx.below hb).more hsz
      have hA : ∀ Y, Below wr.heap.size wr Y → Calls Try.prog 45 #[.agg #[.int .i64 c.1.1, .slice A1 m1 c1], .slice vA n vc] Y fun e w' => e = .returned (.int .i64 (valM c.1.1 c.1.2 vs)) ∧ Below wr.heap.size wr w' := fun Y hY =>
        (rvalue_any c.1.1 A1 m1 c1 c.1.2 vA n vc vs Y (p1w.lift hY) (hxw.lift hY) (by omega) Hcon.a1 hvs Hcon.a0).mono fun e w' ⟨h1, h2⟩ => ⟨h1, hY.trans (h2.mono hY.size)⟩
      have hB : ∀ Y, Below wr.heap.size wr Y → Calls Try.prog 45 #[.agg #[.int .i64 c.2.1, .slice A2 m2 c2], .slice vA n vc] Y fun e w' => e = .returned (.int .i64 (valM c.2.1 c.2.2 vs)) ∧ Below wr.heap.size wr w' := fun Y hY =>
        (rvalue_any c.2.1 A2 m2 c2 c.2.2 vA n vc vs Y (p2w.lift hY) (hxw.lift hY) (by omega) hb2 hvs Hcon.b0).mono fun e w' ⟨h1, h2⟩ => ⟨h1, hY.trans (h2.mono hY.size)⟩
      have hSx : ∀ w', Below wr.heap.size wr w' → (w'.cell? ⟨b, off + k * 4, none⟩ = some (.int .i64 c.1.1) ∧ w'.cell? ⟨b, off + k * 4 + 1, none⟩ = some (.slice A1 m1 c1) ∧ w'.cell? ⟨b, off + k * 4 + 2, none⟩ = some (.int .i64 c.2.1) ∧ w'.cell? ⟨b, off + k * 4 + 3, none⟩ = some (.slice A2 m2 c2)) := fun w' hw =>
        ⟨(hw.cell (p := ⟨b, _, none⟩) (by show b < _; omega)).trans y0, (hw.cell (p := ⟨b, _, none⟩) (by show b < _; omega)).trans y1, (hw.cell (p := ⟨b, _, none⟩) (by show b < _; omega)).trans y2, (hw.cell (p := ⟨b, _, none⟩) (by show b < _; omega)).trans y3⟩
      have HSx := Lib.hid hSx
      have Hwx : Hid (∀ w', Below wr.heap.size wr w' → Below w.heap.size w w') := fun w' hb' => hb.trans (hb'.mono hsz)
      have Hc := Lib.hid hc
      have hzz : Below wr.heap.size wr wr.drew := (Below.refl _ _).drew
      obtain ⟨za, hza⟩ : ∃ za, valM c.1.1 c.1.2 vs = za := ⟨_, rfl⟩
      obtain ⟨zb, hzb⟩ : ∃ zb, valM c.2.1 c.2.2 vs = zb := ⟨_, rfl⟩
      rw [hza] at hA
      rw [hzb] at hB
      have HA := Lib.hid hA
      have HB := Lib.hid hB
      have Hbrk : Hid (brkB vs c = decide (zb < za)) := by rw [Hid, brkB, hza, hzb]
      clear hA hB hSx hc hza hzb p1 p2 p1w p2w
      by_cases hz : zb < za
      · go_wp2_with fail
        go_region_held3 (fun w' => w'.cell? ⟨b, off + k * 4, none⟩ = some (.int .i64 c.1.1) ∧ w'.cell? ⟨b, off + k * 4 + 1, none⟩ = some (.slice A1 m1 c1) ∧ w'.cell? ⟨b, off + k * 4 + 2, none⟩ = some (.int .i64 c.2.1) ∧ w'.cell? ⟨b, off + k * 4 + 3, none⟩ = some (.slice A2 m2 c2)) (first | exact HSx.out _ (by assumption))
          (first | (go_at_call 45; with_reducible refine (HA.out _ (by assumption)).mono ?_; rintro e w5 ⟨rfl, hz5⟩) | (go_at_call 45; with_reducible refine (HB.out _ (by assumption)).mono ?_; rintro e w6 ⟨rfl, hz6⟩))
        go_wp2_with fail
        go_ret
        exact ⟨_, rfl, .inr ⟨k, rfl, ⟨c, Hc.out, by rw [Hbrk.out]; simpa using hz⟩, Hno.out⟩, Hwx.out _ (by assumption)⟩
      · go_wp2_with fail
        go_region_held3 (fun w' => w'.cell? ⟨b, off + k * 4, none⟩ = some (.int .i64 c.1.1) ∧ w'.cell? ⟨b, off + k * 4 + 1, none⟩ = some (.slice A1 m1 c1) ∧ w'.cell? ⟨b, off + k * 4 + 2, none⟩ = some (.int .i64 c.2.1) ∧ w'.cell? ⟨b, off + k * 4 + 3, none⟩ = some (.slice A2 m2 c2)) (first | exact HSx.out _ (by assumption))
          (first | (go_at_call 45; with_reducible refine (HA.out _ (by assumption)).mono ?_; rintro e w5 ⟨rfl, hz5⟩) | (go_at_call 45; with_reducible refine (HB.out _ (by assumption)).mono ?_; rintro e w6 ⟨rfl, hz6⟩))
        go_wp2_with fail
        go_roundw
        case rel =>
          refine ⟨k + 1, by omega, by go_num, fun j d hj hd => ?_, Hwx.out _ (by assumption)⟩
          by_cases hjk : j = k
          · subst hjk
            have h9 := Hc.out
            rw [hd] at h9
            cases h9
            rw [Hbrk.out]; simpa using hz
          · exact Hno.out j d (by omega) hd
        case measure => simp [intOf]; omega
    · have hkK : k = K := by omega
      subst hkK
      have hjm2 : ¬ (k : Int) < (k : Int) := by omega
      go_wp2_with fail
      go_ret
      exact ⟨-1, rfl, .inl ⟨rfl, fun j c hc => Hno.out j c (by have := (List.getElem?_eq_some_iff.1 hc).1; have := h.1; omega) hc⟩, hb⟩

set_option maxRecDepth 100000 in
set_option maxHeartbeats 2000000 in
theorem rholds_any (v : Int) (A : Option Addr) (K cap : Nat) (cs : List LCn) (vA : Option Addr) (vn vc : Nat) (vs : List Int) (w : World) (h : CL w w.heap.size A K cs) (hK : K ≤ 9223372036854775807) (hx : IL w w.heap.size vA vn vs) (hvn : vn ≤ 9223372036854775807) :
    Calls Try.prog 16 #[.int .i64 v, .slice A K cap, .slice vA vn vc] w (HoldsPost v cs vs w) := by
  have hva := refGvalid_any v A K cap cs w h hK
  have hvl : vs.length = vn := hx.1
  cases hg : gvld v cs
  · rw [hg] at hva
    have Hva := Lib.hid hva
    clear hva
    go_enter Try.func16, Try.ntmps16
    go_wp2_with fail
    refine Hva.out.mono ?_
    rintro e w1 ⟨rfl, hb1⟩
    go_wp2_with fail
    go_ret2
    exact ⟨hb1, .inl ⟨hg, rfl⟩⟩
  · rw [hg] at hva
    have Hva := Lib.hid hva
    clear hva
    have hg' := hg
    unfold gvld at hg'
    rw [Bool.and_eq_true, decide_eq_true_eq] at hg'
    obtain ⟨⟨g0, g1, g2⟩, g3⟩ := hg'
    obtain ⟨n, rfl⟩ : ∃ n : Nat, v = n := ⟨v.toNat, by omega⟩
    have hcs : ∀ c ∈ cs, Con n c := fun c hc => con_of (by have := List.all_eq_true.1 g3 c hc; exact this)
    have Hcs := Lib.hid hcs
    have Hvl := Lib.hid hvl
    clear hcs g3 hvl
    by_cases hl : vn = n
    · subst hl
      have hne : ((vn : Int) == (vn : Int)) = true := by simp
      go_enter Try.func16, Try.ntmps16
      go_wp2_with fail
      refine Hva.out.mono ?_
      rintro e w1 ⟨rfl, hbw1⟩
      go_wp2_with fail
      go_loopw [8] (fun i wr => ∃ k : Nat, k ≤ vn ∧ i = .int .i64 k ∧ (vs.take k).any outB = false ∧ Below w.heap.size w wr) (fun i _ => vn - (intOf i).toNat)
      case atStart => exact ⟨0, Nat.zero_le _, rfl, rfl, hbw1⟩
      case round =>
        obtain ⟨k, hk, rfl, hno, hb⟩ := hrel
        have Hno := Lib.hid hno; clear hno
        by_cases hlt : k < vn
        · obtain ⟨b, off, x, rfl, hbl, hx1, h0⟩ := (hx.below hb).at_ hlt
          have hki : (k : Int) < (vn : Int) := by omega
          have Hx1 := Lib.hid hx1
          clear hx1
          by_cases q1 : x < 0
          · have Hi : Hid (vs.any outB = true) := List.any_eq_true.2 ⟨x, List.mem_of_getElem? Hx1.out, by simp [outB, q1]⟩
            go_wp2_with fail
            go_ret2
            exact ⟨hb, .inr ⟨hg, .inl ⟨.inr Hi.out, rfl⟩⟩⟩
          · by_cases q2 : 1099511627776 < x
            · have Hi : Hid (vs.any outB = true) := List.any_eq_true.2 ⟨x, List.mem_of_getElem? Hx1.out, by simp [outB, q2]⟩
              go_wp2_with fail
              go_ret2
              exact ⟨hb, .inr ⟨hg, .inl ⟨.inr Hi.out, rfl⟩⟩⟩
            · have Hi : Hid ((vs.take (k + 1)).any outB = false) := by
                rw [Hid, take_snoc Hx1.out, List.any_append, Hno.out]
                simp [outB]
                omega
              go_wp2_with fail
              go_roundw
              case rel => exact ⟨k + 1, by omega, by go_num, Hi.out, hb⟩
              case measure => simp [intOf]; omega
        · have hkn : k = vn := by omega
          have ho : vs.any outB = false := by
            have := Hno.out
            rwa [List.take_of_length_le (by have := Hvl.out; omega)] at this
          have hib := rbroken_any vn A K cap cs vA vc vs wr ((h.below hb).more hb.size) hK Hcs.out ((hx.below hb).more hb.size) (outB_any ho)
          have Hib := Lib.hid hib
          have Ho := Lib.hid ho
          clear hib ho
          subst hkn
          have hji : ¬ (k : Int) < (k : Int) := by omega
          go_wp2_with fail
          refine Hib.out.mono ?_
          rintro e w3 ⟨i, rfl, hi, hb3⟩
          go_wp2_with fail
          go_ret2
          exact ⟨hb.trans (hb3.mono hb.size), .inr ⟨hg, .inr ⟨by rw [Hvl.out], Ho.out, i, rfl, hi⟩⟩⟩
    · have hli : ¬ (vn : Int) = (n : Int) := by omega
      have hne : ((vn : Int) == (n : Int)) = false := by simpa using hli
      go_enter Try.func16, Try.ntmps16
      go_wp2_with fail
      refine Hva.out.mono ?_
      rintro e w1 ⟨rfl, hbw1⟩
      go_wp2_with fail
      go_ret2
      exact ⟨hbw1, .inr ⟨hg, .inl ⟨.inl (by rw [Hvl.out]; exact hli), rfl⟩⟩⟩
end Go.Proofs.Ytmancgeiaaioaaa
