/-
  'follows' and 'Follows' of the reference of package graph.
-/
import Derived.Test.YtolilmodihgaiaaGFolM
namespace Go.Proofs.Ytolilmodihgaiaa
open Go Go.RowKit

set_option maxRecDepth 100000 in
set_option maxHeartbeats 4000000 in
theorem rfollows_any (n : Nat) (A : Option Addr) (K cap : Nat) (cs : List LCn) (c : LCn) (A1 : Option Addr) (n1 c1 : Nat) (A2 : Option Addr) (n2 c2 : Nat) (w : World) (h : CL w w.heap.size A K cs) (hcs : ∀ c ∈ cs, Con n c) (hn : n ≤ 1200) (hK : K ≤ 3000)
    (p1 : PL w w.heap.size A1 n1 c.1.2) (p2 : PL w w.heap.size A2 n2 c.2.2) (hc : Con n c) :
    Calls Try.prog 47 #[.int .i64 n, .slice A K cap, .agg #[.int .i64 c.1.1, .slice A1 n1 c1, .int .i64 c.2.1, .slice A2 n2 c2]] w fun e w' => e = .returned (.bool (folB (Sat fun e => e ∈ esA n cs) (edgC n c 0))) ∧ Below w.heap.size w w' := by
  have hX : Below w.heap.size w (w.alloc (.cells #[.int .i64 c.1.1, .slice A1 n1 c1, .int .i64 c.2.1, .slice A2 n2 c2] 37)) := (Below.refl _ _).alloc (Nat.le_refl _) _
  have HX := Lib.hid hX
  have Hcs := Lib.hid hcs
  have Hc := Lib.hid hc
  have hEl : (rE n cs).length ≤ 30000 := by
    have h1 := rEk_len hcs cs.length
    have h2 := h.1
    unfold rE
    omega
  have hEc : (edgC n c 0).length ≤ 9 := by have := hc.al; unfold edgC; simp; omega
  have hso := Lib.hid (rsolve_any n A K cap cs _ ((h.below hX).more hX.size) hcs hn hK)
  clear hcs hc
  go_enter Try.func47, Try.ntmps47
  go_wp2_with fail
  refine hso.out.mono ?_
  rintro e w1 ⟨hb1, hr⟩
  have hb1' := hb1.mono (B' := w.heap.size + 1) (by simp)
  obtain ⟨g0, g1, g2, g3, hX1⟩ := box4 hb1'
  have hs1 : w.heap.size + 1 ≤ w1.heap.size := by have := hb1'.size; simpa using this
  clear hb1
  rcases hr with ⟨rfl, hno⟩ | ⟨u, L, rfl, _, hRS⟩
  · have Hyes : Hid (folB (Sat fun e => e ∈ esA n cs) (edgC n c 0) = true) := folB_iff.2 fun y hy => (hno y hy).elim
    clear hno
    go_wp2_with fail
    go_ret
    exact ⟨ret_bool Hyes.out.symm, hX1⟩
  · have hy0 : Hid (∃ y0 : Nat → Int, ∀ e ∈ rE n cs, hol y0 e) := ⟨_, rE_iff.2 hRS.sat⟩
    have hed := Lib.hid (redges_any n A K cap cs w1 ((h.below hX1).more hX1.size) Hcs.out hn hK)
    clear hRS
    go_wp2_with fail
    refine hed.out.mono ?_
    rintro e w2 ⟨v2, rfl, hown2, hb2⟩
    have hb2' := hb1'.trans (hb2.mono hs1)
    clear g0 g1 g2 g3
    obtain ⟨g0, g1, g2, g3, hX2⟩ := box4 hb2'
    have hs2 : w.heap.size + 1 ≤ w2.heap.size := by have := hb2'.size; simpa using this
    obtain ⟨Ae, ce, rfl, _, _, hRL⟩ := RL.of_own hown2
    have hpa := Lib.hid (parts_any n c A1 n1 c1 A2 n2 c2 w2.heap.size none 0 0 [] w2 ((p1.below hX2).more hX2.size) ((p2.below hX2).more hX2.size) Hc.out (Nat.le_refl _) (World.ownsRow_nil _ _ _ _) (by simp))
    clear hown2 hb1' hb2
    go_wp2_with fail
    refine hpa.out.mono ?_
    rintro e w3 ⟨v3, rfl, hown3, hb3⟩
    rw [List.nil_append] at hown3
    have hb3' := hb2'.trans (hb3.mono hs2)
    have hX3 : Below w.heap.size w w3 := hX2.trans (hb3.mono hX2.size)
    obtain ⟨Ac, cc, rfl, _, _, hRC⟩ := RL.of_own hown3
    have hRL3 := (hRL.below hb3).more hb3.size
    clear hown3 hRL hb3 hb2' hX2 g0 g1 g2 g3 hX1
    generalize hed2 : edgC n c 0 = ec at *
    have hml : ec.length = ec.length := rfl
    go_wp2_with fail
    go_loopw [11] (fun i wr => ∃ j : Nat, j ≤ ec.length ∧ i = .int .i64 j ∧ (∀ e ∈ ec.take j, ∀ y, Sat (fun e => e ∈ esA n cs) y → hol y e) ∧ Below w3.heap.size w3 wr) (fun i _ => ec.length - (intOf i).toNat)
    case atStart => exact ⟨0, Nat.zero_le _, rfl, fun e he => by simp at he, Below.refl _ _⟩
    case round =>
      obtain ⟨j, hj, rfl, hdone, hbr⟩ := hrel
      have HD := Lib.hid hdone
      clear hdone hml
      by_cases hlt : j < ec.length
      · obtain ⟨b, off, e, rfl, hbl, he, h0, h1, h2⟩ := (hRC.below hbr).at_ hlt
        have hmem := List.mem_of_getElem? he
        have Hst : Hid (ec.take (j + 1) = ec.take j ++ [e]) := take_snoc he
        have hok := Hc.out.ok (k := 0) e (by rw [hed2]; exact hmem)
        obtain ⟨ef, et, eb0, eb1, -⟩ := hok
        have Hmem := Lib.hid hmem
        have hlo := Lib.hid (longest_any n e.f Ae (rE n cs).length ce (rE n cs) wr ((hRL3.below hbr).more hbr.size) (fun x hx => rE_ok Hcs.out hx) hn ef (by omega))
        clear he hmem
        have hji : (j : Int) < (ec.length : Int) := by omega
        go_wp2_with fail
        refine hlo.out.mono ?_
        rintro e4 w4 ⟨hb4, hr⟩
        rcases hr with ⟨g, st, rfl, hown, hlon, hsm⟩ | ⟨rfl, hno⟩
        · have hfl : (flatW st).length = (n + 1) * 2 := by rw [flatW_len, hlon.len]
          obtain ⟨pf0, pf1⟩ := flatW_at (l := st) (j := e.t) (by rw [hlon.len]; omega)
          have u0 := (hown.cellAt (e.t * 2) (by omega)).trans pf0
          have u1 := (hown.cellAt (e.t * 2 + 1) (by omega)).trans pf1
          have hbw : b < wr.heap.size := Nat.lt_of_lt_of_le hbl hbr.size
          have k1 := (hb4.cell (p := ⟨b, off + j * 3 + 1, none⟩) hbw).trans h1
          have k2 := (hb4.cell (p := ⟨b, off + j * 3 + 2, none⟩) hbw).trans h2
          have i2 : (e.t : Int) < (n : Int) + 1 := by omega
          obtain ⟨y0, hy0⟩ := hy0.out
          have hfol := hlon.fol y0 hy0 (t := e.t) (w := e.b)
          have hbr4 := hbr.trans (hb4.mono hbr.size)
          have Hno : Hid ((¬ ∃ d, gw st e.t = some d ∧ e.b ≤ d) → folB (Sat fun e => e ∈ esA n cs) ec = false) := fun hn => folB_false fun hall => hn (hfol.1 fun y hy => hall y (rE_iff.1 hy) e Hmem.out)
          have Hyes : Hid ((∃ d, gw st e.t = some d ∧ e.b ≤ d) → ∀ x ∈ ec.take (j + 1), ∀ y, Sat (fun e => e ∈ esA n cs) y → hol y x) := fun hd x hx y hy => by
            rw [Hst.out] at hx
            rcases List.mem_append.1 hx with hx | hx
            · exact HD.out x hx y hy
            · rw [List.mem_singleton.1 hx]
              exact hfol.2 hd y (rE_iff.2 hy)
          clear hfol pf0 pf1 hown hlon hsm h0 h1 h2 hb4 hy0 hfl
          cases hg : gw st e.t with
          | none =>
            rw [hg] at u0 u1
            have u0' : w4.cell? ⟨g, e.t * 2, none⟩ = some (.bool false) := u0
            have Hf := Lib.hid (Hno.out (by rw [hg]; rintro ⟨d, h, _⟩; cases h))
            clear hg u0 u1
            go_wp2_with fail
            go_quiet (fail)
            go_wp2_with fail
            go_ret
            exact ⟨ret_bool (by rw [hed2]; exact Hf.out.symm), hX3.trans ((below_drewN hbr4 _).mono hX3.size)⟩
          | some d =>
            rw [hg] at u0 u1
            have u0' : w4.cell? ⟨g, e.t * 2, none⟩ = some (.bool true) := u0
            have u1' : w4.cell? ⟨g, e.t * 2 + 1, none⟩ = some (.int .i64 d) := u1
            by_cases hd : d < e.b
            · have Hf := Lib.hid (Hno.out (by rw [hg]; rintro ⟨d', h, h9⟩; cases h; omega))
              clear hg u0 u1
              go_wp2_with fail
              go_quiet (fail)
              go_wp2_with fail
              go_ret
              exact ⟨ret_bool (by rw [hed2]; exact Hf.out.symm), hX3.trans ((below_drewN hbr4 _).mono hX3.size)⟩
            · have Hf := Lib.hid (Hyes.out ⟨d, hg, by omega⟩)
              clear hg u0 u1
              go_wp2_with fail
              go_quiet (fail)
              go_wp2_with fail
              go_roundw
              case rel => exact ⟨j + 1, by omega, by go_num, Hf.out, below_drewN hbr4 _⟩
              case measure => simp [intOf]; omega
        · obtain ⟨y0, hy0⟩ := hy0.out
          exact (hno y0 hy0).elim
      · have Hf : Hid (folB (Sat fun e => e ∈ esA n cs) ec = true) := folB_iff.2 fun y hy e he => HD.out e (by rw [List.take_of_length_le (by omega)]; exact he) y hy
        have hji : ¬ (j : Int) < (ec.length : Int) := by omega
        go_wp2_with fail
        go_ret
        exact ⟨ret_bool Hf.out.symm, hX3.trans (hbr.mono hX3.size)⟩


theorem folOk_false {v : Int} {cs : List LCn} {c : LCn} (h : folOk v cs c = false) : folV v cs c = false ∧ folC v cs c = 4 := by
  unfold folV folC; rw [h]; exact ⟨rfl, rfl⟩
theorem folOk_true {v : Int} {cs : List LCn} {c : LCn} (h : folOk v cs c = true) : folV v cs c = folB (Sat fun e => e ∈ esA v.toNat cs) (edgC v.toNat c 0) ∧ folC v cs c = 0 := by
  unfold folV folC; rw [h]; exact ⟨rfl, rfl⟩

set_option maxRecDepth 100000 in
set_option maxHeartbeats 4000000 in
theorem rFollows_any (v : Int) (A : Option Addr) (K cap : Nat) (cs : List LCn) (c : LCn) (A1 : Option Addr) (n1 c1 : Nat) (A2 : Option Addr) (n2 c2 : Nat) (w : World) (h : CL w w.heap.size A K cs) (hK : K ≤ 9223372036854775807)
    (p1 : PL w w.heap.size A1 n1 c.1.2) (p2 : PL w w.heap.size A2 n2 c.2.2) (q1 : n1 ≤ c1) (r1 : c1 ≤ 9223372036854775807) (q2 : n2 ≤ c2) (r2 : c2 ≤ 9223372036854775807) :
    Calls Try.prog 21 #[.int .i64 v, .slice A K cap, .agg #[.int .i64 c.1.1, .slice A1 n1 c1, .int .i64 c.2.1, .slice A2 n2 c2]] w fun e w' => e = .returned (.tuple #[.bool (folV v cs c), .int .i64 (folC v cs c)]) ∧ Below w.heap.size w w' := by
  have hX : Below w.heap.size w (w.alloc (.cells #[.int .i64 c.1.1, .slice A1 n1 c1, .int .i64 c.2.1, .slice A2 n2 c2] 37)) := (Below.refl _ _).alloc (Nat.le_refl _) _
  have hva := refGvalid_any v A K cap cs _ ((h.below hX).more hX.size) hK
  have hlen : cs.length = K := h.1
  have hup : ∀ {W : World}, Below (w.heap.size + 1) (w.alloc (.cells #[.int .i64 c.1.1, .slice A1 n1 c1, .int .i64 c.2.1, .slice A2 n2 c2] 37)) W → w.heap.size + 1 ≤ W.heap.size := fun hb => by have := hb.size; simpa using this
  cases hg : gvld v cs
  · obtain ⟨e1, e2⟩ := folOk_false (v := v) (cs := cs) (c := c) (by unfold folOk; rw [hg]; rfl)
    have E1 := Lib.hid e1
    have E2 := Lib.hid e2
    rw [hg] at hva
    have Hva := Lib.hid hva
    clear hva e1 e2 hg
    go_enter Try.func21, Try.ntmps21
    go_wp2_with fail
    refine Hva.out.mono ?_
    rintro e w1 ⟨rfl, hb1⟩
    go_wp2_with fail
    go_ret2
    exact ⟨by rw [E1.out, E2.out]; rfl, hX.trans (hb1.mono hX.size)⟩
  · rw [hg] at hva
    have Hva := Lib.hid hva
    have HCo := Lib.hid (fun W (hW : Below w.heap.size w W) => constraint_any v c A1 n1 c1 A2 n2 c2 W ((p1.below hW).more hW.size) ((p2.below hW).more hW.size) q1 r1 q2 r2)
    clear hva
    cases hc : conB v c
    · obtain ⟨e1, e2⟩ := folOk_false (v := v) (cs := cs) (c := c) (by unfold folOk; rw [hg, hc]; rfl)
      have E1 := Lib.hid e1
      have E2 := Lib.hid e2
      rw [hc] at HCo
      clear e1 e2 hg hc
      go_enter Try.func21, Try.ntmps21
      go_wp2_with fail
      refine Hva.out.mono ?_
      rintro e w1 ⟨rfl, hb1⟩
      obtain ⟨g0, g1, g2, g3, hX1⟩ := box4 (hb1.mono (by simp))
      go_wp2_with fail
      refine (HCo.out _ hX1).mono ?_
      rintro e w2 ⟨rfl, hb2⟩
      go_wp2_with fail
      go_ret2
      exact ⟨by rw [E1.out, E2.out]; rfl, hX1.trans (hb2.mono hX1.size)⟩
    · rw [hc] at HCo
      by_cases hk : 3000 ≤ K
      · obtain ⟨e1, e2⟩ := folOk_false (v := v) (cs := cs) (c := c) (by unfold folOk; rw [hg, hc, decide_eq_false (by omega)]; rfl)
        have E1 := Lib.hid e1
        have E2 := Lib.hid e2
        have hki : (3000 : Int) ≤ (K : Int) := by omega
        clear e1 e2 hg hc
        go_enter Try.func21, Try.ntmps21
        go_wp2_with fail
        refine Hva.out.mono ?_
        rintro e w1 ⟨rfl, hb1⟩
        obtain ⟨g0, g1, g2, g3, hX1⟩ := box4 (hb1.mono (by simp))
        go_wp2_with fail
        refine (HCo.out _ hX1).mono ?_
        rintro e w2 ⟨rfl, hb2⟩
        go_wp2_with fail
        go_ret2
        exact ⟨by rw [E1.out, E2.out]; rfl, hX1.trans (hb2.mono hX1.size)⟩
      · obtain ⟨e1, e2⟩ := folOk_true (v := v) (cs := cs) (c := c) (by unfold folOk; rw [hg, hc, decide_eq_true (by omega)]; rfl)
        have E1 := Lib.hid e1
        have E2 := Lib.hid e2
        have hki : ¬ (3000 : Int) ≤ (K : Int) := by omega
        obtain ⟨n, rfl, f1, f2, f3⟩ := gvld_parts hg
        have Hcs := Lib.hid f3
        have Hc := Lib.hid (con_of hc)
        have HF := Lib.hid (fun W (hW : Below w.heap.size w W) => rfollows_any n A K cap cs c A1 n1 c1 A2 n2 c2 W ((h.below hW).more hW.size) Hcs.out f1 (by omega) ((p1.below hW).more hW.size) ((p2.below hW).more hW.size) Hc.out)
        clear e1 e2 hg hc f3
        go_enter Try.func21, Try.ntmps21
        go_wp2_with fail
        refine Hva.out.mono ?_
        rintro e w1 ⟨rfl, hb1⟩
        have hb1' := hb1.mono (B' := w.heap.size + 1) (by simp)
        obtain ⟨g0, g1, g2, g3, hX1⟩ := box4 hb1'
        go_wp2_with fail
        refine (HCo.out _ hX1).mono ?_
        rintro e w2 ⟨rfl, hb2⟩
        have hb2' := hb1'.trans (hb2.mono (hup hb1'))
        clear g0 g1 g2 g3
        obtain ⟨g0, g1, g2, g3, hX2⟩ := box4 hb2'
        go_wp2_with fail
        refine (HF.out _ hX2).mono ?_
        rintro e w3 ⟨rfl, hb3⟩
        go_wp2_with fail
        go_ret2
        exact ⟨by rw [E1.out, E2.out, Int.toNat_natCast]; rfl, hX2.trans (hb3.mono hX2.size)⟩
end Go.Proofs.Ytolilmodihgaiaa
