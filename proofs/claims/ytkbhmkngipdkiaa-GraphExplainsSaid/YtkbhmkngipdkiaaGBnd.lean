/-
  'Bound' of package graph.
-/
import Derived.Test.YtkbhmkngipdkiaaGSprW
import Derived.Test.YtkbhmkngipdkiaaGRep
import Derived.Test.YtkbhmkngipdkiaaGSolve
import Derived.Test.YtkbhmkngipdkiaaGFolM
import Derived.OwnWalk
namespace Go.Proofs.Ytkbhmkngipdkiaa
open Go Go.RowKit

/-- what is told of a bound -/
def bE : Option Int → Ending
  | none => .returned (.tuple #[.int .i64 0, .bool false, .int .i64 0])
  | some d => .returned (.tuple #[.int .i64 (-d), .bool true, .int .i64 0])
/-- how far a variable is below zero at most, in words -/
def BndOf (n : Nat) (cs : List LCn) (s : Nat) (b : Option Int) : Prop := ∀ z : Int, (∀ y, Sat (fun e => e ∈ esA n cs) y → y s + z ≤ y n) ↔ ∃ d, b = some d ∧ z ≤ d
theorem BndOf.only {n s : Nat} {cs : List LCn} {b c : Option Int} (h : BndOf n cs s b) (g : BndOf n cs s c) : b = c := by
  cases b with
  | none =>
    cases c with
    | none => rfl
    | some d =>
      obtain ⟨d', h1, _⟩ := (h d).1 ((g d).2 ⟨d, rfl, Int.le_refl _⟩)
      cases h1
  | some d =>
    obtain ⟨d', h1, h2⟩ := (g d).1 ((h d).2 ⟨d, rfl, Int.le_refl _⟩)
    subst h1
    obtain ⟨d'', h3, h4⟩ := (h d').1 ((g d').2 ⟨d', rfl, Int.le_refl _⟩)
    cases h3
    congr 1
    omega
/-- what Bound says -/
def BndPost (v : Int) (cs : List LCn) (k : Int) (w : World) (e : Ending) (w' : World) : Prop :=
  Below w.heap.size w w' ∧ (gvld v cs = false ∧ e = .returned (.tuple #[.int .i64 0, .bool false, .int .i64 4]) ∨
    gvld v cs = true ∧ ∃ n : Nat, v = n ∧ ((k < 0 ∨ (n : Int) ≤ k) ∧ e = .returned (.tuple #[.int .i64 0, .bool false, .int .i64 1]) ∨
      ∃ s : Nat, k = s ∧ s < n ∧ ((∀ y, Sat (fun e => e ∈ esA n cs) y → False) ∧ e = .returned (.tuple #[.int .i64 0, .bool false, .int .i64 20]) ∨
        (∃ y, Sat (fun e => e ∈ esA n cs) y) ∧ ∃ b, BndOf n cs s b ∧ e = bE b)))
theorem gvld_nat {v : Int} {cs : List LCn} (hg : gvld v cs = true) : ∃ n : Nat, v = n ∧ n ≤ 1200 ∧ cs.length ≤ 3000 ∧ ∀ c ∈ cs, Con n c := by
  have hg' := hg
  unfold gvld at hg'
  rw [Bool.and_eq_true, decide_eq_true_eq] at hg'
  obtain ⟨⟨g0, g1, g2⟩, g3⟩ := hg'
  obtain ⟨n, rfl⟩ : ∃ n : Nat, v = n := ⟨v.toNat, by omega⟩
  exact ⟨n, rfl, by omega, g2, fun c hc => con_of (by have := List.all_eq_true.1 g3 c hc; exact this)⟩
theorem gx_start {N s v : Nat} (hs : s < N) (hv : v < N) : gx ((List.replicate N unr).set s 0) v = upd (fun _ => unr) s 0 v := by
  rw [gx_set _ _ _ (by simpa using hs)]
  by_cases h : v = s
  · rw [h, upd_same, upd_same]
  · rw [upd_ne _ _ h, upd_ne _ _ h]
    simp [gx, List.getD, hv]

set_option maxRecDepth 100000 in
set_option maxHeartbeats 4000000 in
theorem bound_any (v : Int) (A : Option Addr) (K cap : Nat) (cs : List LCn) (k : Int) (w : World) (h : CL w w.heap.size A K cs) (hK : K ≤ 9223372036854775807) :
    Calls Try.prog 24 #[.int .i64 v, .slice A K cap, .int .i64 k] w (BndPost v cs k w) := by
  have hva := gvalid_any v A K cap cs w h hK
  cases hg : gvld v cs
  · rw [hg] at hva
    have Hva := Lib.hid hva
    clear hva
    go_enter Try.func24, Try.ntmps24
    go_wp2_with fail
    refine Hva.out.mono ?_
    rintro e w1 ⟨rfl, hb1⟩
    go_wp2_with fail
    go_ret3
    exact ⟨hb1, .inl ⟨hg, rfl⟩⟩
  · rw [hg] at hva
    have Hva := Lib.hid hva
    clear hva
    obtain ⟨n, rfl, hn, hl3, hcs⟩ := gvld_nat hg
    have hl : cs.length = K := h.1
    have Hcs := Lib.hid hcs
    have Hl := Lib.hid hl
    by_cases hkn : 0 ≤ k ∧ k < n
    · obtain ⟨s, rfl⟩ : ∃ s : Nat, k = s := ⟨k.toNat, by omega⟩
      have hs : s < n := by omega
      have c1 : ¬ (s : Int) < 0 := by omega
      have c2 : ¬ (n : Int) ≤ (s : Int) := by omega
      have hK3 : K ≤ 3000 := by omega
      clear hcs hl hkn hl3
      go_enter Try.func24, Try.ntmps24
      go_wp2_with fail
      refine Hva.out.mono ?_
      rintro e w1 ⟨rfl, hb1⟩
      have Hbe := Lib.hid (begin_any A K cap n cs w1 ((h.below hb1).more hb1.size) hK3 hn Hcs.out)
      go_wp2_with fail
      refine Hbe.out.mono ?_
      intro e w2 hpost
      obtain ⟨S, OF, OU, ON, V, rfl, hS1, hO1, hb2, hse, hvs⟩ := beg_is hpost Hl.out hK3 hn Hcs.out
      clear hpost
      have hb12 : Below w.heap.size w w2 := hb1.trans (hb2.mono hb1.size)
      have hGE := ge_of Hcs.out
      have hL0 := lst_zero Hcs.out
      rw [Hl.out] at hGE hL0
      have had := addAll_any w.heap.size S OF OU ON (n + 1) K V (n + 1) (foC n cs) (outE (esA n cs)) _ _ 0 K w2 hse hvs hGE (Nat.zero_le _) (Nat.le_refl _) (by omega) (by omega) hL0 ⟨by have := hb1.size; omega, by have := hb1.size; omega, hb12.size⟩
      have Had := Lib.hid had
      have HGE := Lib.hid hGE
      have HonA := Lib.hid (onA Hcs.out)
      rw [Hl.out] at HonA
      clear had hGE hL0 hse hvs
      go_wp2_with fail
      refine Had.out.mono ?_
      rintro e w3 ⟨r, rfl, hb3, hr⟩
      have hb13 := hb12.trans hb3
      rcases hr with ⟨rfl, hse, V1, c1, xs, hvs, hL⟩ | ⟨rfl, hno⟩
      · have Hsr := Lib.hid hse.sr
        have Hbd := Lib.hid (HGE.out.bound hvs.len hL (by omega))
        have HL := Lib.hid hL
        clear hse hvs hL
        have hxA : Below w3.heap.size w3 (w3.alloc (.cells #[.int .i64 (-4611686018427387904)] 3)) := (Below.refl _ w3).alloc (Nat.le_refl _) _
        have hR := repeat_any w3.heap.size (n + 1) (-4611686018427387904) (w3.alloc (.cells #[.int .i64 (-4611686018427387904)] 3)) (by simp) (by simp) (by omega) (by omega)
        rw [show ((n + 1 : Nat) : Int) = (n : Int) + 1 by omega] at hR
        have HR := Lib.hid hR
        clear hR
        go_wp2_with fail
        refine HR.out.mono ?_
        rintro e w4 ⟨g, rfl, hown4, hb4⟩
        have hb34 : Below w3.heap.size w3 w4 := hxA.trans (hb4.mono hxA.size)
        have hgl := own_lt hown4
        have hg3 : w3.heap.size ≤ g := by have := hgl.1; simp at this; omega
        have hls : (List.replicate (n + 1) (-4611686018427387904 : Int))[s]? = some (-4611686018427387904) := by rw [List.getElem?_replicate, if_pos (by omega)]
        obtain ⟨q1, q2⟩ := own_cell hown4 hls
        have hown5 := own_lower (own_store hown4 s 0) (Nat.zero_le _)
        have hbb5 : BB w3.heap.size g w3 (w4.setCell ⟨g, s, none⟩ (.int .i64 0)) := (BB.of hb34).setT s _
        have hsr5 := (Hsr.out g hg3).bb hbb5
        have i1 : (s : Int) < (n : Int) + 1 := by omega
        have hS6 := Lib.hid (spreadB_any S OU ON (n + 1) (K + 1) g (n + 1) (outE (esA n cs)) _ s ((List.replicate (n + 1) (-4611686018427387904 : Int)).set s 0) (gx xs) _ hsr5 HGE.out.ok hown5 (by omega) (by omega) (fun v hv => gx_start (by omega) hv) HL.out.sat (fun v => ⟨HL.out.nn v, Hbd.out v⟩))
        have hw3s := hb13.size
        clear hls hown4 hown5 hsr5 hb4 hxA
        go_wp2_with fail
        refine hS6.out.mono ?_
        rintro e w6 ⟨xs6, rfl, hl6, hown6, hbb6, hbi, hrest⟩
        have hb6 : Below w.heap.size w w6 := by
          have h1 : BB w.heap.size g w w4 := BB.of (hb13.trans (hb34.mono hw3s))
          have h2 : BB w.heap.size g w (w4.setCell ⟨g, s, none⟩ (.int .i64 0)) := h1.setT s _
          have h3 := h2.trans (hbb6.mono (by rw [World.size_setCell]; have := hb34.size; omega))
          exact ⟨h3.os, h3.tape, h3.output, h3.size, fun k hk => h3.block k hk (by omega)⟩
        have hlon := hbi.lon (E := esA n cs) (by omega) HonA.out (fun e he => (esA_ok Hcs.out he).2.1) (fun e he hl => by
          have h1 := hrest e ((HonA.out e).2 he) hl
          refine ⟨?_, h1⟩
          obtain ⟨f1, _, f2, _⟩ := esA_ok Hcs.out he
          have h2 := hbi.lo (by omega) f1 hl
          unfold hol at h1
          unfold unr
          omega)
        have hbo : BndOf n cs s (gw (stR n (gx xs6)) n) := fun z => hlon.fol (gx xs) (fun e he => HL.out.sat e ((HonA.out e).2 he))
        have hsat : ∃ y, Sat (fun e => e ∈ esA n cs) y := ⟨gx xs, fun e he => HL.out.sat e ((HonA.out e).2 he)⟩
        obtain ⟨q3, _⟩ := own_cell hown6 (gx_some (xs := xs6) (v := n) (by omega))
        have i2 : (n : Int) < (n : Int) + 1 := by omega
        by_cases hu : gx xs6 n = -4611686018427387904
        · have hgw : gw (stR n (gx xs6)) n = none := by
            cases h9 : gw (stR n (gx xs6)) n with
            | none => rfl
            | some a => exact absurd hu (stR_at.1 h9).2.1
          rw [hgw] at hbo
          rw [hu] at q3
          have Hbo := Lib.hid hbo
          have Hsat := Lib.hid hsat
          clear hu hgw hbo hlon hbi hrest hsat
          go_wp2_with fail
          go_ret3
          exact ⟨hb6, .inr ⟨hg, n, rfl, .inr ⟨s, rfl, hs, .inr ⟨Hsat.out, none, Hbo.out, rfl⟩⟩⟩⟩
        · have hgw : gw (stR n (gx xs6)) n = some (gx xs6 n) := stR_at.2 ⟨by omega, hu, rfl⟩
          rw [hgw] at hbo
          have h1 := hbi.lo (by omega) (show n < n + 1 by omega) hu
          have h2 := hbi.up (gx xs) HL.out.sat n (by omega) hu
          have h3 := Hbd.out n
          have h4 := HL.out.nn s
          have Hbo := Lib.hid hbo
          have Hsat := Lib.hid hsat
          clear hgw hbo hlon hbi hrest hsat
          generalize gx xs6 n = z at *
          have hzb : (z == (-4611686018427387904 : Int)) = false := by simpa using hu
          have hneg : IntKind.i64.wrap (-z) = -z := by rw [IntKind.wrap_i64]; omega
          go_wp2_with fail
          go_ret3
          exact ⟨hb6, .inr ⟨hg, n, rfl, .inr ⟨s, rfl, hs, .inr ⟨Hsat.out, some z, Hbo.out, rfl⟩⟩⟩⟩
      · go_wp2_with fail
        go_ret3
        exact ⟨hb13, .inr ⟨hg, n, rfl, .inr ⟨s, rfl, hs, .inl ⟨fun y hy => hno y fun e he => hy e ((HonA.out e).1 he), rfl⟩⟩⟩⟩
    · have hkk : k < 0 ∨ (n : Int) ≤ k := by omega
      clear hcs hl hkn
      rcases hkk with hk1 | hk1
      · go_enter Try.func24, Try.ntmps24
        go_wp2_with fail
        refine Hva.out.mono ?_
        rintro e w1 ⟨rfl, hb1⟩
        go_wp2_with fail
        go_ret3
        exact ⟨hb1, .inr ⟨hg, n, rfl, .inl ⟨.inl hk1, rfl⟩⟩⟩
      · have hk2 : ¬ k < 0 := by omega
        go_enter Try.func24, Try.ntmps24
        go_wp2_with fail
        refine Hva.out.mono ?_
        rintro e w1 ⟨rfl, hb1⟩
        go_wp2_with fail
        go_ret3
        exact ⟨hb1, .inr ⟨hg, n, rfl, .inl ⟨.inr hk1, rfl⟩⟩⟩
end Go.Proofs.Ytkbhmkngipdkiaa
