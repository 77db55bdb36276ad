/-
  'Bound' of the reference: it says the same as Bound of package graph; the law GraphBounds.
-/
import Derived.Test.YtkbhmkngipdkiaaGBnd
import Derived.Test.YtkbhmkngipdkiaaGRSol
import Derived.Test.YtkbhmkngipdkiaaGHeavy
namespace Go.Proofs.Ytkbhmkngipdkiaa
open Go Go.RowKit

set_option maxRecDepth 100000 in
set_option maxHeartbeats 4000000 in
theorem rbound_any (v : Int) (A : Option Addr) (K cap : Nat) (cs : List LCn) (k : Int) (w : World) (h : CL w w.heap.size A K cs) (hK : K ≤ 9223372036854775807) :
    Calls Try.prog 25 #[.int .i64 v, .slice A K cap, .int .i64 k] w (BndPost v cs k w) := by
  have hva := refGvalid_any v A K cap cs w h hK
  cases hg : gvld v cs
  · rw [hg] at hva
    have Hva := Lib.hid hva
    clear hva
    go_enter Try.func25, Try.ntmps25
    go_wp2_with fail
    refine Hva.out.mono ?_
    rintro e w1 ⟨rfl, hb1⟩
    go_wp2_with fail
    go_ret3
    exact ⟨hb1, .inl ⟨hg, rfl⟩⟩
  · rw [hg] at hva
    have Hva := Lib.hid hva
    clear hva
    obtain ⟨n, rfl, hn, hl3, hcs⟩ := gvld_nat hg
    have hl : cs.length = K := h.1
    have Hcs := Lib.hid hcs
    by_cases hkn : 0 ≤ k ∧ k < n
    · obtain ⟨s, rfl⟩ : ∃ s : Nat, k = s := ⟨k.toNat, by omega⟩
      have hs : s < n := by omega
      have c1 : ¬ (s : Int) < 0 := by omega
      have c2 : ¬ (n : Int) ≤ (s : Int) := by omega
      have hK3 : K ≤ 3000 := by omega
      have hEl : (rE n cs).length ≤ 30000 := by
        have h1 := rEk_len hcs cs.length
        unfold rE
        omega
      clear hcs hl hkn hl3
      go_enter Try.func25, Try.ntmps25
      go_wp2_with fail
      refine Hva.out.mono ?_
      rintro e w1 ⟨rfl, hb1⟩
      have hso := Lib.hid (rsolve_any n A K cap cs w1 (h.lift hb1) Hcs.out hn hK3)
      go_wp2_with fail
      refine hso.out.mono ?_
      rintro e w2 ⟨hb2, hr⟩
      have hb12 := hb1.trans (hb2.mono hb1.size)
      rcases hr with ⟨rfl, hno⟩ | ⟨u, L, rfl, _, hRS⟩
      · have Hno := Lib.hid hno
        clear hno
        go_wp2_with fail
        go_ret3
        exact ⟨hb12, .inr ⟨hg, n, rfl, .inr ⟨s, rfl, hs, .inl ⟨Hno.out, rfl⟩⟩⟩⟩
      · have Hsat : Hid (∃ y, Sat (fun e => e ∈ esA n cs) y) := ⟨_, hRS.sat⟩
        have hed := Lib.hid (redges_any n A K cap cs w2 (h.lift hb12) Hcs.out hn hK3)
        clear hRS
        go_wp2_with fail
        refine hed.out.mono ?_
        rintro e w3 ⟨v3, rfl, hown3, hb3⟩
        have hb13 := hb12.trans (hb3.mono hb12.size)
        obtain ⟨Ae, ce, rfl, _, _, hRL⟩ := RL.of_own hown3
        have hlo := Lib.hid (longest_any n s Ae (rE n cs).length ce (rE n cs) w3 hRL (fun x hx => rE_ok Hcs.out hx) hn (by omega) (by omega))
        clear hown3 hRL
        go_wp2_with fail
        refine hlo.out.mono ?_
        rintro e w4 ⟨hb4, hr⟩
        have hb14 := hb13.trans (hb4.mono hb13.size)
        rcases hr with ⟨g, st, rfl, hown, hlon, hsm⟩ | ⟨rfl, hno⟩
        · have hfl : (flatW st).length = (n + 1) * 2 := by rw [flatW_len, hlon.len]
          obtain ⟨pf0, pf1⟩ := flatW_at (l := st) (j := n) (by rw [hlon.len]; omega)
          have u0 := (hown.cellAt (n * 2) (by omega)).trans pf0
          have u1 := (hown.cellAt (n * 2 + 1) (by omega)).trans pf1
          have i2 : (n : Int) < (n : Int) + 1 := by omega
          have hbo : BndOf n cs s (gw st n) := fun z => by
            obtain ⟨y0, hy0⟩ := Hsat.out
            have hfol := hlon.fol y0 (rE_iff.2 hy0) (t := n) (w := z)
            rw [← hfol]
            exact ⟨fun h9 y hy => h9 y (rE_iff.1 hy), fun h9 y hy => h9 y (rE_iff.2 hy)⟩
          have hsn : ∀ d, gw st n = some d → -1000000000000 ≤ d ∧ d ≤ 1000000000000 := fun d hd => hsm n d hd
          cases hgw : gw st n with
          | none =>
            rw [hgw] at u0 u1 hbo
            have u0' : w4.cell? ⟨g, n * 2, none⟩ = some (.bool false) := u0
            have Hbo := Lib.hid hbo
            clear u0 u1 hbo hgw hlon hsm hsn pf0 pf1 hown
            go_wp2_with fail
            go_ret3
            exact ⟨hb14, .inr ⟨hg, n, rfl, .inr ⟨s, rfl, hs, .inr ⟨Hsat.out, none, Hbo.out, rfl⟩⟩⟩⟩
          | some d =>
            obtain ⟨d1, d2⟩ := hsn d hgw
            rw [hgw] at u0 u1 hbo
            have u0' : w4.cell? ⟨g, n * 2, none⟩ = some (.bool true) := u0
            have u1' : w4.cell? ⟨g, n * 2 + 1, none⟩ = some (.int .i64 d) := u1
            have Hbo := Lib.hid hbo
            have hneg : IntKind.i64.wrap (-d) = -d := by rw [IntKind.wrap_i64]; omega
            clear u0 u1 hbo hgw hlon hsm hsn pf0 pf1 hown
            go_wp2_with fail
            go_ret3
            exact ⟨hb14, .inr ⟨hg, n, rfl, .inr ⟨s, rfl, hs, .inr ⟨Hsat.out, some d, Hbo.out, rfl⟩⟩⟩⟩
        · obtain ⟨y0, hy0⟩ := Hsat.out
          exact (hno y0 (rE_iff.2 hy0)).elim
    · have hkk : k < 0 ∨ (n : Int) ≤ k := by omega
      clear hcs hl hkn
      rcases hkk with hk1 | hk1
      · go_enter Try.func25, Try.ntmps25
        go_wp2_with fail
        refine Hva.out.mono ?_
        rintro e w1 ⟨rfl, hb1⟩
        go_wp2_with fail
        go_ret3
        exact ⟨hb1, .inr ⟨hg, n, rfl, .inl ⟨.inl hk1, rfl⟩⟩⟩
      · have hk2 : ¬ k < 0 := by omega
        go_enter Try.func25, Try.ntmps25
        go_wp2_with fail
        refine Hva.out.mono ?_
        rintro e w1 ⟨rfl, hb1⟩
        go_wp2_with fail
        go_ret3
        exact ⟨hb1, .inr ⟨hg, n, rfl, .inl ⟨.inr hk1, rfl⟩⟩⟩
/-- both say the same -/
theorem BndPost.same {v : Int} {cs : List LCn} {k : Int} {w w1 w' w1' : World} {e d : Ending} (h : BndPost v cs k w e w1) (g : BndPost v cs k w' d w1') : e = d ∧ ∃ (a : Int) (b : Bool) (c : Int), e = .returned (.tuple #[.int .i64 a, .bool b, .int .i64 c]) := by
  obtain ⟨_, h⟩ := h
  obtain ⟨_, g⟩ := g
  rcases h with ⟨h1, rfl⟩ | ⟨h1, n, rfl, h⟩ <;> rcases g with ⟨g1, rfl⟩ | ⟨g1, m, gm, g⟩
  · exact ⟨rfl, _, _, _, rfl⟩
  · rw [h1] at g1; cases g1
  · rw [h1] at g1; cases g1
  · obtain rfl : n = m := by omega
    rcases h with ⟨h2, rfl⟩ | ⟨s, rfl, hs, h⟩ <;> rcases g with ⟨g2, rfl⟩ | ⟨s', e', hs', g⟩
    · exact ⟨rfl, _, _, _, rfl⟩
    · omega
    · omega
    · obtain rfl : s = s' := by omega
      rcases h with ⟨h3, rfl⟩ | ⟨⟨y, hy⟩, b, h3, rfl⟩ <;> rcases g with ⟨g3, rfl⟩ | ⟨⟨y', hy'⟩, b', g3, rfl⟩
      · exact ⟨rfl, _, _, _, rfl⟩
      · exact (h3 _ hy').elim
      · exact (g3 _ hy).elim
      · obtain rfl := h3.only g3
        cases b
        · exact ⟨rfl, _, _, _, rfl⟩
        · exact ⟨rfl, _, _, _, rfl⟩

set_option maxRecDepth 100000 in
set_option maxHeartbeats 4000000 in
theorem lawBounds_any (v : Int) (A : Option Addr) (K cap : Nat) (cs : List LCn) (k : Int) (w : World) (h : CL w w.heap.size A K cs) (hK : K ≤ 9223372036854775807) :
    Calls Try.prog 6 #[.int .i64 v, .slice A K cap, .int .i64 k] w fun e w' => e = .returned (.bool true) ∧ Below w.heap.size w w' := by
  have h1 := heavy_any v 60 A K cap cs w h hK
  have hB := Lib.hid (bound_any v A K cap cs k w h hK)
  cases hb : heavyB v 60 cs
  all_goals
    rw [hb] at h1
    have H1 := Lib.hid h1
    clear h1
    go_enter Try.func6, Try.ntmps6
    go_wp2_with fail
    refine H1.out.mono ?_
    rintro e w1 ⟨rfl, rfl⟩
  · go_wp2_with fail
    refine hB.out.mono ?_
    intro e w2 hp
    have hb2 := hp.1
    have hR := Lib.hid ((rbound_any v A K cap cs k w2 (h.lift hb2) hK).mono fun d w' hd => And.intro hd.1 (hp.same hd))
    obtain ⟨a, b, c, rfl⟩ : ∃ (a : Int) (b : Bool) (c : Int), e = .returned (.tuple #[.int .i64 a, .bool b, .int .i64 c]) := by
      obtain ⟨_, hq⟩ := hp
      rcases hq with ⟨_, rfl⟩ | ⟨_, n, _, ⟨_, rfl⟩ | ⟨s, _, _, ⟨_, rfl⟩ | ⟨_, b, _, rfl⟩⟩⟩
      · exact ⟨_, _, _, rfl⟩
      · exact ⟨_, _, _, rfl⟩
      · exact ⟨_, _, _, rfl⟩
      · cases b
        · exact ⟨_, _, _, rfl⟩
        · exact ⟨_, _, _, rfl⟩
    clear hp
    go_wp2_with fail
    refine hR.out.mono ?_
    rintro d w3 ⟨hb3, rfl, _⟩
    have hb13 := hb2.trans (hb3.mono hb2.size)
    clear hR
    go_wp2_with fail
    refine (awake_any _).mono ?_
    rintro e w4 ⟨rfl, hb4⟩
    go_wp2_with fail
    go_ret
    exact ⟨rfl, hb13.trans (hb4.mono hb13.size)⟩
  · go_wp2_with fail
    refine (awake_any _).mono ?_
    rintro e w4 ⟨rfl, hb4⟩
    go_wp2_with fail
    go_ret
    exact ⟨rfl, hb4⟩
end Go.Proofs.Ytkbhmkngipdkiaa
