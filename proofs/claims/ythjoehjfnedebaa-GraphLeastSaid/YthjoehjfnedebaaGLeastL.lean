/-
  The law GraphLeast.
-/
import Derived.Test.YthjoehjfnedebaaGLeast
namespace Go.Proofs.Ythjoehjfnedebaa
open Go Go.RowKit

theorem il_of {w : World} {base : Nat} {e : TypeId} {v : Value} {n : Nat} {l : List Int} (h : w.ownsRow base e 1 v n (int1 l)) : ∃ A c, v = .slice A n c ∧ IL w w.heap.size A n l := by
  have h0 := h
  have hl := h.1
  rw [int1_len, Nat.mul_one] at hl
  rcases h.2 with ⟨rfl, hn⟩ | ⟨g, cap, cur, rfl, _⟩
  · subst hn
    exact ⟨none, 0, rfl, ⟨hl, fun h => absurd h (by omega)⟩⟩
  · exact ⟨_, _, rfl, own_il h0 (own_lt h0).2⟩

set_option maxRecDepth 100000 in
set_option maxHeartbeats 4000000 in
theorem lawLeast_any (v : Int) (A : Option Addr) (K cap : Nat) (cs : List LCn) (vA : Option Addr) (vn vc : Nat) (vs : List Int) (w : World) (h : CL w w.heap.size A K cs) (hK : K ≤ 9223372036854775807) (hx : IL w w.heap.size vA vn vs) (hvn : vn ≤ 9223372036854775807) :
    Calls Try.prog 5 #[.int .i64 v, .slice A K cap, .slice vA vn vc] w fun e w' => e = .returned (.bool true) ∧ Below w.heap.size w w' := by
  have hh := heavy_any v 120 A K cap cs w h hK
  cases hb : heavyB v 120 cs
  · rw [hb] at hh
    have Hh := Lib.hid hh
    clear hh
    by_cases h2 : 1000 < vn
    · have h2i : (1000 : Int) < (vn : Int) := by omega
      go_enter Try.func5, Try.ntmps5
      go_wp2_with fail
      refine Hh.out.mono ?_
      rintro e w1 ⟨rfl, rfl⟩
      go_wp2_with fail
      refine (awake_any _).mono ?_
      rintro e w2 ⟨rfl, hb2⟩
      go_wp2_with fail
      go_ret
      exact ⟨rfl, hb2⟩
    · have h2i : ¬ (1000 : Int) < (vn : Int) := by omega
      have hva := refGvalid_any v A K cap cs w h hK
      cases hg : gvld v cs
      · rw [hg] at hva
        have Hva := Lib.hid hva
        clear hva
        go_enter Try.func5, Try.ntmps5
        go_wp2_with fail
        refine Hh.out.mono ?_
        rintro e w1 ⟨rfl, rfl⟩
        go_wp2_with fail
        refine Hva.out.mono ?_
        rintro e w2 ⟨rfl, hb2⟩
        go_wp2_with fail
        refine (awake_any _).mono ?_
        rintro e w3 ⟨rfl, hb3⟩
        go_wp2_with fail
        go_ret
        exact ⟨rfl, hb2.trans (hb3.mono hb2.size)⟩
      · rw [hg] at hva
        have Hva := Lib.hid hva
        clear hva
        have hg' := hg
        unfold gvld at hg'
        rw [Bool.and_eq_true, decide_eq_true_eq] at hg'
        obtain ⟨⟨g0, g1, g2⟩, g3⟩ := hg'
        obtain ⟨n, rfl⟩ : ∃ n : Nat, v = n := ⟨v.toNat, by omega⟩
        have hcs : ∀ c ∈ cs, Con n c := fun c hc => con_of (by have := List.all_eq_true.1 g3 c hc; exact this)
        have Hcs := Lib.hid hcs
        have Hg := Lib.hid hg
        clear hcs g3 hg
        go_enter Try.func5, Try.ntmps5
        go_wp2_with fail
        refine Hh.out.mono ?_
        rintro e w1 ⟨rfl, rfl⟩
        go_wp2_with fail
        refine Hva.out.mono ?_
        rintro e w2 ⟨rfl, hb2⟩
        have hso := solve_any n A K cap cs w2 ((h.below hb2).more hb2.size) hK
        have Hso := Lib.hid hso
        clear hso
        go_wp2_with fail
        refine Hso.out.mono ?_
        rintro e w3 ⟨hb3, hr⟩
        have hb13 := hb2.trans (hb3.mono hb2.size)
        have hho := holds_any n A K cap cs vA vn vc vs w3 ((h.below hb13).more hb13.size) hK ((hx.below hb13).more hb13.size) hvn
        have Hho := Lib.hid (hho.mono fun e w' hp => And.intro hp.1 (holds_any_vals Hcs.out Hg.out hp))
        clear hho
        rcases hr with ⟨hg', _⟩ | ⟨_, m, hm, hr⟩
        · rw [Hg.out] at hg'; cases hg'
        have hmn : n = m := by omega
        subst hmn
        clear hm
        rcases hr with ⟨rfl, hno⟩ | ⟨u, xs, rfl, hown, hL⟩
        · go_wp2_with fail
          refine Hho.out.mono ?_
          rintro e w4 ⟨hb4, rfl | ⟨k, rfl⟩ | ⟨rfl, _, _, hsat⟩⟩
          · go_wp2_with fail
            refine (awake_any _).mono ?_
            rintro e w5 ⟨rfl, hb5⟩
            go_wp2_with fail
            go_ret
            exact ⟨rfl, hb13.trans ((hb4.trans (hb5.mono hb4.size)).mono hb13.size)⟩
          · go_wp2_with fail
            refine (awake_any _).mono ?_
            rintro e w5 ⟨rfl, hb5⟩
            go_wp2_with fail
            go_ret
            exact ⟨rfl, hb13.trans ((hb4.trans (hb5.mono hb4.size)).mono hb13.size)⟩
          · exact absurd hsat (fun h => hno _ h)
        · -- the solution
          obtain ⟨A5, c5, rfl, hil⟩ := il_of hown
          clear hown
          have Hil := Lib.hid hil
          have HL := Lib.hid hL
          have hn12 : n ≤ 1200 := by omega
          clear hil hL
          have hh3 : Calls Try.prog 14 #[.int .i64 n, .slice A K cap, .slice vA vn vc] w3 fun e w' => Below w3.heap.size w3 w' ∧ ∃ k f : Int, e = .returned (.tuple #[.int .i64 k, .int .i64 f]) ∧ Hid (f = 1 ∧ k = 0 ∨ f = 0 ∧ (∃ m : Nat, k = m) ∨ f = 0 ∧ k = -1 ∧ vs.length = n ∧ Vs vs ∧ Sat (fun e => e ∈ esA n cs) (gx vs)) := Hho.out.mono fun e w' ⟨h1, h2⟩ => ⟨h1, by
            rcases h2 with h2 | ⟨k, h2⟩ | ⟨h2, h3⟩
            · exact ⟨0, 1, h2, .inl ⟨rfl, rfl⟩⟩
            · exact ⟨k, 0, h2, .inr (.inl ⟨rfl, k, rfl⟩)⟩
            · exact ⟨-1, 0, h2, .inr (.inr ⟨rfl, rfl, h3⟩)⟩⟩
          have Hh3 := Lib.hid hh3
          clear hh3 Hho
          go_wp2_with fail
          refine Hh3.out.mono ?_
          rintro e w4 ⟨hb4, k, f, rfl, hkf⟩
          have hb14 := hb13.trans (hb4.mono hb13.size)
          have hh5 := (holds_any n A K cap cs A5 n c5 (solL n xs) w4 ((h.below hb14).more hb14.size) hK (Hil.out.lift hb4) (by omega)).mono fun e w' hp => And.intro hp.1 (holds_sol Hcs.out HL.out hn12 Hg.out hp)
          have Hh5 := Lib.hid hh5
          clear hh5
          go_wp2_with fail
          refine Hh5.out.mono ?_
          rintro e w5 ⟨hb5, rfl⟩
          have hb15 := hb14.trans (hb5.mono hb14.size)
          have Hil5 := Lib.hid ((Hil.out.lift hb4).lift hb5)
          go_wp2_with fail
          go_loopw [13] (fun i wx => ∃ j : Nat, j ≤ n ∧ i = .int .i64 j ∧ Below w5.heap.size w5 wx) (fun i _ => n - (intOf i).toNat)
          case atStart => exact ⟨0, Nat.zero_le _, rfl, Below.refl _ _⟩
          case round =>
            obtain ⟨j, hj, rfl, hbx⟩ := hrel
            by_cases hlj : j < n
            · have hji : (j : Int) < (n : Int) := by omega
              obtain ⟨b6, o6, x, rfl, hbl6, hx6, c0⟩ := (Hil5.out.below hbx).at_ hlj
              have hxj : gx xs j = x := by rw [← sol_gx Hcs.out HL.out, gx_at hx6]
              have hx0 : 0 ≤ x := by have := HL.out.nn j; omega
              have hx1 : x ≤ 2000000 := by have := lst_le Hcs.out HL.out hn12 j; omega
              have hblr : b6 < wr.heap.size := by have := hbx.size; omega
              have Hx6 := Lib.hid hx6
              clear hx6
              rcases hkf.out with ⟨hf, hk⟩ | ⟨hf, m, hk⟩ | ⟨hf, hk, hvl, hvv, hsat⟩
              · subst hf
                subst hk
                go_wp2_with fail
                go_quiet (fail)
                have hb6 : Below wr.heap.size wr (wr.drewN nq) := below_drewN (Below.refl _ _) _
                generalize wr.drewN nq = w6 at hb6 ⊢
                have c6 := (hb6.cell (p := ⟨b6, o6 + j, none⟩) hblr).trans c0
                have hb56 : Below w5.heap.size w5 w6 := hbx.trans (hb6.mono hbx.size)
                by_cases hz : x = 0
                · subst hz
                  go_wp2_with fail
                  go_roundw
                  case rel => exact ⟨j + 1, by omega, by go_num, hb56⟩
                  case measure => simp [intOf]; omega
                · have hzb : (x == 0) = false := by simpa using hz
                  have hcp := copyInts_any (some ⟨b6, o6, none⟩) n c5 (solL n xs) w6 (Hil5.out.lift hb56) (by omega)
                  have Hcp := Lib.hid hcp
                  clear hcp
                  go_wp2_with fail
                  refine Hcp.out.mono ?_
                  rintro e w7 ⟨u7, rfl, hown7, hb7⟩
                  obtain ⟨g7, cap7, rfl⟩ := own_some hown7 (by omega)
                  obtain ⟨c7, f7⟩ := own_cell hown7 Hx6.out
                  have hown8 := own_store hown7 j (x - 1)
                  have hb58 : Below w5.heap.size w5 (w7.setCell ⟨g7, j, none⟩ (.int .i64 (x - 1))) := (hb56.trans (hb7.mono hb56.size)).setCell (Nat.le_trans hb56.size (own_lt hown7).1) _
                  have hb18 := hb15.trans (hb58.mono hb15.size)
                  have hh9 := (holds_any n A K cap cs (some ⟨g7, 0, none⟩) n cap7 ((solL n xs).set j (x - 1)) _ ((h.below hb18).more hb18.size) hK (own_il hown8 (own_lt hown8).2) (by omega)).mono fun e w' hp => And.intro hp.1 (holds_less Hcs.out HL.out hn12 Hg.out hlj (by rw [hxj]; exact hz) (by rw [hxj]; exact hp))
                  have Hh9 := Lib.hid hh9
                  have Hb58 := Lib.hid hb58
                  clear hh9 hown8 hown7 hb18 hb58
                  go_wp2_with fail
                  refine Hh9.out.mono ?_
                  rintro e w9 ⟨hb9, k9, rfl⟩
                  have hb59 := Hb58.out.trans (hb9.mono Hb58.out.size)
                  go_wp2_with fail
                  go_roundw
                  case rel => exact ⟨j + 1, by omega, by go_num, hb59⟩
                  case measure => simp [intOf]; omega
              · subst hf
                subst hk
                have hm1 : ((m : Int) == -1) = false := by simp
                have hm2 : ¬ (m : Int) = -1 := by omega
                go_wp2_with fail
                go_quiet (fail)
                have hb6 : Below wr.heap.size wr (wr.drewN nq) := below_drewN (Below.refl _ _) _
                generalize wr.drewN nq = w6 at hb6 ⊢
                have c6 := (hb6.cell (p := ⟨b6, o6 + j, none⟩) hblr).trans c0
                have hb56 : Below w5.heap.size w5 w6 := hbx.trans (hb6.mono hbx.size)
                by_cases hz : x = 0
                · subst hz
                  go_wp2_with fail
                  go_roundw
                  case rel => exact ⟨j + 1, by omega, by go_num, hb56⟩
                  case measure => simp [intOf]; omega
                · have hzb : (x == 0) = false := by simpa using hz
                  have hcp := copyInts_any (some ⟨b6, o6, none⟩) n c5 (solL n xs) w6 (Hil5.out.lift hb56) (by omega)
                  have Hcp := Lib.hid hcp
                  clear hcp
                  go_wp2_with fail
                  refine Hcp.out.mono ?_
                  rintro e w7 ⟨u7, rfl, hown7, hb7⟩
                  obtain ⟨g7, cap7, rfl⟩ := own_some hown7 (by omega)
                  obtain ⟨c7, f7⟩ := own_cell hown7 Hx6.out
                  have hown8 := own_store hown7 j (x - 1)
                  have hb58 : Below w5.heap.size w5 (w7.setCell ⟨g7, j, none⟩ (.int .i64 (x - 1))) := (hb56.trans (hb7.mono hb56.size)).setCell (Nat.le_trans hb56.size (own_lt hown7).1) _
                  have hb18 := hb15.trans (hb58.mono hb15.size)
                  have hh9 := (holds_any n A K cap cs (some ⟨g7, 0, none⟩) n cap7 ((solL n xs).set j (x - 1)) _ ((h.below hb18).more hb18.size) hK (own_il hown8 (own_lt hown8).2) (by omega)).mono fun e w' hp => And.intro hp.1 (holds_less Hcs.out HL.out hn12 Hg.out hlj (by rw [hxj]; exact hz) (by rw [hxj]; exact hp))
                  have Hh9 := Lib.hid hh9
                  have Hb58 := Lib.hid hb58
                  clear hh9 hown8 hown7 hb18 hb58
                  go_wp2_with fail
                  refine Hh9.out.mono ?_
                  rintro e w9 ⟨hb9, k9, rfl⟩
                  have hb59 := Hb58.out.trans (hb9.mono Hb58.out.size)
                  go_wp2_with fail
                  go_roundw
                  case rel => exact ⟨j + 1, by omega, by go_num, hb59⟩
                  case measure => simp [intOf]; omega
              · subst hf
                subst hk
                have hvn2 : Hid (vn = n) := by have := hx.1; rw [Hid]; omega
                clear hvl
                obtain ⟨bv, ov, y, rfl, hblv, hy, cv⟩ := (hx.below (hb15.trans (hbx.mono hb15.size))).at_ (show j < vn by have := hvn2.out; omega)
                have hge : x ≤ y := by
                  have h9 := HL.out.least _ hsat (fun v => gx_nn hvv v) j
                  rw [gx_at hy] at h9
                  omega
                have hge2 : ¬ y < x := by omega
                have hjv : (j : Int) < (vn : Int) := by have := hvn2.out; omega
                have Hsat := Lib.hid hsat
                clear hy hsat
                go_wp2_with fail
                go_quiet (fail)
                have hb6 : Below wr.heap.size wr (wr.drewN nq) := below_drewN (Below.refl _ _) _
                generalize wr.drewN nq = w6 at hb6 ⊢
                have c6 := (hb6.cell (p := ⟨b6, o6 + j, none⟩) hblr).trans c0
                have hb56 : Below w5.heap.size w5 w6 := hbx.trans (hb6.mono hbx.size)
                by_cases hz : x = 0
                · subst hz
                  go_wp2_with fail
                  go_roundw
                  case rel => exact ⟨j + 1, by omega, by go_num, hb56⟩
                  case measure => simp [intOf]; omega
                · have hzb : (x == 0) = false := by simpa using hz
                  have hcp := copyInts_any (some ⟨b6, o6, none⟩) n c5 (solL n xs) w6 (Hil5.out.lift hb56) (by omega)
                  have Hcp := Lib.hid hcp
                  clear hcp
                  go_wp2_with fail
                  refine Hcp.out.mono ?_
                  rintro e w7 ⟨u7, rfl, hown7, hb7⟩
                  obtain ⟨g7, cap7, rfl⟩ := own_some hown7 (by omega)
                  obtain ⟨c7, f7⟩ := own_cell hown7 Hx6.out
                  have hown8 := own_store hown7 j (x - 1)
                  have hb58 : Below w5.heap.size w5 (w7.setCell ⟨g7, j, none⟩ (.int .i64 (x - 1))) := (hb56.trans (hb7.mono hb56.size)).setCell (Nat.le_trans hb56.size (own_lt hown7).1) _
                  have hb18 := hb15.trans (hb58.mono hb15.size)
                  have hh9 := (holds_any n A K cap cs (some ⟨g7, 0, none⟩) n cap7 ((solL n xs).set j (x - 1)) _ ((h.below hb18).more hb18.size) hK (own_il hown8 (own_lt hown8).2) (by omega)).mono fun e w' hp => And.intro hp.1 (holds_less Hcs.out HL.out hn12 Hg.out hlj (by rw [hxj]; exact hz) (by rw [hxj]; exact hp))
                  have Hh9 := Lib.hid hh9
                  have Hb58 := Lib.hid hb58
                  clear hh9 hown8 hown7 hb18 hb58
                  go_wp2_with fail
                  refine Hh9.out.mono ?_
                  rintro e w9 ⟨hb9, k9, rfl⟩
                  have hb59 := Hb58.out.trans (hb9.mono Hb58.out.size)
                  go_wp2_with fail
                  go_roundw
                  case rel => exact ⟨j + 1, by omega, by go_num, hb59⟩
                  case measure => simp [intOf]; omega
            · have hjn : j = n := by omega
              subst hjn
              have hji : ¬ (j : Int) < (j : Int) := by omega
              have hbf := hb15.trans (hbx.mono hb15.size)
              go_wp2_with fail
              refine (awake_any _).mono ?_
              rintro e w9 ⟨rfl, hb9⟩
              go_wp2_with fail
              go_ret
              exact ⟨rfl, hbf.trans (hb9.mono hbf.size)⟩
  · rw [hb] at hh
    have Hh := Lib.hid hh
    clear hh
    go_enter Try.func5, Try.ntmps5
    go_wp2_with fail
    refine Hh.out.mono ?_
    rintro e w1 ⟨rfl, rfl⟩
    go_wp2_with fail
    refine (awake_any _).mono ?_
    rintro e w2 ⟨rfl, hb2⟩
    go_wp2_with fail
    go_ret
    exact ⟨rfl, hb2⟩
end Go.Proofs.Ythjoehjfnedebaa
