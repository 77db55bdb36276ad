/-
  The law GraphReaches.
-/
import Derived.Test.YtkbhmkngipdkiaaGReachM
import Derived.Test.YtkbhmkngipdkiaaGRBnd
import Derived.Test.YtkbhmkngipdkiaaGApp
import Derived.Test.YtkbhmkngipdkiaaGChainW
import Derived.Test.YtkbhmkngipdkiaaGFolL
namespace Go.Proofs.Ytkbhmkngipdkiaa
open Go Go.RowKit

theorem boxEn {w wx : World} {f t : Int} (h : Below (w.heap.size + 1) (w.alloc (.cells #[.int .i64 f, .int .i64 t] 38)) wx) :
    wx.cell? ⟨w.heap.size, 0, none⟩ = some (.int .i64 f) ∧ wx.cell? ⟨w.heap.size, 1, none⟩ = some (.int .i64 t) ∧ Below w.heap.size w wx ∧ w.heap.size + 1 ≤ wx.heap.size := by
  have hs := h.size
  simp at hs
  exact ⟨(h.cell (p := ⟨w.heap.size, 0, none⟩) (by simp)).trans (by simp), (h.cell (p := ⟨w.heap.size, 1, none⟩) (by simp)).trans (by simp), back0 h, hs⟩
/-- a bound as it is returned -/
theorem bE_parts (b : Option Int) : ∃ (a : Int) (ok : Bool), bE b = .returned (.tuple #[.int .i64 a, .bool ok, .int .i64 0]) ∧ (ok = true → b = some (-a)) ∧ (ok = false → b = none) := by
  cases b with
  | none => exact ⟨0, false, rfl, fun h => (by cases h), fun _ => rfl⟩
  | some d => exact ⟨-d, true, rfl, fun _ => (by rw [Int.neg_neg]), fun h => (by cases h)⟩
theorem lvok_nil (w : World) (B : Nat) : LvOk w B (.slice none 0 0) [] := ⟨none, 0, 0, rfl, PL.nil_ _, Nat.le_refl _, by omega⟩

set_option maxRecDepth 100000 in
set_option maxHeartbeats 8000000 in
theorem lawReaches_any (v : Int) (A : Option Addr) (K cap : Nat) (cs : List LCn) (f t : Int) (w : World) (h : CL w w.heap.size A K cs) (hK : K ≤ 9223372036854775807) (hA : A = none → cap = 0) :
    Calls Try.prog 7 #[.int .i64 v, .slice A K cap, .agg #[.int .i64 f, .int .i64 t]] w fun e w' => e = .returned (.bool true) ∧ Below w.heap.size w w' := by
  have hX : Below (w.heap.size + 1) (w.alloc (.cells #[.int .i64 f, .int .i64 t] 38)) (w.alloc (.cells #[.int .i64 f, .int .i64 t] 38)) := Below.refl _ _
  obtain ⟨g0, g1, hX0, _⟩ := boxEn hX
  obtain ⟨i0, hi, hz0, hz1, hz2⟩ := info_parts infoC
  go_enter Try.func7, Try.ntmps7
  go_upto_region 1 with fail
  go_cut [7, 8] (fun a b wx => a = .int .i64 f ∧ b = .int .i64 t ∧ Below w.heap.size w wx)
  case first =>
    go_quiet (fail)
    go_wp2_with fail
    go_meet
    exact ⟨rfl, rfl, below_drewN hX0 _⟩
  case rest =>
    obtain ⟨rfl, rfl, hbc⟩ := hcut
    obtain ⟨w0, hw0⟩ : ∃ w0, w0 = wc := ⟨_, rfl⟩
    subst hw0
    clear g0 g1 hX hX0
    have hh := heavy_any v 60 A K cap cs w0 (h.lift hbc) hK
    cases hb : heavyB v 60 cs
    · have hlen := heavyB_len hb
      have hK2 : K ≤ 60 := by have := h.1; omega
      rw [hb] at hh
      have Hh := Lib.hid hh
      clear hh hb hlen
      by_cases ht : 0 ≤ t ∧ t ≤ 1000
      · obtain ⟨ht0, ht1⟩ := ht
        have t0 : ¬ t < 0 := by omega
        have t1 : ¬ 1000 < t := by omega
        have hB := Lib.hid (bound_any v A K cap cs f w0 (h.lift hbc) hK)
        go_wp2_with fail
        refine Hh.out.mono ?_
        rintro e w1 ⟨rfl, rfl⟩
        go_wp2_with fail
        refine hB.out.mono ?_
        rintro e w2 ⟨hb2, hp⟩
        have hbw2 := hbc.trans (hb2.mono hbc.size)
        clear hB
        have hno : ∀ k : Int, k ≠ 0 → e = .returned (.tuple #[.int .i64 0, .bool false, .int .i64 k]) → True := fun _ _ _ => trivial
        rcases hp with ⟨_, rfl⟩ | ⟨hg, n, rfl, ⟨_, rfl⟩ | ⟨s, rfl, hs, ⟨_, rfl⟩ | ⟨hsat, b, hbo, rfl⟩⟩⟩
        · go_wp2_with fail
          refine (awake_any _).mono ?_
          rintro e w3 ⟨rfl, hb3⟩
          go_wp2_with fail
          go_ret
          exact ⟨rfl, hbw2.trans (hb3.mono hbw2.size)⟩
        · go_wp2_with fail
          refine (awake_any _).mono ?_
          rintro e w3 ⟨rfl, hb3⟩
          go_wp2_with fail
          go_ret
          exact ⟨rfl, hbw2.trans (hb3.mono hbw2.size)⟩
        · go_wp2_with fail
          refine (awake_any _).mono ?_
          rintro e w3 ⟨rfl, hb3⟩
          go_wp2_with fail
          go_ret
          exact ⟨rfl, hbw2.trans (hb3.mono hbw2.size)⟩
        · obtain ⟨a, ok, he, hok, hnk⟩ := bE_parts b
          obtain ⟨want, hwant⟩ : ∃ want : Int, want = if ok then a else t := ⟨_, rfl⟩
          have hw0 : 0 ≤ want := by
            cases ok
            · rw [hwant]; exact ht0
            · rw [hwant]
              have h1 := hok rfl
              rw [h1] at hbo
              have := bnd_nn hbo hs hsat
              simp; omega
          have hyes : ∃ y, Sat (fun e => e ∈ esA n (cs ++ [lk want s])) y := bnd_yes hbo fun d hd => by
            cases ok
            · rw [hnk rfl] at hd; cases hd
            · rw [hok rfl] at hd
              cases hd
              rw [hwant]; simp
          have hno2 : ok = true → ∀ y, Sat (fun e => e ∈ esA n (cs ++ [lk (want + 1) s])) y → False := fun ho y hy => by
            rw [hok ho] at hbo
            subst ho
            have e1 : want = a := by rw [hwant]; rfl
            subst e1
            have := bnd_no hbo y
            rw [Int.neg_neg] at this
            exact this hy
          have Hg := Lib.hid hg
          have Hyes := Lib.hid hyes
          have Hno := Lib.hid hno2
          have Hwant := Lib.hid hwant
          rw [he]
          clear hno hok hnk hbo hsat hyes hno2 he hwant hg
          go_upto_if 47 with fail
          go_cut [12] (fun x wx => x = .int .i64 want ∧ wx = w2)
          case first =>
            cases ok
            · go_wp2_with fail
              go_meet
              exact ⟨by rw [Hwant.out]; rfl, rfl⟩
            · go_wp2_with fail
              go_meet
              exact ⟨by rw [Hwant.out]; rfl, rfl⟩
          case rest =>
            obtain ⟨rfl, rfl⟩ := hcut
            obtain ⟨w2, hw2⟩ : ∃ x, x = wc := ⟨_, rfl⟩
            subst hw2
            have w00 : ¬ want < 0 := by omega
            by_cases hwt : want ≤ 1000
            · have w01 : ¬ 1000 < want := by omega
              have hz := hbw2.size
              have hlen : cs.length ≤ 60 := by have := h.1; omega
              obtain ⟨n', hn', hn, _, _⟩ := gvld_nat Hg.out
              obtain rfl : n = n' := by omega
              have Hg1 := Lib.hid (lk_gvld Hg.out hlen hs ⟨hw0, hwt⟩)
              have Hg2 : Hid (want ≠ 1000 → gvld n (cs ++ [lk (want + 1) s]) = true) := fun h9 => lk_gvld Hg.out hlen hs ⟨by omega, by omega⟩
              have hcl2 := h.lift hbw2
              clear hlen
              go_wp2_with (at_builtin; refine wpList_append_cl rfl _ _ rfl w2.heap.size w2.heap.size 0 _ [] rfl (World.ownsRow_made w2 #[] 0 (Nat.le_refl _) (Nat.zero_le _) rfl) A K cap cs [] rfl hA (hcl2.below ((Below.refl _ _).alloc (Nat.le_refl _) _)) (CV.nil _ _) (Nat.le_refl _) (by simp) (by omega) K cs (by omega) rfl ?_)
              intro A5 c5 w5 xs5 hown5 hcv5 _ hb5
              have hb25 : Below w2.heap.size w2 w5 := ((Below.refl _ w2).alloc (Nat.le_refl _) _).trans hb5
              have hs25 := hb25.size
              clear hb5
              have HA1 := Lib.hid (at_heap s 0 w5)
              go_wp2_with fail
              refine HA1.out.mono ?_
              rintro e w6 ⟨q, rfl, hq, hb6⟩
              have hb56 : Below w5.heap.size w5 (w6.alloc (.cells #[.int .i64 want, .slice none 0 0, .int .i64 0, .slice (some ⟨q, 0, none⟩) 1 1] 46)) := hb6.alloc hb6.size _
              have hown6 := own_below hown5 hb56
              have hcv6 := hcv5.below (hb56.mono hs25)
              have hq6 := KV.below ((Below.refl _ w6).alloc (Nat.le_refl _) (.cells #[.int .i64 want, .slice none 0 0, .int .i64 0, .slice (some ⟨q, 0, none⟩) 1 1] 46)) _ _ hq
              have hone : ∀ u ∈ [Value.int .i64 want, .slice none 0 0, .int .i64 0, .slice (some ⟨q, 0, none⟩) 1 1], u.oneCell' = true := by simp [Value.oneCell']
              have hs56 := hb6.size
              have hb26 := hb25.trans (hb56.mono hs25)
              clear hown5 hcv5 hq hb6 HA1
              go_wp2_with (at_builtin; refine wpList_append_own _ rfl _ _ 22 rfl w2.heap.size 46 i0 (.agg #[.int .i64 0, .slice none 0 0, .int .i64 0, .slice none 0 0]) 4 64 Try.underlying22 hi hz0 hz1 hz2 rfl (by decide) _ K xs5 rfl hown6 _ 1 1 [.int .i64 want, .slice none 0 0, .int .i64 0, .slice (some ⟨q, 0, none⟩) 1 1] rfl rfl (news4c rfl) hone (by unfold maxLen; omega) (by omega) (by simp; omega) ?_)
              intro v7 w7 hown7 hgrow7 _
              have hb7 : Below w2.heap.size w2 w7 := hb26.grown hgrow7 (by simp; omega) (fun j hj => (hown6.lt j hj).1)
              have hb67 : Below w2.heap.size (w6.alloc (.cells #[.int .i64 want, .slice none 0 0, .int .i64 0, .slice (some ⟨q, 0, none⟩) 1 1] 46)) w7 := (Below.refl _ _).grown hgrow7 (by simp; omega) (fun j hj => (hown6.lt j hj).1)
              have hq7 := KV.grown hown6 hgrow7 _ _ hq6
              have hcv7 := hcv6.below hb67
              have hfull7 : CV w7 w7.heap.size (xs5 ++ [.int .i64 want, .slice none 0 0, .int .i64 0, .slice (some ⟨q, 0, none⟩) 1 1]) (cs ++ [lk want s]) := (hcv7.more hb7.size).append (CV.one (c := lk want s) (lvok_nil _ _) (lv_ok hq7))
              obtain ⟨A7, c7, rfl, hcl7, hcap7, _⟩ := CL.of_own hown7 hfull7 (Nat.le_refl _)
              obtain ⟨g, cg, hge⟩ := own_some hown7 (by omega)
              cases hge
              clear hown6 hcv6 hq6 hgrow7 hb56 hb26 hb67 hfull7
              have hbw7 := hbw2.trans (hb7.mono hz)
              have hS1 := Lib.hid (solve_any n (some ⟨g, 0, none⟩) (K + 1) c7 (cs ++ [lk want s]) w7 hcl7 (by omega))
              clear hcl7
              go_wp2_with fail
              refine hS1.out.mono ?_
              rintro e w8 ⟨hb8, hp8⟩
              obtain ⟨As, cs8, L, rfl, hIs, hge⟩ : ∃ (As : Option Addr) (cs8 : Nat) (L : List Int), e = .returned (.tuple #[.slice As n cs8, .int .i64 0]) ∧ IL w8 w8.heap.size As n L ∧ want ≤ gx L s := by
                rcases hp8 with ⟨h9, _⟩ | ⟨_, m, hm, ⟨_, h9⟩ | ⟨u, ys, h9, hown9, hL9⟩⟩
                · rw [Hg1.out] at h9; cases h9
                · obtain rfl : n = m := by omega
                  obtain ⟨y, hy⟩ := Hyes.out
                  exact (h9 y hy).elim
                · obtain rfl : n = m := by omega
                  obtain ⟨Au, cu, rfl, hI9⟩ := il_own hown9
                  refine ⟨Au, cu, _, h9, hI9, ?_⟩
                  have h10 := (lk_sat.1 hL9.sat).2
                  rw [gx_at (solL_at ys hs)]
                  omega
              obtain ⟨b1, o1, x1, rfl, hl1, hx1, hc1⟩ := hIs.at_ hs
              rw [gx_at hx1] at hge
              have hge2 : ¬ x1 < want := by omega
              have i1 : (s : Int) < (n : Int) := by omega
              have hbw8 := hbw7.trans (hb8.mono hbw7.size)
              have hown8 := own_below hown7 hb8
              have hq8 := KV.below hb8 _ _ hq7
              have hcv8 := hcv7.below (hb8.mono hb7.size)
              have hb28 := hb7.trans (hb8.mono hb7.size)
              clear hp8 hS1 hown7 hq7 hcv7 hx1
              cases ok
              · go_wp2_with fail
                refine (awake_any _).mono ?_
                rintro e w9 ⟨rfl, hb9⟩
                go_wp2_with fail
                go_ret
                exact ⟨rfl, hbw8.trans (hb9.mono hbw8.size)⟩
              · by_cases hw3 : want = 1000
                · subst hw3
                  go_wp2_with fail
                  refine (awake_any _).mono ?_
                  rintro e w9 ⟨rfl, hb9⟩
                  go_wp2_with fail
                  go_ret
                  exact ⟨rfl, hbw8.trans (hb9.mono hbw8.size)⟩
                · have hwb : (want == 1000) = false := by simpa using hw3
                  have hxl : xs5.length = K * 4 := by have h9 := hcv8.1; have := h.1; omega
                  have q8 := hown8.cellAt (K * 4) (by simp)
                  rw [List.getElem?_append_right (by omega), show K * 4 - xs5.length = 0 by omega] at q8
                  have q8' : w8.cell? ⟨g, K * 4, none⟩ = some (.int .i64 want) := q8
                  have q9 := hown8.frozenAt (K * 4)
                  have hown9 := (hown8.stored (K * 4) (.int .i64 (want + 1))).1
                  rw [List.set_append_right _ _ (by omega), show K * 4 - xs5.length = 0 by omega] at hown9
                  have hgl := own_lt hown8
                  have hb9 : Below w2.heap.size w2 (w8.setCell ⟨g, K * 4, none⟩ (.int .i64 (want + 1))) := hb28.setCell hgl.1 _
                  have hcv9 : CV (w8.setCell ⟨g, K * 4, none⟩ (.int .i64 (want + 1))) w2.heap.size xs5 cs := hcv8.below ((Below.refl _ w8).setCell hgl.1 _)
                  have hne := own_type_ne' hown8 ⟨_, _, hq8⟩ (by decide)
                  have hq9 : (w8.setCell ⟨g, K * 4, none⟩ (.int .i64 (want + 1))).heap[q]? = some (.cells #[.int .i64 s, .int .i64 0] 90) := (Below.heap_setCell w8 ⟨g, K * 4, none⟩ (.int .i64 (want + 1)) q (fun e => hne (by subst e; rfl))).trans hq8
                  have hfull9 : CV (w8.setCell ⟨g, K * 4, none⟩ (.int .i64 (want + 1))) (w8.setCell ⟨g, K * 4, none⟩ (.int .i64 (want + 1))).heap.size (xs5 ++ [.int .i64 (want + 1), .slice none 0 0, .int .i64 0, .slice (some ⟨q, 0, none⟩) 1 1]) (cs ++ [lk (want + 1) s]) := (hcv9.more hb9.size).append (CV.one (c := lk (want + 1) s) (lvok_nil _ _) (lv_ok hq9))
                  obtain ⟨A9, c9, he9, hcl9, _, _⟩ := CL.of_own hown9 hfull9 (Nat.le_refl _)
                  cases he9
                  have hwr : IntKind.i64.wrap (want + 1) = want + 1 := by rw [IntKind.wrap_i64]; omega
                  have i2 : (K : Int) < (K : Int) + 1 := by omega
                  have hbw9 := hbw2.trans (hb9.mono hz)
                  have hS2 := Lib.hid (solve_any n (some ⟨g, 0, none⟩) (K + 1) c7 (cs ++ [lk (want + 1) s]) _ hcl9 (by omega))
                  clear hcl9 hfull9 hq9 hne hcv9 hown9 hown8 hcv8 hq8 q8 hb28 hxl
                  go_wp2_with fail
                  refine hS2.out.mono ?_
                  rintro e w10 ⟨hb10, hp10⟩
                  have hbw10 := hbw9.trans (hb10.mono hbw9.size)
                  obtain ⟨A10, m10, c10, rfl⟩ : ∃ (A10 : Option Addr) (m10 c10 : Nat), e = .returned (.tuple #[.slice A10 m10 c10, .int .i64 20]) := by
                    rcases hp10 with ⟨h9, _⟩ | ⟨_, m, hm, ⟨h9, _⟩ | ⟨u, ys, _, _, hL9⟩⟩
                    · rw [Hg2.out hw3] at h9; cases h9
                    · exact ⟨_, _, _, h9⟩
                    · obtain rfl : n = m := by omega
                      exact (Hno.out (by first | exact rfl | trivial) _ hL9.sat).elim
                  clear hp10 hS2
                  go_wp2_with fail
                  refine (awake_any _).mono ?_
                  rintro e w11 ⟨rfl, hb11⟩
                  go_wp2_with fail
                  go_ret
                  exact ⟨rfl, hbw10.trans (hb11.mono hbw10.size)⟩
            · have w01 : 1000 < want := by omega
              go_wp2_with fail
              refine (awake_any _).mono ?_
              rintro e w3 ⟨rfl, hb3⟩
              go_wp2_with fail
              go_ret
              exact ⟨rfl, hbw2.trans (hb3.mono hbw2.size)⟩
      · have htt : t < 0 ∨ 1000 < t := by omega
        rcases htt with t0 | t0
        · go_wp2_with fail
          refine Hh.out.mono ?_
          rintro e w1 ⟨rfl, rfl⟩
          go_wp2_with fail
          refine (awake_any _).mono ?_
          rintro e w3 ⟨rfl, hb3⟩
          go_wp2_with fail
          go_ret
          exact ⟨rfl, hbc.trans (hb3.mono hbc.size)⟩
        · have t1 : ¬ t < 0 := by omega
          go_wp2_with fail
          refine Hh.out.mono ?_
          rintro e w1 ⟨rfl, rfl⟩
          go_wp2_with fail
          refine (awake_any _).mono ?_
          rintro e w3 ⟨rfl, hb3⟩
          go_wp2_with fail
          go_ret
          exact ⟨rfl, hbc.trans (hb3.mono hbc.size)⟩
    · rw [hb] at hh
      have Hh := Lib.hid hh
      clear hh hb
      go_wp2_with fail
      refine Hh.out.mono ?_
      rintro e w1 ⟨rfl, rfl⟩
      go_wp2_with fail
      refine (awake_any _).mono ?_
      rintro e w3 ⟨rfl, hb3⟩
      go_wp2_with fail
      go_ret
      exact ⟨rfl, hbc.trans (hb3.mono hbc.size)⟩
end Go.Proofs.Ytkbhmkngipdkiaa
