/-
  The law GraphJoins.
-/
import Derived.Test.YtkbhmkngipdkiaaGTurn
import Derived.Test.YtkbhmkngipdkiaaGApp
import Derived.Test.YtkbhmkngipdkiaaGRExt
import Derived.Test.YtkbhmkngipdkiaaGFolL
namespace Go.Proofs.Ytkbhmkngipdkiaa
open Go Go.RowKit

/-- what a search for the solution of a valid system says, in one form -/
def JRes (n : Nat) (cs : List LCn) (e : Ending) (w' : World) : Prop :=
  (∀ y, Sat (fun e => e ∈ esA n cs) y → False) ∧ e = .returned (.tuple #[.slice none 0 0, .int .i64 20]) ∨
    ∃ A c xs, e = .returned (.tuple #[.slice A n c, .int .i64 0]) ∧ IL w' w'.heap.size A n (solL n xs) ∧ Lst (fun e => e ∈ esA n cs) (gx xs)
theorem SolvePost.jres {n : Nat} {cs : List LCn} {w w1 : World} {e : Ending} (hg : gvld n cs = true) (h : SolvePost n cs w e w1) : JRes n cs e w1 ∧ Below w.heap.size w w1 := by
  obtain ⟨hb, h⟩ := h
  refine ⟨?_, hb⟩
  rcases h with ⟨h1, _⟩ | ⟨_, m, hm, ⟨h1, h2⟩ | ⟨u, xs, h1, h2, h3⟩⟩
  · rw [hg] at h1; cases h1
  · obtain rfl : n = m := by omega
    exact .inl ⟨h2, h1⟩
  · obtain rfl : n = m := by omega
    obtain ⟨A, c, rfl, hI⟩ := il_own h2
    exact .inr ⟨A, c, xs, h1, hI, h3⟩
theorem ExtPost.jres {n : Nat} {cs ds : List LCn} {sol : List Int} {w w1 : World} {e : Ending} (hg : gvld n (cs ++ ds) = true) (hs : IsSol n cs sol) (h : ExtPost n cs ds sol w e w1) : JRes n (cs ++ ds) e w1 ∧ Below w.heap.size w w1 := by
  obtain ⟨hb, h⟩ := h
  refine ⟨?_, hb⟩
  rcases h with ⟨h1, _⟩ | ⟨_, m, hm, h⟩
  · rw [hg] at h1; cases h1
  · obtain rfl : n = m := by omega
    rcases h with ⟨h1, _⟩ | ⟨_, ⟨h1, h2⟩ | ⟨u, xs, h1, h2, h3⟩⟩
    · exact (h1 hs).elim
    · exact .inl ⟨h2, h1⟩
    · obtain ⟨A, c, rfl, hI⟩ := il_own h2
      exact .inr ⟨A, c, xs, h1, hI, h3⟩
theorem JRes.no {n : Nat} {cs : List LCn} {e : Ending} {w : World} (h : JRes n cs e w) (hn : ∀ y, Sat (fun e => e ∈ esA n cs) y → False) : e = .returned (.tuple #[.slice none 0 0, .int .i64 20]) := by
  rcases h with ⟨_, h⟩ | ⟨_, _, _, _, _, h⟩
  · exact h
  · exact (hn _ h.sat).elim
theorem JRes.yes {n : Nat} {cs : List LCn} {e : Ending} {w : World} {L : List Int} (h : JRes n cs e w) (hy : ∃ y, Sat (fun e => e ∈ esA n cs) y) (hL : ∀ xs, Lst (fun e => e ∈ esA n cs) (gx xs) → solL n xs = L) : ∃ A c, e = .returned (.tuple #[.slice A n c, .int .i64 0]) ∧ IL w w.heap.size A n L := by
  rcases h with ⟨h, _⟩ | ⟨A, c, xs, h1, h2, h3⟩
  · obtain ⟨y, hy⟩ := hy; exact (h y hy).elim
  · rw [hL xs h3] at h2; exact ⟨A, c, h1, h2⟩

set_option maxRecDepth 100000 in
set_option maxHeartbeats 8000000 in
theorem lawJoins_any (v : Int) (A : Option Addr) (K capA : Nat) (cs : List LCn) (B : Option Addr) (M capB : Nat) (ds : List LCn) (w : World)
    (h : CL w w.heap.size A K cs) (g : CL w w.heap.size B M ds) (hK : K ≤ 9223372036854775807) (hM : M ≤ 9223372036854775807) (hA : A = none → capA = 0) (hB : B = none → capB = 0) :
    Calls Try.prog 8 #[.int .i64 v, .slice A K capA, .slice B M capB] w fun e w' => e = .returned (.bool true) ∧ Below w.heap.size w w' := by
  have H1 := Lib.hid (heavy_any v 120 A K capA cs w h hK)
  have H2 := Lib.hid (heavy_any v 120 B M capB ds w g hM)
  have V1 := Lib.hid (refGvalid_any v A K capA cs w h hK)
  have V2 := Lib.hid (fun W (hW : Below w.heap.size w W) => refGvalid_any v B M capB ds W (g.lift hW) hM)
  go_enter Try.func8, Try.ntmps8
  go_upto_region 1 with fail
  go_cut [39] (fun t wx => Below w.heap.size w wx ∧ (t = .bool true ∨ (t = .bool false ∧ K ≤ 120 ∧ M ≤ 120 ∧ gvld v cs = true ∧ gvld v ds = true)))
  case first =>
    cases hb1 : heavyB v 120 cs
    · have hl1 := heavyB_len hb1
      have hK2 : K ≤ 120 := by have := h.1; omega
      rw [hb1] at H1
      clear hb1 hl1
      cases hb2 : heavyB v 120 ds
      · have hl2 := heavyB_len hb2
        have hM2 : M ≤ 120 := by have := g.1; omega
        rw [hb2] at H2
        clear hb2 hl2
        cases hg1 : gvld v cs
        · rw [hg1] at V1
          clear hg1
          go_wp2_with fail
          refine H1.out.mono ?_
          rintro e w1 ⟨rfl, rfl⟩
          go_wp2_with fail
          with_reducible refine H2.out.mono ?_
          rintro e w1 ⟨rfl, rfl⟩
          go_wp2_with fail
          refine V1.out.mono ?_
          rintro e w1 ⟨rfl, hb1⟩
          go_wp2_with fail
          go_meet
          exact ⟨hb1, .inl rfl⟩
        · rw [hg1] at V1
          have G1 := Lib.hid hg1
          clear hg1
          cases hg2 : gvld v ds
          all_goals
            rw [hg2] at V2
            have G2 := Lib.hid hg2
            clear hg2
            go_wp2_with fail
            refine H1.out.mono ?_
            rintro e w1 ⟨rfl, rfl⟩
            go_wp2_with fail
            with_reducible refine H2.out.mono ?_
            rintro e w1 ⟨rfl, rfl⟩
            go_wp2_with fail
            refine V1.out.mono ?_
            rintro e w1 ⟨rfl, hb1⟩
            go_wp2_with fail
            refine (V2.out _ hb1).mono ?_
            rintro e w2 ⟨rfl, hb2⟩
            go_wp2_with fail
            go_meet
          · exact ⟨hb1.trans (hb2.mono hb1.size), .inl rfl⟩
          · exact ⟨hb1.trans (hb2.mono hb1.size), .inr ⟨rfl, hK2, hM2, G1.out, G2.out⟩⟩
      · rw [hb2] at H2
        clear hb2
        go_wp2_with fail
        refine H1.out.mono ?_
        rintro e w1 ⟨rfl, rfl⟩
        go_wp2_with fail
        with_reducible refine H2.out.mono ?_
        rintro e w1 ⟨rfl, rfl⟩
        go_wp2_with fail
        go_meet
        exact ⟨Below.refl _ _, .inl rfl⟩
    · rw [hb1] at H1
      clear hb1
      go_wp2_with fail
      refine H1.out.mono ?_
      rintro e w1 ⟨rfl, rfl⟩
      go_wp2_with fail
      go_meet
      exact ⟨Below.refl _ _, .inl rfl⟩
  case rest =>
    obtain ⟨hb1, rfl | ⟨rfl, hK2, hM2, hg1, hg2⟩⟩ := hcut
    · go_wp2_with fail
      refine (awake_any _).mono ?_
      rintro e w2 ⟨rfl, hb2⟩
      go_wp2_with fail
      go_ret
      exact ⟨rfl, hb1.trans (hb2.mono hb1.size)⟩
    · clear H1 H2 V1 V2
      have hgb := (gvld_app v cs ds).2 ⟨hg1, hg2, by have := h.1; have := g.1; omega⟩
      have hgk := gvld_swap hgb
      obtain ⟨n, rfl, hn, _, hcsb⟩ := gvld_parts hgb
      have hgt := turn_gvld hgb
      have Gb := Lib.hid hgb
      have Gk := Lib.hid hgk
      have Gt := Lib.hid hgt
      have Hcsb := Lib.hid hcsb
      have G1 := Lib.hid hg1
      clear hg1 hg2 hgb hgk hgt hcsb
      have hS := Lib.hid (solve_any n A K capA cs wc (h.lift hb1) hK)
      go_wp2_with fail
      refine hS.out.mono ?_
      intro e w2 hp
      obtain ⟨hr, hb2⟩ := hp.jres G1.out
      have hbw2 := hb1.trans (hb2.mono hb1.size)
      clear hp hS
      rcases hr with ⟨_, rfl⟩ | ⟨As, c2, xs, rfl, hIs, hLs⟩
      · go_wp2_with fail
        refine (awake_any _).mono ?_
        rintro e w3 ⟨rfl, hb3⟩
        go_wp2_with fail
        go_ret
        exact ⟨rfl, hbw2.trans (hb3.mono hbw2.size)⟩
      · have HLs := Lib.hid hLs
        clear hLs
        have hz := hbw2.size
        go_wp2_with (at_builtin; refine wpList_append_cl rfl _ _ rfl w2.heap.size w2.heap.size 0 _ [] rfl (World.ownsRow_made w2 #[] 0 (Nat.le_refl _) (Nat.zero_le _) rfl) A K capA cs [] rfl hA ((h.lift hbw2).below ((Below.refl _ _).alloc (Nat.le_refl _) _)) (CV.nil _ _) (Nat.le_refl _) (by simp) (by omega) K cs (by omega) rfl ?_)
        intro A5 c5 w5 xs5 hown5 hcv5 _ hb5
        have hb25 : Below w2.heap.size w2 w5 := ((Below.refl _ w2).alloc (Nat.le_refl _) _).trans hb5
        clear hb5
        go_wp2_with (at_builtin; refine wpList_append_cl rfl _ _ rfl w2.heap.size w2.heap.size K _ xs5 rfl hown5 B M capB ds cs rfl hB ((g.lift hbw2).below hb25) hcv5 (Nat.le_refl _) hb25.size (by omega) (K + M) (cs ++ ds) rfl rfl ?_)
        intro A6 c6 w6 xs6 _ _ hcl6 hb6
        have hb26 := hb25.trans hb6
        clear hb6 hown5 hcv5 hb25
        have hbw6 := hbw2.trans (hb26.mono hz)
        go_wp2_with (at_builtin; refine wpList_append_cl rfl _ _ rfl w6.heap.size w6.heap.size 0 _ [] rfl (World.ownsRow_made w6 #[] 0 (Nat.le_refl _) (Nat.zero_le _) rfl) B M capB ds [] rfl hB ((g.lift hbw6).below ((Below.refl _ _).alloc (Nat.le_refl _) _)) (CV.nil _ _) (Nat.le_refl _) (by simp) (by omega) M ds (by omega) rfl ?_)
        intro A7 c7 w7 xs7 hown7 hcv7 _ hb7
        have hb67 : Below w6.heap.size w6 w7 := ((Below.refl _ w6).alloc (Nat.le_refl _) _).trans hb7
        clear hb7
        go_wp2_with (at_builtin; refine wpList_append_cl rfl _ _ rfl w6.heap.size w6.heap.size M _ xs7 rfl hown7 A K capA cs ds rfl hA ((h.lift hbw6).below hb67) hcv7 (Nat.le_refl _) hb67.size (by omega) (M + K) (ds ++ cs) rfl rfl ?_)
        intro A8 c8 w8 xs8 _ _ hcl8 hb8
        have hb68 := hb67.trans hb8
        clear hb8 hown7 hcv7 hb67
        have hb28 := hb26.trans (hb68.mono hb26.size)
        have hbw8 := hbw2.trans (hb28.mono hz)
        have hcl68 := hcl6.lift hb68
        have hE := Lib.hid (extend_any n A K capA cs As n c2 (solL n xs) B M capB ds w8 (h.lift hbw8) (hIs.lift hb28) (g.lift hbw8) (by omega) (by omega) hA hB)
        have hF := Lib.hid (fun W (hW : Below w8.heap.size w8 W) => solve_any n A6 (K + M) c6 (cs ++ ds) W (hcl68.lift hW) (by omega))
        have hG := Lib.hid (fun W (hW : Below w8.heap.size w8 W) => solve_any n A8 (M + K) c8 (ds ++ cs) W (hcl8.lift hW) (by omega))
        have hT := Lib.hid (fun W (hW : Below w8.heap.size w8 W) => turned_any n A6 (K + M) c6 (cs ++ ds) W (hcl68.lift hW) Hcsb.out hn (by omega))
        clear hcl6 hcl8 hcl68 hb26 hb68 hbw6
        go_wp2_with fail
        refine hE.out.mono ?_
        intro e w9 hp
        obtain ⟨hr, hb9⟩ := hp.jres Gb.out ⟨xs, HLs.out, rfl⟩
        clear hp hE
        rcases hr with ⟨hno, rfl⟩ | ⟨Ae, ce, ys, rfl, hIe, hLe⟩
        · have Hno := Lib.hid hno
          have Hno2 : Hid (∀ y, Sat (fun e => e ∈ esA n (ds ++ cs)) y → False) := fun y hy => hno y (sat_swap.1 hy)
          have Hno3 : Hid (∀ y, Sat (fun e => e ∈ esA n (turnL n (cs ++ ds))) y → False) := fun y hy => hno _ ((turn_sat Hcsb.out).1 hy)
          have hnil : ∀ W : World, IL W W.heap.size none 0 [] := fun W => ⟨rfl, fun h => by omega⟩
          clear hno
          go_wp2_with fail
          refine (hF.out _ hb9).mono ?_
          intro e w10 hp
          obtain ⟨hr, hb10⟩ := hp.jres Gb.out
          obtain rfl := hr.no Hno.out
          clear hp hr
          have hb810 := hb9.trans (hb10.mono hb9.size)
          go_wp2_with fail
          refine (hG.out _ hb810).mono ?_
          intro e w11 hp
          obtain ⟨hr, hb11⟩ := hp.jres Gk.out
          obtain rfl := hr.no Hno2.out
          clear hp hr
          have hb811 := hb810.trans (hb11.mono hb810.size)
          go_wp2_with fail
          refine (eqInts_true none 0 0 none 0 [] w11 (hnil _) (hnil _) (by omega)).mono ?_
          rintro e w12 ⟨rfl, hb12⟩
          have hb812 := hb811.trans (hb12.mono hb811.size)
          go_wp2_with fail
          refine (eqInts_true none 0 0 none 0 [] w12 (hnil _) (hnil _) (by omega)).mono ?_
          rintro e w13 ⟨rfl, hb13⟩
          have hb813 := hb812.trans (hb13.mono hb812.size)
          go_wp2_with fail
          refine (hT.out _ hb813).mono ?_
          rintro e w14 ⟨A9, c9, rfl, hcl9, hb14⟩
          have hb814 := hb813.trans (hb14.mono hb813.size)
          have hS9 := Lib.hid (solve_any n A9 (K + M) c9 (turnL n (cs ++ ds)) w14 hcl9 (by omega))
          clear hcl9
          go_wp2_with fail
          refine hS9.out.mono ?_
          intro e w15 hp
          obtain ⟨hr, hb15⟩ := hp.jres Gt.out
          obtain rfl := hr.no Hno3.out
          clear hp hr
          have hb815 := hb814.trans (hb15.mono hb814.size)
          go_wp2_with fail
          go_loopw [19] (fun t wr => t = .int .i64 0 ∧ wr = w15) (fun _ _ => 0)
          case atStart => exact ⟨rfl, rfl⟩
          case round =>
            obtain ⟨rfl, rfl⟩ := hrel
            by_cases hn0 : (0 : Int) < (n : Int)
            all_goals
              go_wp2_with fail
              refine (awake_any _).mono ?_
              rintro e w16 ⟨rfl, hb16⟩
              have hb816 := hb815.trans (hb16.mono hb815.size)
              go_wp2_with fail
              go_ret
              exact ⟨rfl, hbw8.trans (hb816.mono hbw8.size)⟩
        · have Hsat : Hid (∃ y, Sat (fun e => e ∈ esA n (cs ++ ds)) y) := ⟨_, hLe.sat⟩
          have Hsat2 : Hid (∃ y, Sat (fun e => e ∈ esA n (ds ++ cs)) y) := ⟨_, sat_swap.1 hLe.sat⟩
          have Hsat3 : Hid (∃ y, Sat (fun e => e ∈ esA n (turnL n (cs ++ ds))) y) := ⟨fun v => gx ys (sg n v), (turn_sat Hcsb.out).2 (by
            have : (fun v => gx ys (sg n (sg n v))) = gx ys := by funext v; rw [sg_sg]
            show Sat _ fun v => gx ys (sg n (sg n v))
            rw [this]; exact hLe.sat)⟩
          have hL1 : Hid (∀ xs, Lst (fun e => e ∈ esA n (cs ++ ds)) (gx xs) → solL n xs = solL n ys) := fun xs hx => lst_only hx hLe fun y => Iff.rfl
          have hL2 : Hid (∀ xs, Lst (fun e => e ∈ esA n (ds ++ cs)) (gx xs) → solL n xs = solL n ys) := fun xs hx => lst_only hx hLe fun y => sat_swap
          have hL3 : Hid (∀ zs, Lst (fun e => e ∈ esA n (turnL n (cs ++ ds))) (gx zs) → ∀ v, v < n → gx (solL n zs) v = gx (solL n ys) (n - 1 - v)) := fun zs hz v hv => turn_sol Hcsb.out hLe hz hv
          have hLl := solL_len n ys
          have hLb : ∀ j, j < n → ∃ z, (solL n ys)[j]? = some z := fun j hj => ⟨_, List.getElem?_eq_getElem (by omega)⟩
          generalize solL n ys = L at *
          clear hLe
          go_wp2_with fail
          refine (hF.out _ hb9).mono ?_
          intro e w10 hp
          obtain ⟨hr, hb10⟩ := hp.jres Gb.out
          obtain ⟨Af, cf, rfl, hIf⟩ := hr.yes Hsat.out hL1.out
          clear hp hr
          have hb810 := hb9.trans (hb10.mono hb9.size)
          go_wp2_with fail
          refine (hG.out _ hb810).mono ?_
          intro e w11 hp
          obtain ⟨hr, hb11⟩ := hp.jres Gk.out
          obtain ⟨Ag, cg, rfl, hIg⟩ := hr.yes Hsat2.out hL2.out
          clear hp hr
          have hb811 := hb810.trans (hb11.mono hb810.size)
          have hb911 := hb10.trans (hb11.mono hb10.size)
          have HQ1 := Lib.hid (eqInts_true Ae n ce Af cf L w11 (hIe.lift hb911) (hIf.lift hb11) (by omega))
          go_wp2_with fail
          refine HQ1.out.mono ?_
          rintro e w12 ⟨rfl, hb12⟩
          have hb812 := hb811.trans (hb12.mono hb811.size)
          have hb1012 := hb11.trans (hb12.mono hb11.size)
          have HQ2 := Lib.hid (eqInts_true Af n cf Ag cg L w12 (hIf.lift hb1012) (hIg.lift hb12) (by omega))
          go_wp2_with fail
          refine HQ2.out.mono ?_
          rintro e w13 ⟨rfl, hb13⟩
          have hb813 := hb812.trans (hb13.mono hb812.size)
          have hb1013 := hb1012.trans (hb13.mono hb1012.size)
          clear HQ1 HQ2 hIe hIg
          go_wp2_with fail
          refine (hT.out _ hb813).mono ?_
          rintro e w14 ⟨A9, c9, rfl, hcl9, hb14⟩
          have hb814 := hb813.trans (hb14.mono hb813.size)
          have hb1014 := hb1013.trans (hb14.mono hb1013.size)
          have hS9 := Lib.hid (solve_any n A9 (K + M) c9 (turnL n (cs ++ ds)) w14 hcl9 (by omega))
          clear hcl9
          go_wp2_with fail
          refine hS9.out.mono ?_
          intro e w15 hp
          obtain ⟨hr, hb15⟩ := hp.jres Gt.out
          have hr9 : ∃ Az cz Z, e = .returned (.tuple #[.slice Az n cz, .int .i64 0]) ∧ IL w15 w15.heap.size Az n Z ∧ ∀ v, v < n → gx Z v = gx L (n - 1 - v) := by
            rcases hr with ⟨h9, _⟩ | ⟨Az, cz, zs, h1, h2, h3⟩
            · obtain ⟨y, hy⟩ := Hsat3.out; exact (h9 y hy).elim
            · exact ⟨Az, cz, _, h1, h2, hL3.out zs h3⟩
          obtain ⟨Az, cz, Z, rfl, hIz, hZ⟩ := hr9
          have HZ := Lib.hid hZ
          clear hp hr hZ
          have hb815 := hb814.trans (hb15.mono hb814.size)
          have hIf15 := hIf.lift (hb1014.trans (hb15.mono hb1014.size))
          clear hIf hb1012 hb1013 hb1014 hb911
          go_wp2_with fail
          go_loopw [19] (fun t wr => ∃ k : Nat, k ≤ n ∧ t = .int .i64 k ∧ Below w15.heap.size w15 wr) (fun t _ => n - (intOf t).toNat)
          case atStart => exact ⟨0, Nat.zero_le _, rfl, Below.refl _ _⟩
          case round =>
            obtain ⟨k, hk, rfl, hbq⟩ := hrel
            have hb8q := hb815.trans (hbq.mono hb815.size)
            by_cases hkn : k < n
            · have hki : (k : Int) < (n : Int) := by omega
              obtain ⟨b1, o1, x1, rfl, hl1, hx1, hc1⟩ := (hIz.lift hbq).at_ hkn
              obtain ⟨b2, o2, x2, rfl, hl2, hx2, hc2⟩ := (hIf15.lift hbq).at_ (k := n - 1 - k) (by omega)
              have hxx : x1 = x2 := by
                have := HZ.out k hkn
                rw [gx_at hx1, gx_at hx2] at this
                exact this
              subst hxx
              have hw1 : IntKind.i64.wrap ((n : Int) - 1) = (n : Int) - 1 := by rw [IntKind.wrap_i64]; omega
              have hw2 : IntKind.i64.wrap ((n : Int) - 1 - k) = (n : Int) - 1 - k := by rw [IntKind.wrap_i64]; omega
              have hi1 : (n : Int) - 1 - k < n := by omega
              have hi2 : 0 ≤ (n : Int) - 1 - k := by omega
              have hi3 : ((n : Int) - 1 - k).toNat = n - 1 - k := by omega
              have hi4 : (k : Int) ≤ (n : Int) - 1 := by omega
              clear hx1 hx2
              go_wp2_with fail
              go_quiet (fail)
              go_wp2_with fail
              go_roundw
              case rel => exact ⟨k + 1, by omega, by go_num, below_drewN hbq _⟩
              case measure => simp [intOf]; omega
            · have hki : ¬ (k : Int) < (n : Int) := by omega
              go_wp2_with fail
              refine (awake_any _).mono ?_
              rintro e w16 ⟨rfl, hb16⟩
              have hb816 := hb8q.trans (hb16.mono hb8q.size)
              go_wp2_with fail
              go_ret
              exact ⟨rfl, hbw8.trans (hb816.mono hbw8.size)⟩
end Go.Proofs.Ytkbhmkngipdkiaa
