/-
  'Extend' of the reference: it says the same as Extend of package graph.
-/
import Derived.Test.YtolilmodihgaiaaGExt
import Derived.Test.YtolilmodihgaiaaGRSol
namespace Go.Proofs.Ytolilmodihgaiaa
open Go Go.RowKit

theorem gvld_app (v : Int) (cs ds : List LCn) : gvld v (cs ++ ds) = true ↔ gvld v cs = true ∧ gvld v ds = true ∧ cs.length + ds.length ≤ 3000 := by
  unfold gvld fitB
  simp only [Bool.and_eq_true, decide_eq_true_eq, List.all_append, List.length_append]
  constructor
  · rintro ⟨⟨a, b, c⟩, d, e⟩; exact ⟨⟨⟨a, b, by omega⟩, d⟩, ⟨⟨a, b, by omega⟩, e⟩, c⟩
  · rintro ⟨⟨⟨a, b, _⟩, d⟩, ⟨_, e⟩, c⟩; exact ⟨⟨a, b, c⟩, d, e⟩
theorem gvld_app_false {v : Int} {cs ds : List LCn} (h : ¬ (gvld v cs = true ∧ gvld v ds = true ∧ cs.length + ds.length ≤ 3000)) : gvld v (cs ++ ds) = false := by
  cases hg : gvld v (cs ++ ds) with
  | false => rfl
  | true => exact absurd ((gvld_app v cs ds).1 hg) h
/-- the reference's numbers are the least ones -/
theorem RS.lst {n : Nat} {cs : List LCn} {L : List Int} (h : RS n cs L) : Lst (fun e => e ∈ esA n cs) (gx L) := by
  refine ⟨h.sat, h.nn, fun y hy hn v => ?_⟩
  by_cases hv : v < n
  · have h1 := h.least y hy v hv
    have h2 := hn n
    omega
  · rw [gx_out h.len (by omega)]; exact hn v
theorem RS.isSol {n : Nat} {cs : List LCn} {L : List Int} (hcs : ∀ c ∈ cs, Con n c) (h : RS n cs L) : IsSol n cs L := ⟨L, h.lst, h.sol hcs h.lst⟩
theorem RS.notSol {n : Nat} {cs : List LCn} {L sol : List Int} (hcs : ∀ c ∈ cs, Con n c) (h : RS n cs L) (hne : L ≠ sol) : ¬ IsSol n cs sol := fun ⟨xs, h1, h2⟩ => hne (by rw [← h2]; exact (h.sol hcs h1).symm)
/-- what Extend of the reference says -/
def RExtPost (v : Int) (cs ds : List LCn) (sol : List Int) (w : World) (e : Ending) (w' : World) : Prop :=
  Below w.heap.size w w' ∧ (gvld v (cs ++ ds) = false ∧ e = .returned (.tuple #[.slice none 0 0, .int .i64 4]) ∨
    gvld v (cs ++ ds) = true ∧ ∃ n : Nat, v = n ∧ (¬ IsSol n cs sol ∧ e = .returned (.tuple #[.slice none 0 0, .int .i64 1]) ∨
      IsSol n cs sol ∧ (e = .returned (.tuple #[.slice none 0 0, .int .i64 20]) ∧ (∀ y, Sat (fun e => e ∈ esA n (cs ++ ds)) y → False) ∨
        ∃ u L, e = .returned (.tuple #[u, .int .i64 0]) ∧ w'.ownsRow w.heap.size 3 1 u n (int1 L) ∧ RS n (cs ++ ds) L)))
theorem ExtPost.shape {v : Int} {cs ds : List LCn} {sol : List Int} {w w1 : World} {e : Ending} (h : ExtPost v cs ds sol w e w1) : ∃ A n c er, e = .returned (.tuple #[.slice A n c, .int .i64 er]) := by
  obtain ⟨_, h⟩ := h
  rcases h with ⟨_, rfl⟩ | ⟨_, n, _, ⟨_, rfl⟩ | ⟨_, ⟨rfl, _⟩ | ⟨u, xs, rfl, h3, _⟩⟩⟩
  · exact ⟨_, _, _, _, rfl⟩
  · exact ⟨_, _, _, _, rfl⟩
  · exact ⟨_, _, _, _, rfl⟩
  · obtain ⟨A, c, rfl, _⟩ := il_own h3
    exact ⟨_, _, _, _, rfl⟩
theorem ExtPost.same {v : Int} {cs ds : List LCn} {sol : List Int} {w w1 w2 : World} {e d : Ending} (h : ExtPost v cs ds sol w e w1) (g : RExtPost v cs ds sol w1 d w2) :
    ∃ A n cA B cB er l, e = .returned (.tuple #[.slice A n cA, .int .i64 er]) ∧ d = .returned (.tuple #[.slice B n cB, .int .i64 er]) ∧ IL w2 w2.heap.size A n l ∧ IL w2 w2.heap.size B n l ∧ n ≤ 1000000 := by
  obtain ⟨hb1, h⟩ := h
  obtain ⟨hb2, g⟩ := g
  have hnil : IL w2 w2.heap.size none 0 [] := ⟨rfl, fun h => by omega⟩
  rcases h with ⟨h1, rfl⟩ | ⟨h1, n, rfl, h2⟩ <;> rcases g with ⟨g1, rfl⟩ | ⟨g1, m, gm, g2⟩
  · exact ⟨_, _, _, _, _, _, _, rfl, rfl, hnil, hnil, by omega⟩
  · rw [h1] at g1; cases g1
  · rw [h1] at g1; cases g1
  · obtain rfl : n = m := by omega
    obtain ⟨n', e1, e2, _, hcs⟩ := gvld_parts h1
    obtain rfl : n = n' := by omega
    rcases h2 with ⟨h3, rfl⟩ | ⟨h3, h4⟩ <;> rcases g2 with ⟨g3, rfl⟩ | ⟨g3, g4⟩
    · exact ⟨_, _, _, _, _, _, _, rfl, rfl, hnil, hnil, by omega⟩
    · exact (h3 g3).elim
    · exact (g3 h3).elim
    · rcases h4 with ⟨rfl, h5⟩ | ⟨u, xs, rfl, h5, h6⟩ <;> rcases g4 with ⟨rfl, g5⟩ | ⟨u', L, rfl, g5, g6⟩
      · exact ⟨_, _, _, _, _, _, _, rfl, rfl, hnil, hnil, by omega⟩
      · exact (h5 _ g6.sat).elim
      · exact (g5 _ h6.sat).elim
      · rw [g6.sol hcs h6] at h5
        obtain ⟨A, cA, rfl, hA⟩ := il_own h5
        obtain ⟨B, cB, rfl, hB⟩ := il_own g5
        exact ⟨_, _, _, _, _, _, _, rfl, rfl, (hA.below hb2).more hb2.size, hB, by omega⟩

set_option maxRecDepth 100000 in
set_option maxHeartbeats 8000000 in
theorem rextend_any (v : Int) (A : Option Addr) (K capA : Nat) (cs : List LCn) (C : Option Addr) (m capC : Nat) (sol : List Int) (B : Option Addr) (M capB : Nat) (ds : List LCn) (w : World)
    (h : CL w w.heap.size A K cs) (hc : IL w w.heap.size C m sol) (g : CL w w.heap.size B M ds) (hK : K ≤ 100000) (hM : M ≤ 100000) (hA : A = none → capA = 0) (hB : B = none → capB = 0) :
    Calls Try.prog 36 #[.int .i64 v, .slice A K capA, .slice C m capC, .slice B M capB] w (RExtPost v cs ds sol w) := by
  have hlc : cs.length = K := h.1
  have hld : ds.length = M := g.1
  have hva := refGvalid_any v A K capA cs w h (by omega)
  have hvb := Lib.hid (fun W (hW : Below w.heap.size w W) => refGvalid_any v B M capB ds W (g.lift hW) (by omega))
  cases hg1 : gvld v cs
  · rw [hg1] at hva
    have Hva := Lib.hid hva
    have hgf := gvld_app_false (v := v) (cs := cs) (ds := ds) (by rw [hg1]; simp)
    clear hva hg1 hlc hld
    go_enter Try.func36, Try.ntmps36
    go_wp2_with fail
    refine Hva.out.mono ?_
    rintro e w1 ⟨rfl, hb1⟩
    go_wp2_with fail
    go_ret2
    exact ⟨hb1, .inl ⟨hgf, rfl⟩⟩
  · rw [hg1] at hva
    have Hva := Lib.hid hva
    clear hva
    cases hg2 : gvld v ds
    · rw [hg2] at hvb
      have hgf := gvld_app_false (v := v) (cs := cs) (ds := ds) (by rw [hg2]; simp)
      clear hg1 hg2 hlc hld
      go_enter Try.func36, Try.ntmps36
      go_wp2_with fail
      refine Hva.out.mono ?_
      rintro e w1 ⟨rfl, hb1⟩
      go_wp2_with fail
      refine (hvb.out _ hb1).mono ?_
      rintro e w2 ⟨rfl, hb2⟩
      go_wp2_with fail
      go_ret2
      exact ⟨hb1.trans (hb2.mono hb1.size), .inl ⟨hgf, rfl⟩⟩
    · rw [hg2] at hvb
      by_cases hkm : K + M ≤ 3000
      · have hki : ¬ (3000 : Int) < (K : Int) + (M : Int) := by omega
        have hgt := (gvld_app v cs ds).2 ⟨hg1, hg2, by omega⟩
        have Hg := Lib.hid hgt
        obtain ⟨n, rfl, f1, _, f3⟩ := gvld_parts hg1
        have Hc1 := Lib.hid f3
        obtain ⟨n', hn', _, _, f4⟩ := gvld_parts hgt
        obtain rfl : n = n' := by omega
        have Hc2 := Lib.hid f4
        clear hg1 hg2 hgt f3 f4 hn' hlc hld
        go_enter Try.func36, Try.ntmps36
        go_wp2_with fail
        refine Hva.out.mono ?_
        rintro e w1 ⟨rfl, hb1⟩
        go_wp2_with fail
        refine (hvb.out _ hb1).mono ?_
        rintro e w2 ⟨rfl, hb2⟩
        have hbw2 := hb1.trans (hb2.mono hb1.size)
        have hS := Lib.hid (rsolve_any n A K capA cs w2 (h.lift hbw2) Hc1.out f1 (by omega))
        go_wp2_with fail
        refine hS.out.mono ?_
        rintro e w3 ⟨hb3, hr3⟩
        have hbw3 := hbw2.trans (hb3.mono hbw2.size)
        rcases hr3 with ⟨rfl, hno⟩ | ⟨u3, L3, rfl, hown3, hRS3⟩
        · have hns : ¬ IsSol n cs sol := fun ⟨ys, hy, _⟩ => hno _ hy.sat
          clear hno
          go_wp2_with fail
          go_ret2
          exact ⟨hbw3, .inr ⟨Hg.out, n, rfl, .inl ⟨hns, rfl⟩⟩⟩
        · obtain ⟨A3, c3, rfl, hI3⟩ := il_own hown3
          have hQ := eqInts_any A3 n c3 C m capC L3 sol w3 hI3 (hc.lift hbw3) (by omega)
          cases hE : decide (L3 = sol)
          · rw [hE] at hQ
            have HQ := Lib.hid hQ
            have hns := hRS3.notSol Hc1.out (of_decide_eq_false hE)
            clear hQ hE hown3 hI3 hRS3
            go_wp2_with fail
            refine HQ.out.mono ?_
            rintro e w4 ⟨rfl, hb4⟩
            go_wp2_with fail
            go_ret2
            exact ⟨hbw3.trans (hb4.mono hbw3.size), .inr ⟨Hg.out, n, rfl, .inl ⟨hns, rfl⟩⟩⟩
          · rw [hE] at hQ
            have HQ := Lib.hid hQ
            have His : Hid (IsSol n cs sol) := by
              have h9 := hRS3.isSol Hc1.out
              rw [of_decide_eq_true hE] at h9
              exact h9
            clear hQ hE hown3 hI3 hRS3
            go_wp2_with fail
            refine HQ.out.mono ?_
            rintro e w4 ⟨rfl, hb4⟩
            have hbw4 := hbw3.trans (hb4.mono hbw3.size)
            obtain ⟨i0, hi, hz0, hz1, hz2⟩ := info_parts infoC
            go_upto_region 7 with fail
            go_cut [12] (fun t wx => ∃ (A' : Option Addr) (c' : Nat) (xs : List Value), t = .slice A' K c' ∧ wx.ownsRow w4.heap.size 37 4 (.slice A' K c') K xs ∧ CV wx w.heap.size xs cs ∧ Below w4.heap.size w4 wx)
            case first =>
              cases A with
              | none =>
                obtain rfl := hA rfl
                obtain ⟨rfl, rfl⟩ := cl_nil h
                go_wp2_with (at_builtin; refine wpList_append_own_none rfl _ _ 22 rfl w4.heap.size 37 i0 4 Try.underlying22 hi _ 0 [] rfl (World.ownsRow_nil _ _ _ _) rfl ?_)
                go_wp2_with fail
                go_meet
                exact ⟨none, 0, [], rfl, World.ownsRow_nil _ _ _ _, CV.nil _ _, Below.refl _ _⟩
              | some a =>
                obtain ⟨ys, hys, hcs⟩ := CV.cells h
                have Hcs := Lib.hid hcs
                clear hcs
                go_wp2_with (at_builtin; refine wpList_append_own _ rfl _ _ 22 rfl w4.heap.size 37 i0 (.agg #[.int .i64 0, .slice none 0 0, .int .i64 0, .slice none 0 0]) 4 64 Try.underlying22 hi hz0 hz1 hz2 rfl (by decide) _ 0 [] rfl (World.ownsRow_nil _ _ _ _) a K capA ys rfl hys (Hcs.out _ hbw4).2 (Hcs.out _ hbw4).1.oneCell (by unfold maxLen; omega) (by omega) (Nat.le_refl _) ?_)
                intro v' w5 hown5 hgrow _
                have hb5 : Below w4.heap.size w4 w5 := (Below.refl _ w4).grown hgrow (Nat.le_refl _) fun j hj => by cases hj
                have hown5' : w5.ownsRow w4.heap.size 37 4 v' K ys := by simpa using hown5
                have hcv5 := (Hcs.out _ (hbw4.trans (hb5.mono hbw4.size))).1
                obtain ⟨A5, c5, rfl, _, _, _⟩ := CL.of_own hown5' hcv5 (Nat.le_trans hbw4.size hb5.size)
                go_wp2_with fail
                go_meet
                exact ⟨A5, c5, ys, by simp, hown5', hcv5, hb5⟩
            case rest =>
              obtain ⟨A5, c5, xs, rfl, hown5, hcv5, hb5⟩ := hcut
              obtain ⟨wq, hwq⟩ : ∃ wq, wq = wc := ⟨_, rfl⟩
              subst hwq
              have hbw5 := hbw4.trans (hb5.mono hbw4.size)
              have hs5 := hb5.size
              go_upto_region 8 with fail
              go_cut [12] (fun t wx => ∃ (A' : Option Addr) (c' : Nat), t = .slice A' (K + M) c' ∧ CL wx wx.heap.size A' (K + M) (cs ++ ds) ∧ Below w4.heap.size wq wx)
              case first =>
                cases B with
                | none =>
                  obtain rfl := hB rfl
                  obtain ⟨rfl, rfl⟩ := cl_nil g
                  have hcv6 : CV wq w.heap.size xs (cs ++ []) := by rw [List.append_nil]; exact hcv5
                  obtain ⟨_, _, he, hCL6, _, _⟩ := CL.of_own hown5 hcv6 hbw5.size
                  cases he
                  go_wp2_with (at_builtin; refine wpList_append_own_none rfl _ _ 22 rfl w4.heap.size 37 i0 4 Try.underlying22 hi _ K xs rfl hown5 rfl ?_)
                  go_wp2_with fail
                  go_meet
                  exact ⟨A5, c5, rfl, hCL6, Below.refl _ _⟩
                | some a =>
                  obtain ⟨ys, hys, hcs⟩ := CV.cells g
                  have Hcs := Lib.hid hcs
                  clear hcs
                  go_wp2_with (at_builtin; refine wpList_append_own _ rfl _ _ 22 rfl w4.heap.size 37 i0 (.agg #[.int .i64 0, .slice none 0 0, .int .i64 0, .slice none 0 0]) 4 64 Try.underlying22 hi hz0 hz1 hz2 rfl (by decide) _ K xs rfl hown5 a M capB ys rfl hys (Hcs.out _ hbw5).2 (Hcs.out _ hbw5).1.oneCell (by unfold maxLen; omega) (by omega) hs5 ?_)
                  intro v' w6 hown6 hgrow _
                  have hb6 : Below w4.heap.size wq w6 := (Below.refl _ wq).grown hgrow hs5 fun j hj => (hown5.lt j hj).1
                  have hcv6 := (hcv5.below (hb6.mono hbw4.size)).append (Hcs.out _ (hbw5.trans (hb6.mono hbw4.size))).1
                  obtain ⟨A6, c6, rfl, hCL6, _, _⟩ := CL.of_own hown6 hcv6 (by have := hbw5.size; have := hb6.size; omega)
                  go_wp2_with fail
                  go_meet
                  exact ⟨A6, c6, rfl, hCL6, hb6⟩
              case rest =>
                obtain ⟨A6, c6, rfl, hCL6, hb6⟩ := hcut
                have hbw6 := hbw5.trans (hb6.mono hbw4.size)
                have hS2 := Lib.hid (rsolve_any n A6 (K + M) c6 (cs ++ ds) wc hCL6 Hc2.out f1 hkm)
                clear hCL6 hown5 hcv5
                go_wp2_with fail
                with_reducible refine hS2.out.mono ?_
                rintro e w7 ⟨hb7, hr7⟩
                have hbw7 := hbw6.trans (hb7.mono hbw6.size)
                rcases hr7 with ⟨rfl, hno⟩ | ⟨u7, L7, rfl, hown7, hRS7⟩
                · go_wp2_with fail
                  go_ret2
                  exact ⟨hbw7, .inr ⟨Hg.out, n, rfl, .inr ⟨His.out, .inl ⟨rfl, hno⟩⟩⟩⟩
                · have HRS := Lib.hid hRS7
                  clear hRS7
                  go_wp2_with fail
                  go_ret2
                  exact ⟨hbw7, .inr ⟨Hg.out, n, rfl, .inr ⟨His.out, .inr ⟨u7, L7, rfl, own_lower hown7 hbw6.size, HRS.out⟩⟩⟩⟩
      · have hki : (3000 : Int) < (K : Int) + (M : Int) := by omega
        have hgf := gvld_app_false (v := v) (cs := cs) (ds := ds) (by omega)
        clear hg1 hg2 hlc hld
        go_enter Try.func36, Try.ntmps36
        go_wp2_with fail
        refine Hva.out.mono ?_
        rintro e w1 ⟨rfl, hb1⟩
        go_wp2_with fail
        refine (hvb.out _ hb1).mono ?_
        rintro e w2 ⟨rfl, hb2⟩
        go_wp2_with fail
        go_ret2
        exact ⟨hb1.trans (hb2.mono hb1.size), .inl ⟨hgf, rfl⟩⟩
end Go.Proofs.Ytolilmodihgaiaa
