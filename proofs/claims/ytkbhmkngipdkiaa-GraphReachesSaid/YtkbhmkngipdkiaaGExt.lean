/-
  'Extend' of package graph.
-/
import Derived.Test.YtkbhmkngipdkiaaGConcat
import Derived.Test.YtkbhmkngipdkiaaGEqI
import Derived.Test.YtkbhmkngipdkiaaGFolM
namespace Go.Proofs.Ytkbhmkngipdkiaa
open Go Go.RowKit

theorem onr_onr {a b c : Nat} (h : a ≤ b) (h2 : b ≤ c) (on : Nat → Bool) : onr b c (onr a b on) = onr a c on := by
  funext i
  unfold onr
  by_cases h3 : b ≤ i
  · rw [decide_eq_true h3, decide_eq_false (show ¬ i < b by omega), decide_eq_true (show a ≤ i by omega)]; simp
  · rw [decide_eq_false h3, decide_eq_true (show i < b by omega)]
    by_cases h4 : a ≤ i
    · rw [decide_eq_true (show i < c by omega)]; simp
    · simp [h4]
/-- least numbers are the only ones -/
theorem lst_only {P Q : Edg → Prop} {n : Nat} {xs zs : List Int} (hx : Lst P (gx xs)) (hz : Lst Q (gx zs)) (h : ∀ y, Sat P y ↔ Sat Q y) : solL n xs = solL n zs := by
  have hv : ∀ v, gx xs v = gx zs v := fun v => by
    have h1 := hx.least _ ((h _).2 hz.sat) hz.nn v
    have h2 := hz.least _ ((h _).1 hx.sat) hx.nn v
    omega
  unfold solL
  refine List.map_congr_left fun v _ => ?_
  rw [hv, hv]
/-- are these the least numbers of a system? -/
def IsSol (n : Nat) (cs : List LCn) (sol : List Int) : Prop := ∃ xs, Lst (fun e => e ∈ esA n cs) (gx xs) ∧ solL n xs = sol
/-- what Extend says -/
def ExtPost (v : Int) (cs ds : List LCn) (sol : List Int) (w : World) (e : Ending) (w' : World) : Prop :=
  Below w.heap.size w w' ∧ (gvld v (cs ++ ds) = false ∧ e = .returned (.tuple #[.slice none 0 0, .int .i64 4]) ∨
    gvld v (cs ++ ds) = true ∧ ∃ n : Nat, v = n ∧ (¬ IsSol n cs sol ∧ e = .returned (.tuple #[.slice none 0 0, .int .i64 1]) ∨
      IsSol n cs sol ∧ (e = .returned (.tuple #[.slice none 0 0, .int .i64 20]) ∧ (∀ y, Sat (fun e => e ∈ esA n (cs ++ ds)) y → False) ∨
        ∃ u xs, e = .returned (.tuple #[u, .int .i64 0]) ∧ w'.ownsRow w.heap.size 3 1 u n (int1 (solL n xs)) ∧ Lst (fun e => e ∈ esA n (cs ++ ds)) (gx xs))))
theorem vs_cap {w : World} {S ON N V c : Nat} {xs : List Int} (h : VS w S ON N V c xs) : N ≤ c ∧ c ≤ maxLen := by
  rcases h.own.2 with ⟨h9, _⟩ | ⟨g, cap, cur, h9, _, _, h10, h11, _⟩
  · cases h9
  · cases h9; exact ⟨h10, h11⟩

set_option maxRecDepth 100000 in
set_option maxHeartbeats 8000000 in
theorem extend_any (v : Int) (A : Option Addr) (K capA : Nat) (cs : List LCn) (C : Option Addr) (m capC : Nat) (sol : List Int) (B : Option Addr) (M capB : Nat) (ds : List LCn) (w : World)
    (h : CL w w.heap.size A K cs) (hc : IL w w.heap.size C m sol) (g : CL w w.heap.size B M ds) (hK : K ≤ 100000) (hM : M ≤ 100000) (hA : A = none → capA = 0) (hB : B = none → capB = 0) :
    Calls Try.prog 27 #[.int .i64 v, .slice A K capA, .slice C m capC, .slice B M capB] w (ExtPost v cs ds sol w) := by
  have hX : Below w.heap.size w (w.alloc (.cells #[.slice A K capA, .slice B M capB] 22)) := (Below.refl _ w).alloc (Nat.le_refl _) _
  have hco := concatC_any A K capA cs B M capB ds w.heap.size (w.alloc (.cells #[.slice A K capA, .slice B M capB] 22)) (h.lift hX) (g.lift hX) hK hM hA hB (by simp) (by simp) (by simp)
  have Hco := Lib.hid hco
  have hsz : (w.alloc (.cells #[.slice A K capA, .slice B M capB] 22)).heap.size = w.heap.size + 1 := by simp
  have hlc : cs.length = K := h.1
  have hld : ds.length = M := g.1
  have Hlen : Hid ((cs ++ ds).length = K + M) := by rw [Hid, List.length_append, hlc, hld]
  have Hlc := Lib.hid hlc
  clear hco hlc hld
  go_enter Try.func27, Try.ntmps27
  go_wp2_with fail
  refine Hco.out.mono ?_
  rintro e w1 ⟨u, xs, rfl, hown, hcv, hb1⟩
  have hbw1 : Below w.heap.size w w1 := hX.trans (hb1.mono (by omega))
  obtain ⟨A1, c1, rfl, hCL, hle, hmx⟩ := CL.of_own hown hcv hb1.size
  have hva := gvalid_any v A1 (K + M) c1 (cs ++ ds) w1 hCL (by omega)
  have hcw := hc.lift hbw1
  clear hown hcv
  cases hg : gvld v (cs ++ ds)
  · rw [hg] at hva
    have Hva := Lib.hid hva
    clear hva
    go_wp2_with fail
    refine Hva.out.mono ?_
    rintro e w2 ⟨rfl, hb2⟩
    go_wp2_with fail
    go_ret2
    exact ⟨hbw1.trans (hb2.mono hbw1.size), .inl ⟨hg, rfl⟩⟩
  · rw [hg] at hva
    have Hva := Lib.hid hva
    have Hg := Lib.hid hg
    obtain ⟨n, rfl, f1, f2, f3⟩ := gvld_parts hg
    have Hcs := Lib.hid f3
    have hGE := ge_of f3
    have hL0 := lst_zero f3
    have hPre := Lib.hid (fun y => sat_pre (n := n) (cs := cs) (ds := ds) (y := y))
    have HonA := Lib.hid (onA f3)
    rw [Hlen.out] at hGE hL0 hPre HonA
    rw [Hlc.out] at hPre
    have HGE := Lib.hid hGE
    have HL0 := Lib.hid hL0
    have hKM : K + M ≤ 3000 := by have := Hlen.out; omega
    clear hva hg f3 hGE hL0 f2
    go_wp2_with fail
    refine Hva.out.mono ?_
    rintro e w2 ⟨rfl, hb2⟩
    have hbw2 := hbw1.trans (hb2.mono hbw1.size)
    have hbe := begin_any A1 (K + M) c1 n (cs ++ ds) w2 ((hCL.below hb2).more hb2.size) hKM (by omega) Hcs.out
    have hcw2 := hcw.lift hb2
    have Hbe := Lib.hid hbe
    clear hbe hcw
    go_wp2_with fail
    refine Hbe.out.mono ?_
    intro e w3 hpost
    obtain ⟨S, OF, OU, ON, V, rfl, hS1, hO1, hb3, hse, hvs⟩ := beg_is hpost Hlen.out hKM (by omega) Hcs.out
    clear hpost
    have hbw3 := hbw2.trans (hb3.mono hbw2.size)
    have hcw3 := hcw2.lift hb3
    have had := addAll_any w2.heap.size S OF OU ON (n + 1) (K + M) V (n + 1) (foC n (cs ++ ds)) (outE (esA n (cs ++ ds))) _ _ 0 K w3 hse hvs HGE.out (Nat.zero_le _) (by omega) (by omega) (by omega) HL0.out ⟨by omega, by omega, hb3.size⟩
    have Had := Lib.hid had
    clear had hse hvs hcw2
    go_wp2_with fail
    refine Had.out.mono ?_
    rintro e w4 ⟨r, rfl, hb4, hr⟩
    have hbw4 := hbw2.trans ((hb3.trans hb4).mono hbw2.size)
    have hcw4 : IL w4 w4.heap.size C m sol := hc.lift hbw4
    rcases hr with ⟨rfl, hse, V1, c2, ys, hvs, hL⟩ | ⟨rfl, hno⟩
    · have hso := solution_any S V1 c2 n ys w4 hvs.s3 hse.lt.1 hvs.own (by omega) (vs_cap hvs) hL.nn (HGE.out.bound hvs.len hL (by omega))
      have Hso := Lib.hid hso
      have HS := Lib.hid (And.intro hse (And.intro hvs hL))
      clear hso hse hvs hL
      go_wp2_with fail
      refine Hso.out.mono ?_
      rintro e w5 ⟨u5, rfl, hown5, hb5⟩
      obtain ⟨A5, c5, rfl, hI5⟩ := il_own hown5
      have hcw5 := hcw4.lift hb5
      have heq := equal_any A5 n c5 C m capC (solL n ys) sol w5 hI5 hcw5 (by omega)
      have hbw5 := hbw4.trans (hb5.mono hbw4.size)
      cases hE : decide (solL n ys = sol)
      · rw [hE] at heq
        have Heq := Lib.hid heq
        have hns : ¬ IsSol n cs sol := fun ⟨zs, hz, e⟩ => of_decide_eq_false hE (by
          rw [← e]
          exact lst_only HS.out.2.2 hz hPre.out)
        clear heq hE hown5 hI5 hcw5 hcw4 hcw3
        go_wp2_with fail
        refine Heq.out.mono ?_
        rintro e w6 ⟨rfl, hb6⟩
        go_wp2_with fail
        go_ret2
        exact ⟨hbw5.trans (hb6.mono hbw5.size), .inr ⟨Hg.out, n, rfl, .inl ⟨hns, rfl⟩⟩⟩
      · rw [hE] at heq
        have Heq := Lib.hid heq
        have hLs := HS.out.2.2
        have his : IsSol n cs sol := ⟨ys, ⟨(hPre.out _).1 hLs.sat, hLs.nn, fun y hy => hLs.least y ((hPre.out y).2 hy)⟩, of_decide_eq_true hE⟩
        have His := Lib.hid his
        clear heq hE hown5 hI5 hcw5 hcw4 hcw3 hLs his
        go_wp2_with fail
        refine Heq.out.mono ?_
        rintro e w6 ⟨rfl, hb6⟩
        have hb46 := hb5.trans (hb6.mono hb5.size)
        have hbw6 := hbw4.trans (hb46.mono hbw4.size)
        have hse6 := HS.out.1.below hb46
        have hvs6 := HS.out.2.1.below HS.out.1.lt.1 hb46
        have hsz4 := hb4.size
        have hsz3 := hb3.size
        have had2 := addAll_any w2.heap.size S OF OU ON (n + 1) (K + M) V1 c2 (foC n (cs ++ ds)) (outE (esA n (cs ++ ds))) _ _ K (K + M) w6 hse6 hvs6 HGE.out (by omega) (Nat.le_refl _) (by omega) (by omega) HS.out.2.2 ⟨by omega, by omega, by have := hb46.size; omega⟩
        rw [onr_onr (Nat.zero_le _) (by omega)] at had2
        have Had2 := Lib.hid had2
        clear had2 hse6 hvs6
        have hbB : Below w.heap.size w w6 := hbw6
        go_wp2_with fail
        refine Had2.out.mono ?_
        rintro e w7 ⟨r, rfl, hb7, hr7⟩
        have hbw7 := hbw6.trans (hb7.mono hbw2.size)
        rcases hr7 with ⟨rfl, hse7, V2, c3, zs, hvs7, hL7⟩ | ⟨rfl, hno⟩
        · have hso := solution_any S V2 c3 n zs w7 hvs7.s3 hse7.lt.1 hvs7.own (by omega) (vs_cap hvs7) hL7.nn (HGE.out.bound hvs7.len hL7 (by omega))
          have Hso := Lib.hid hso
          have HL7 := Lib.hid hL7
          clear hso hse7 hvs7 hL7
          go_wp2_with fail
          refine Hso.out.mono ?_
          rintro e w8 ⟨u8, rfl, hown8, hb8⟩
          have h9 := HL7.out
          go_wp2_with fail
          go_ret2
          refine ⟨hbw7.trans (hb8.mono hbw7.size), .inr ⟨Hg.out, n, rfl, .inr ⟨His.out, .inr ⟨u8, zs, rfl, own_lower hown8 hbw7.size, ?_⟩⟩⟩⟩
          exact ⟨fun e he => h9.sat e ((HonA.out e).2 he), h9.nn, fun y hy hn => h9.least y (fun e he => hy e ((HonA.out e).1 he)) hn⟩
        · go_wp2_with fail
          go_ret2
          exact ⟨hbw7, .inr ⟨Hg.out, n, rfl, .inr ⟨His.out, .inl ⟨rfl, fun y hy => hno y fun e he => hy e ((HonA.out e).1 he)⟩⟩⟩⟩
    · have hns : ¬ IsSol n cs sol := fun ⟨ys, hy, _⟩ => hno _ ((hPre.out _).2 hy.sat)
      clear hno
      go_wp2_with fail
      go_ret2
      exact ⟨hbw4, .inr ⟨Hg.out, n, rfl, .inl ⟨hns, rfl⟩⟩⟩
end Go.Proofs.Ytkbhmkngipdkiaa
