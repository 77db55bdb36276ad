/-
  'Explain' of package graph.
-/
import Derived.Test.YtkbhmkngipdkiaaGNeed
import Derived.Test.YtkbhmkngipdkiaaGBnd
namespace Go.Proofs.Ytkbhmkngipdkiaa
open Go Go.RowKit

/-- what Explain says -/
def ExplPost (v : Int) (cs : List LCn) (w : World) (e : Ending) (w' : World) : Prop :=
  Below w.heap.size w w' ∧ (gvld v cs = false ∧ e = .returned (.tuple #[.slice none 0 0, .bool false, .int .i64 4]) ∨
    gvld v cs = true ∧ ∃ n : Nat, v = n ∧ ((∃ y, Sat (fun e => e ∈ esA n cs) y) ∧ e = .returned (.tuple #[.slice none 0 0, .bool false, .int .i64 0]) ∨
      (∀ y, Sat (fun e => e ∈ esA n cs) y → False) ∧ ∃ (A : Option Addr) (c : Nat) (core : List Nat), e = .returned (.tuple #[.slice A core.length c, .bool true, .int .i64 0]) ∧ IL w' w'.heap.size A core.length (core.map fun i : Nat => (i : Int)) ∧ CoreOf n cs core ∧ core.Pairwise (· < ·)))
/-- the marks when the first k constraints are on -/
def onK (K k : Nat) : Nat → Bool := fun i => if i = K then true else decide (i < k)
theorem onK_next {K k : Nat} (hk : k < K) : (fun i => if i = k then true else onK K k i) = onK K (k + 1) := by
  funext i
  unfold onK
  by_cases h1 : i = k
  · rw [if_pos h1, if_neg (by omega)]
    exact (decide_eq_true (by omega)).symm
  · rw [if_neg h1]
    split
    · rfl
    · exact decide_eq_decide.2 (by omega)
theorem all_pick {n : Nat} {cs : List LCn} {l : List Nat} {y : Nat → Int} (h : Sat (fun e => e ∈ esA n cs) y) : Sat (fun e => e ∈ esA n (pick cs l)) y := by
  rw [sat_es] at h ⊢
  refine ⟨h.1, fun c hc => h.2 c ?_⟩
  obtain ⟨i, _, h1⟩ := pick_mem.1 hc
  exact List.mem_of_getElem? h1

set_option maxRecDepth 100000 in
set_option maxHeartbeats 4000000 in
theorem explain_any (β : Int) (v : Int) (A : Option Addr) (K cap : Nat) (cs : List LCn) (w : World) (h : CL w w.heap.size A K cs) (hK : K ≤ 9223372036854775807) (hβ : 0 ≤ β ∧ β ≤ 2000) (hb : gvld v cs = true → ∀ n : Nat, v = n → ∀ e ∈ esA n cs, e.b ≤ β) (hT : gvld v cs = true → ∀ n : Nat, v = n → (β * (9 : Nat) + β * ((n + 1 : Nat) : Int)) * ((2 * K : Nat) : Int) ≤ 40000000) :
    Calls Try.prog 14 #[.int .i64 v, .slice A K cap] w (ExplPost v cs w) := by
  have hva := gvalid_any v A K cap cs w h hK
  cases hg : gvld v cs
  · rw [hg] at hva
    have Hva := Lib.hid hva
    clear hva
    go_enter Try.func14, Try.ntmps14
    go_wp2_with fail
    refine Hva.out.mono ?_
    rintro e w1 ⟨rfl, hb1⟩
    go_wp2_with fail
    go_ret3
    exact ⟨hb1, .inl ⟨hg, rfl⟩⟩
  · rw [hg] at hva
    have Hva := Lib.hid hva
    clear hva
    obtain ⟨n, rfl, hn, hl3, hcs⟩ := gvld_nat hg
    have hl : cs.length = K := h.1
    have Hcs := Lib.hid hcs
    have Hl := Lib.hid hl
    have hK3 : K ≤ 3000 := by omega
    have hbb := hb hg n rfl
    have hTT := hT hg n rfl
    obtain ⟨D, hDD⟩ : ∃ D : Int, D = β * (9 : Nat) + β * ((n + 1 : Nat) : Int) := ⟨_, rfl⟩
    have hD : 0 ≤ D := by
      have h1 := Int.mul_nonneg hβ.1 (show (0 : Int) ≤ ((9 : Nat) : Int) by omega)
      have h2 := Int.mul_nonneg hβ.1 (show (0 : Int) ≤ ((n + 1 : Nat) : Int) by omega)
      omega
    rw [← hDD] at hTT
    have hTk : ∀ a b : Nat, a ≤ K → b ≤ K → D * (a : Int) + D * (b : Int) ≤ 40000000 := fun a b ha hb => by
      have h1 := Int.mul_le_mul_of_nonneg_left (show (a : Int) + (b : Int) ≤ ((2 * K : Nat) : Int) by omega) hD
      rw [Int.mul_add] at h1
      omega
    have hstep : ∀ k : Nat, D * ((k + 1 : Nat) : Int) = D * k + D := fun k => by rw [Int.natCast_add, Int.mul_add]; simp
    have HTk := Lib.hid hTk
    have Hstep := Lib.hid hstep
    have Hbb : Hid (∀ u, ∀ e ∈ outE (esA n cs) u, e.b ≤ β) := fun u e he => hbb e (outE_mem.1 he).1
    have Hmm : Hid (∀ k, k < K → (foC n cs k).length ≤ 9) := fun k _ => foC_len hcs
    have HD := Lib.hid hDD
    clear hcs hl hl3 hb hT hbb hTT hTk hstep hDD
    go_enter Try.func14, Try.ntmps14
    go_wp2_with fail
    refine Hva.out.mono ?_
    rintro e w1 ⟨rfl, hb1⟩
    have Hbe := Lib.hid (begin_any A K cap n cs w1 ((h.below hb1).more hb1.size) hK3 hn Hcs.out)
    go_wp2_with fail
    refine Hbe.out.mono ?_
    intro e w2 hpost
    obtain ⟨S, OF, OU, ON, V, rfl, hS1, hO1, hb2, hse, hvs⟩ := beg_is hpost Hl.out hK3 hn Hcs.out
    clear hpost
    have hb12 : Below w.heap.size w w2 := hb1.trans (hb2.mono hb1.size)
    have hGE := ge_of Hcs.out
    have hL0 := lst_zero Hcs.out
    rw [Hl.out] at hGE hL0
    have HGE := Lib.hid hGE
    have hs1 := hb1.size
    have hB : w.heap.size ≤ S ∧ w.heap.size ≤ ON := ⟨by omega, by omega⟩
    have hon0 : (fun i => if i = K then true else false) = onK K 0 := by
      funext i
      unfold onK
      split
      · rfl
      · exact (decide_eq_false (by omega)).symm
    rw [hon0] at hse hL0
    clear hon0 hGE
    go_wp2_with fail
    go_loopw [8, 18] (fun kk i wr => ∃ k : Nat, k ≤ K ∧ i = .int .i64 k ∧ ∃ (V' c' : Nat) (ys : List Int), SE wr S OF OU ON (n + 1) K (foC n cs) (outE (esA n cs)) (onK K k) ∧ VS wr S ON (n + 1) V' c' ys ∧ Sat (OnG (outE (esA n cs)) (onK K k)) (gx ys) ∧ (∀ u, 0 ≤ gx ys u) ∧ (∀ u, gx ys u ≤ D * k) ∧ Below w.heap.size w wr) (fun _ i _ => K - (intOf i).toNat)
    case atStart => exact ⟨0, Nat.zero_le _, rfl, V, n + 1, _, hse, hvs, hL0.sat, hL0.nn, fun u => by rw [gx_zero]; simp, hb12⟩
    case round =>
      clear hse hvs hL0 hb12
      obtain ⟨k, hk, rfl, V', c', ys, hE, hV, hL, hnn, hub, hbr⟩ := hrel
      have hsz := hbr.size
      by_cases hlt : k < K
      · have hki : (k : Int) < (K : Int) := by omega
        have hT1 := HTk.out k k (by omega) (by omega)
        have hT0 : 0 ≤ D * (k : Int) := Int.mul_nonneg hD (by omega)
        have hA := Lib.hid (add3_any (D * k) β 9 w.heap.size S OF OU ON (n + 1) K V' c' (foC n cs) (outE (esA n cs)) (onK K k) ys k wr hE hV HGE.out hlt (by omega) hL hnn hub (by omega) hβ Hbb.out (Hmm.out k hlt) ⟨hB.1, hB.2, hsz⟩)
        have HL := Lib.hid hL
        have Hnn := Lib.hid hnn
        have Hub := Lib.hid hub
        have Hst := Hstep.out k
        have HD2 := HD.out
        clear hE hV hL hnn hub
        go_wp2_with fail
        refine hA.out.mono ?_
        rintro e w3 ⟨r, rfl, hb3, _, hr⟩
        have hbr3 := hbr.trans hb3
        clear hA
        rcases hr with ⟨rfl, hE3, V3, c3, zs, hV3, _, hL3, hnn3, hub3⟩ | ⟨rfl, hE3, ⟨c3, hV3⟩, hno3⟩
        · rw [onK_next hlt] at hE3 hL3
          go_wp2_with fail
          go_roundw
          case rel => exact ⟨k + 1, by omega, by go_num, V3, c3, zs, hE3, hV3, hL3, hnn3, fun u => by have := hub3 u; omega, hbr3⟩
          case measure => simp [intOf]; omega
        · have hN := Lib.hid (needed_any (D * k) β 9 w.heap.size S OF OU ON (n + 1) K V' c3 (foC n cs) (outE (esA n cs)) (onK K k) ys k w3 hE3 hV3 HGE.out hlt hK3 (by omega) HL.out Hnn.out Hub.out hβ Hbb.out Hmm.out (by rw [← HD.out]; exact hT1) (fun i hi => by unfold onK; rw [if_neg (by omega)]; exact decide_eq_true_iff) (by unfold onK; rw [if_pos rfl]) hno3 ⟨hB.1, hB.2, hbr3.size⟩)
          clear hE3 hV3 hno3
          go_wp2_with fail
          refine hN.out.mono ?_
          rintro e w4 ⟨A4, c4, ls, a4, on4, rfl, hI4, hnd4, hb4⟩
          have hco := hnd4.done Hl.out
          obtain ⟨core, hsr, hcc, hasc⟩ := srt_core hco
          have hcl : core.length = ls.length := by
            have h1 : (srt ls).length = ls.length := by unfold srt; rw [List.length_mergeSort, List.length_map]
            rw [hsr, List.length_map] at h1
            exact h1
          rw [hsr, ← hcl] at hI4
          have Hcc := Lib.hid hcc
          have Hasc := Lib.hid hasc
          have HI := Lib.hid hI4
          have Hcl := Lib.hid hcl
          clear hnd4 hco hsr hcc hasc hI4 hcl
          go_wp2_with fail
          go_ret3
          exact ⟨hbr3.trans hb4, .inr ⟨hg, n, rfl, .inr ⟨fun y hy => Hcc.out.no y (all_pick hy), A4, c4, core, by rw [Hcl.out]; rfl, HI.out, Hcc.out, Hasc.out⟩⟩⟩
      · obtain rfl : k = K := by omega
        have hki : ¬ (k : Int) < (k : Int) := by omega
        have hsat : ∃ y, Sat (fun e => e ∈ esA n cs) y := ⟨gx ys, fun e he => hL e ⟨outE_mem.2 ⟨he, rfl⟩, by
          have h1 := (esA_ok Hcs.out he).2.2.2.2
          rw [Hl.out] at h1
          unfold onK
          by_cases h2 : e.k = k
          · rw [if_pos h2]
          · rw [if_neg h2]; exact decide_eq_true (by omega)⟩⟩
        have Hsat := Lib.hid hsat
        clear hsat hL hnn hub hE hV
        go_wp2_with fail
        go_ret3
        exact ⟨hbr, .inr ⟨hg, n, rfl, .inl ⟨Hsat.out, rfl⟩⟩⟩
end Go.Proofs.Ytkbhmkngipdkiaa
