/-
  'part' of the reference: what it reads at any place of any text, into a level of its own ('part_any').
-/
import Derived.Test.YtgbbmcfhakliiaaGreatDoorRNum
import Derived.Test.YtgbbmcfhakliiaaGreatDoorFits
import Derived.OneCell
import Derived.Deep.AppendLies
import Derived.Deep.DeepCutAuto
namespace Go.Proofs.YtgbbmcfhakliiaaGreatDoor
open Go Go.RowKit

theorem partR_u (c : Int) (l : List (Int × Int)) (t : List UInt8) : partR c l (117 :: t) =
    if (numR t).2.2 = true ∧ (numR t).2.1.head? = some 43 then ((c, l ++ [((numR t).1, (numR (numR t).2.1.tail).1)]), (numR (numR t).2.1.tail).2.1, (numR (numR t).2.1.tail).2.2) else ((c, l ++ [((numR t).1, 0)]), (numR t).2.1, (numR t).2.2) := by rw [partR, if_pos rfl]
theorem partR_other (c : Int) (l : List (Int × Int)) {t : List UInt8} (h : t.head? ≠ some 117) : partR c l t = ((max c (numR t).1, l), (numR t).2.1, (numR t).2.2) := by
  cases t with
  | nil => rfl
  | cons b r =>
    rw [partR, if_neg (fun e => h (by rw [e]; rfl))]
theorem head_drop {s : ByteArray} {i : Nat} (h : i < s.size) : (s.data.toList.drop i).head? = some s[i] := by rw [drop_at h]; rfl

set_option maxRecDepth 100000 in
set_option maxHeartbeats 2000000 in
theorem part_other (s : ByteArray) (a : Nat) (c : Int) (A : Option Addr) (n cap : Nat) (l : List (Int × Int)) (B : Nat) (w : World) (hs : s.size ≤ 1000000) (ha : a ≤ s.size) (_hl : l.length ≤ 1000)
    (hown : w.ownsRow B 45 2 (.slice A n cap) l.length (flat2 l)) (hB : B ≤ w.heap.size) (R : (Int × List (Int × Int)) × List UInt8 × Bool) (hR : partR c l (s.data.toList.drop a) = R) (hu : ¬ (a < s.size ∧ (s.data.toList.drop a).head? = some 117)) :
    Calls Tryz.prog 35 #[.string s, .int .i64 a, .agg #[.int .i64 c, .slice A n cap]] w fun e w' => ∃ (k : Nat) (A' : Option Addr) (n' cap' : Nat), a ≤ k ∧ k ≤ s.size ∧ R.2.1 = s.data.toList.drop k ∧
      e = .returned (.tuple #[.agg #[.int .i64 R.1.1, .slice A' n' cap'], .int .i64 k, .bool R.2.2]) ∧ w'.ownsRow B 45 2 (.slice A' n' cap') R.1.2.length (flat2 R.1.2) ∧ Below B w w' := by
  have hsz : s.size ≤ 9223372036854775807 := by omega
  have hb2 := B2.start w c A n cap
  have HN : Hid (R = ((max c (numR (s.data.toList.drop a)).1, l), (numR (s.data.toList.drop a)).2.1, (numR (s.data.toList.drop a)).2.2)) := by
    rw [Hid, ← hR]
    refine partR_other c l fun e => hu ⟨?_, e⟩
    by_cases h : a < s.size
    · exact h
    · rw [List.drop_eq_nil_of_le (by rw [← Lib.size_eq]; omega)] at e; cases e
  obtain ⟨N, hN⟩ : ∃ N, numR (s.data.toList.drop a) = N := ⟨_, rfl⟩
  rw [hN] at HN
  have hnum := number_any s a ((w.alloc (.cells #[.int .i64 c, .slice A n cap] 24)).alloc (.cells #[.int .i64 0, .slice none 0 0] 24)) hs ha N hN
  have Hnum := Lib.hid hnum
  clear hnum hR hN
  have hne : w.heap.size ≠ w.heap.size + 1 := by omega
  have hu' : a < s.size → ∀ h : a < s.size, ¬ s[a].toNat = 117 := fun _ h e => hu ⟨h, by rw [head_drop h]; congr 1; exact UInt8.toNat_inj.1 e⟩
  clear hu
  have r0 := hb2.r0
  have r1 := hb2.r1
  have r2 := hb2.r2
  have r3 := hb2.r3
  by_cases hlt : a < s.size
  · have hu2 := hu' hlt hlt
    clear hu'
    go_enter Tryz.func35, Tryz.ntmps35
    go_wp2_with fail
    refine Hnum.out.mono ?_
    rintro e w1 ⟨k, hk1, hk2, hk3, rfl, rfl⟩
    go_wp2_with fail
    refine bodyPost_ret (v := .tuple #[.agg #[.int .i64 (max c N.1), .slice A n cap], .int .i64 k, .bool N.2.2]) (by simp [results, Tryz.results35, go_sem]) rfl ?_
    refine ⟨k, A, n, cap, hk1, hk2, by rw [HN.out]; exact hk3, by rw [HN.out], ?_, ?_⟩
    · rw [HN.out]
      exact own_below hown (((Below.refl _ w).alloc (Nat.le_refl _) _).alloc (by simp) _)
    · exact ((Below.refl _ w).alloc hB _).alloc (by simp; omega) _
  · clear hu'
    go_enter Tryz.func35, Tryz.ntmps35
    go_wp2_with fail
    refine Hnum.out.mono ?_
    rintro e w1 ⟨k, hk1, hk2, hk3, rfl, rfl⟩
    go_wp2_with fail
    refine bodyPost_ret (v := .tuple #[.agg #[.int .i64 (max c N.1), .slice A n cap], .int .i64 k, .bool N.2.2]) (by simp [results, Tryz.results35, go_sem]) rfl ?_
    refine ⟨k, A, n, cap, hk1, hk2, by rw [HN.out]; exact hk3, by rw [HN.out], ?_, ?_⟩
    · rw [HN.out]
      exact own_below hown (((Below.refl _ w).alloc (Nat.le_refl _) _).alloc (by simp) _)
    · exact ((Below.refl _ w).alloc hB _).alloc (by simp; omega) _
theorem heap4 (w : World) (o0 o1 o2 o3 : Obj) : ((((w.alloc o0).alloc o1).alloc o2).alloc o3).heap[w.heap.size]? = some o0 ∧ ((((w.alloc o0).alloc o1).alloc o2).alloc o3).heap[w.heap.size + 1]? = some o1 := by
  constructor
  · show ((((w.heap.push o0).push o1).push o2).push o3)[w.heap.size]? = some o0
    rw [Array.getElem?_push_lt (by simp; omega), Array.getElem_push_lt (by simp; omega), Array.getElem_push_lt (by simp), Array.getElem_push_eq]
  · show ((((w.heap.push o0).push o1).push o2).push o3)[w.heap.size + 1]? = some o1
    rw [Array.getElem?_push_lt (by simp), Array.getElem_push_lt (by simp)]
    simp [Array.getElem_push]
theorem frozen_far {w : World} {b i : Nat} {cs : Array Value} {t : TypeId} (h : w.heap[b]? = some (.cells cs t (0, 0))) : w.frozen? ⟨b, i, none⟩ = false := by
  simp [World.frozen?, h]
theorem own_type_ne {w : World} {base : Nat} {e t : TypeId} {size n q : Nat} {v : Value} {xs : List Value} (h : w.ownsRow base e size v n xs) (hq : ∃ cs fr, w.heap[q]? = some (.cells cs t fr)) (ht : t ≠ e) : v.ownBlock ≠ some q := by
  rintro he
  obtain ⟨cs, fr, hq⟩ := hq
  rcases h.2 with ⟨rfl, _⟩ | ⟨g, cap, cur, rfl, _, hg, _⟩
  · simp [Value.ownBlock] at he
  · simp only [Value.ownBlock, Option.some.injEq] at he
    subst he
    rw [hg] at hq
    injection hq with hq
    injection hq with _ hq _
    exact ht hq.symm
set_option maxRecDepth 100000 in
set_option maxHeartbeats 4000000 in
theorem part_u (s : ByteArray) (a : Nat) (c : Int) (A : Option Addr) (n cap : Nat) (l : List (Int × Int)) (B : Nat) (w : World) (hs : s.size ≤ 1000000) (hl : l.length ≤ 1000)
    (hown : w.ownsRow B 45 2 (.slice A n cap) l.length (flat2 l)) (hB : B ≤ w.heap.size) (R : (Int × List (Int × Int)) × List UInt8 × Bool) (hR : partR c l (s.data.toList.drop a) = R) (hlt : a < s.size) (hu : (s.data.toList.drop a).head? = some 117) :
    Calls Tryz.prog 35 #[.string s, .int .i64 a, .agg #[.int .i64 c, .slice A n cap]] w fun e w' => ∃ (k : Nat) (A' : Option Addr) (n' cap' : Nat), a ≤ k ∧ k ≤ s.size ∧ R.2.1 = s.data.toList.drop k ∧
      e = .returned (.tuple #[.agg #[.int .i64 R.1.1, .slice A' n' cap'], .int .i64 k, .bool R.2.2]) ∧ w'.ownsRow B 45 2 (.slice A' n' cap') R.1.2.length (flat2 R.1.2) ∧ Below B w w' := by
  have hsz : s.size ≤ 9223372036854775807 := by omega
  have hb2 := B2.start w c A n cap
  obtain ⟨i0, hi, hz0, hz1, hz2⟩ := info_parts infoV
  have h117 : s[a] = 117 := by rw [head_drop hlt] at hu; exact Option.some.inj hu
  have hu2 : s[a].toNat = 117 := by rw [h117]; rfl
  have hdr : s.data.toList.drop a = 117 :: s.data.toList.drop (a + 1) := by rw [drop_at hlt, h117]
  rw [hdr, partR_u] at hR
  obtain ⟨N, hN⟩ : ∃ N, numR (s.data.toList.drop (a + 1)) = N := ⟨_, rfl⟩
  rw [hN] at hR
  have hnum := number_any s (a + 1) ((w.alloc (.cells #[.int .i64 c, .slice A n cap] 24)).alloc (.cells #[.int .i64 0, .slice none 0 0] 24)) hs (by omega) N hN
  rw [show ((a + 1 : Nat) : Int) = (a : Int) + 1 by omega] at hnum
  have Hnum := Lib.hid hnum; have HR := Lib.hid hR
  clear hnum hR hN hu hdr h117
  go_enter Tryz.func35, Tryz.ntmps35
  go_wp2_with fail
  refine Hnum.out.mono ?_
  rintro e w1 ⟨k, hk1, hk2, hk3, rfl, rfl⟩
  have HK := Lib.hid hk3
  clear hk3
  have hne : w.heap.size ≠ w.heap.size + 2 := by omega
  cases hok : N.2.2
  · have HE : Hid (R = ((c, l ++ [(N.1, 0)]), N.2.1, N.2.2)) := by rw [Hid, ← HR.out, if_neg (fun h => by rw [hok] at h; exact absurd h.1 (by decide))]
    have hX : Below w.heap.size w ((((w.alloc (.cells #[.int .i64 c, .slice A n cap] 24)).alloc (.cells #[.int .i64 0, .slice none 0 0] 24)).alloc (.cells #[.int .i64 N.1, .int .i64 0] 45)).alloc (.cells #[.int .i64 N.1, .int .i64 0] 45)) := (hb2.bel.alloc (by simp; omega) _).alloc (by simp; omega) _
    have hownX := own_below hown hX
    have hXs : ((((w.alloc (.cells #[.int .i64 c, .slice A n cap] 24)).alloc (.cells #[.int .i64 0, .slice none 0 0] 24)).alloc (.cells #[.int .i64 N.1, .int .i64 0] 45)).alloc (.cells #[.int .i64 N.1, .int .i64 0] 45)).heap.size = w.heap.size + 4 := by simp
    have x0 := cell_alloc (.cells #[.int .i64 N.1, .int .i64 0] 45) (cell_alloc (.cells #[.int .i64 N.1, .int .i64 0] 45) hb2.a0)
    have x1 := cell_alloc (.cells #[.int .i64 N.1, .int .i64 0] 45) (cell_alloc (.cells #[.int .i64 N.1, .int .i64 0] 45) hb2.a1)
    have x2 := cell_alloc (.cells #[.int .i64 N.1, .int .i64 0] 45) (cell_alloc (.cells #[.int .i64 N.1, .int .i64 0] 45) hb2.r0)
    have x3 := cell_alloc (.cells #[.int .i64 N.1, .int .i64 0] 45) (cell_alloc (.cells #[.int .i64 N.1, .int .i64 0] 45) hb2.r1)
    go_wp2_with (at_builtin; refine wpList_append_own _ rfl _ _ 22 rfl B 45 i0 (.agg #[.int .i64 0, .int .i64 0]) 2 16 Tryz.underlying22 hi hz0 hz1 hz2 rfl (by decide) (.slice A n cap) l.length (flat2 l) rfl hownX _ 1 1 [.int .i64 N.1, .int .i64 0] rfl rfl (news2' (x := (N.1, 0)) (by simp)) (news2_one (x := (N.1, 0))) (by unfold maxLen; omega) (by omega) (by simp; omega) ?_)
    intro v5 w5 hown5 hgrow _
    have hown6 : w5.ownsRow B 45 2 v5 (l ++ [(N.1, 0)]).length (flat2 (l ++ [(N.1, 0)])) := by rw [List.length_append, flat2_app, flat2_one]; exact hown5
    clear hown5
    have hblk : ∀ b, w.heap.size ≤ b → b < w.heap.size + 4 → w5.heap[b]? = ((((w.alloc (.cells #[.int .i64 c, .slice A n cap] 24)).alloc (.cells #[.int .i64 0, .slice none 0 0] 24)).alloc (.cells #[.int .i64 N.1, .int .i64 0] 45)).alloc (.cells #[.int .i64 N.1, .int .i64 0] 45)).heap[b]? := fun b h1 h2 => hgrow.block b (by omega) (fun e => by have := (hown.lt b e.symm).2; omega)
    have hb5 : Below B w w5 := (hX.mono hB).grown hgrow (by omega) (fun j hj => (hown.lt j hj).1)
    have y0 : w5.cell? ⟨w.heap.size, 0, none⟩ = some (.int .i64 c) := (World.cell?_of_block (hblk w.heap.size (by omega) (by omega))).trans x0
    have y1 : w5.cell? ⟨w.heap.size, 1, none⟩ = some (.slice A n cap) := (World.cell?_of_block (hblk w.heap.size (by omega) (by omega))).trans x1
    have y2 : w5.cell? ⟨w.heap.size + 1, 0, none⟩ = some (.int .i64 0) := (World.cell?_of_block (hblk (w.heap.size + 1) (by omega) (by omega))).trans x2
    have y3 : w5.cell? ⟨w.heap.size + 1, 1, none⟩ = some (.slice none 0 0) := (World.cell?_of_block (hblk (w.heap.size + 1) (by omega) (by omega))).trans x3
    have q0 := (hblk w.heap.size (by omega) (by omega)).trans (heap4 w _ _ _ _).1
    have q1 := (hblk (w.heap.size + 1) (by omega) (by omega)).trans (heap4 w _ _ _ _).2
    have y4 : w5.frozen? ⟨w.heap.size, 1, none⟩ = false := frozen_far q0
    have y5 : w5.frozen? ⟨w.heap.size + 1, 0, none⟩ = false := frozen_far q1
    have y6 : w5.frozen? ⟨w.heap.size + 1, 1, none⟩ = false := frozen_far q1
    have t0 : ∃ cs fr, w5.heap[w.heap.size]? = some (.cells cs 24 fr) := ⟨_, _, q0⟩
    have t1 : ∃ cs fr, w5.heap[w.heap.size + 1]? = some (.cells cs 24 fr) := ⟨_, _, q1⟩
    have n0 := own_type_ne hown6 t0 (by decide)
    have n1 := own_type_ne hown6 t1 (by decide)
    clear hgrow hblk q0 q1 t0 t1 x0 x1 x2 x3
    obtain ⟨A5, c5, rfl, _, _, _, _⟩ := PL.of_own hown6
    have z1 := World.cell?_setCell_same w5 ⟨w.heap.size, 1, none⟩ (.slice A5 (l ++ [(N.1, 0)]).length c5) y1
    go_wp2_with fail
    have e1 := World.cell?_setCell_same (w5.setCell ⟨w.heap.size, 1, none⟩ (.slice A5 (l.length + 1) c5)) ⟨w.heap.size + 1, 0, none⟩ (.int .i64 c) (keep_set (by omega) y2)
    have e2 := World.cell?_setCell_same ((w5.setCell ⟨w.heap.size, 1, none⟩ (.slice A5 (l.length + 1) c5)).setCell ⟨w.heap.size + 1, 0, none⟩ (.int .i64 c)) ⟨w.heap.size + 1, 1, none⟩ (.slice A5 (l.length + 1) c5) (keep_off (by decide) (keep_set (by omega) y3))
    refine bodyPost_ret (v := .tuple #[.agg #[.int .i64 c, .slice A5 (l.length + 1) c5], .int .i64 k, .bool false]) (by simp [results, Tryz.results35, go_sem, keep_off (show (1 : Nat) ≠ 0 by decide) e1, e2]) rfl ?_
    refine ⟨k, A5, l.length + 1, c5, by omega, by omega, by rw [HE.out]; exact HK.out, by rw [HE.out, hok], ?_, ((hb5.setCell hB _).setCell (by show B ≤ w.heap.size + 1; omega) _).setCell (by show B ≤ w.heap.size + 1; omega) _⟩
    rw [HE.out]
    have h7 := ownsRow_setCell_other (ownsRow_setCell_other (ownsRow_setCell_other hown6 (a := ⟨w.heap.size, 1, none⟩) n0 (.slice A5 (l.length + 1) c5)) (a := ⟨w.heap.size + 1, 0, none⟩) n1 (.int .i64 c)) (a := ⟨w.heap.size + 1, 1, none⟩) n1 (.slice A5 (l.length + 1) c5)
    simpa using h7
  · by_cases hkl : k < s.size
    · by_cases h43 : s[k].toNat = 43
      · have HT : Hid (N.2.1.tail = s.data.toList.drop (k + 1)) := by rw [Hid, HK.out, List.tail_drop]
        obtain ⟨N2, hN2⟩ : ∃ N2, numR (s.data.toList.drop (k + 1)) = N2 := ⟨_, rfl⟩
        have HE : Hid (R = ((c, l ++ [(N.1, N2.1)]), N2.2.1, N2.2.2)) := by
          rw [Hid, ← HR.out, if_pos ⟨hok, by rw [HK.out, head_drop hkl]; congr 1; exact UInt8.toNat_inj.1 h43⟩, HT.out, hN2]
        have hnum2 := number_any s (k + 1) (((w.alloc (.cells #[.int .i64 c, .slice A n cap] 24)).alloc (.cells #[.int .i64 0, .slice none 0 0] 24)).alloc (.cells #[.int .i64 N.1, .int .i64 0] 45)) hs (by omega) N2 hN2
        rw [show ((k + 1 : Nat) : Int) = (k : Int) + 1 by omega] at hnum2
        have Hnum2 := Lib.hid hnum2
        clear hnum2 hN2
        go_wp2_with fail
        refine Hnum2.out.mono ?_
        rintro e w1 ⟨k2, hk3, hk4, hk5, rfl, rfl⟩
        have HK2 := Lib.hid hk5
        clear hk5
        have hX : Below w.heap.size w ((((w.alloc (.cells #[.int .i64 c, .slice A n cap] 24)).alloc (.cells #[.int .i64 0, .slice none 0 0] 24)).alloc (.cells #[.int .i64 N.1, .int .i64 N2.1] 45)).alloc (.cells #[.int .i64 N.1, .int .i64 N2.1] 45)) := (hb2.bel.alloc (by simp; omega) _).alloc (by simp; omega) _
        have hownX := own_below hown hX
        have hXs : ((((w.alloc (.cells #[.int .i64 c, .slice A n cap] 24)).alloc (.cells #[.int .i64 0, .slice none 0 0] 24)).alloc (.cells #[.int .i64 N.1, .int .i64 N2.1] 45)).alloc (.cells #[.int .i64 N.1, .int .i64 N2.1] 45)).heap.size = w.heap.size + 4 := by simp
        have x0 := cell_alloc (.cells #[.int .i64 N.1, .int .i64 N2.1] 45) (cell_alloc (.cells #[.int .i64 N.1, .int .i64 N2.1] 45) hb2.a0)
        have x1 := cell_alloc (.cells #[.int .i64 N.1, .int .i64 N2.1] 45) (cell_alloc (.cells #[.int .i64 N.1, .int .i64 N2.1] 45) hb2.a1)
        have x2 := cell_alloc (.cells #[.int .i64 N.1, .int .i64 N2.1] 45) (cell_alloc (.cells #[.int .i64 N.1, .int .i64 N2.1] 45) hb2.r0)
        have x3 := cell_alloc (.cells #[.int .i64 N.1, .int .i64 N2.1] 45) (cell_alloc (.cells #[.int .i64 N.1, .int .i64 N2.1] 45) hb2.r1)
        go_wp2_with (at_builtin; refine wpList_append_own _ rfl _ _ 22 rfl B 45 i0 (.agg #[.int .i64 0, .int .i64 0]) 2 16 Tryz.underlying22 hi hz0 hz1 hz2 rfl (by decide) (.slice A n cap) l.length (flat2 l) rfl hownX _ 1 1 [.int .i64 N.1, .int .i64 N2.1] rfl rfl (news2' (x := (N.1, N2.1)) (by simp)) (news2_one (x := (N.1, N2.1))) (by unfold maxLen; omega) (by omega) (by simp; omega) ?_)
        intro v5 w5 hown5 hgrow _
        have hown6 : w5.ownsRow B 45 2 v5 (l ++ [(N.1, N2.1)]).length (flat2 (l ++ [(N.1, N2.1)])) := by rw [List.length_append, flat2_app, flat2_one]; exact hown5
        clear hown5
        have hblk : ∀ b, w.heap.size ≤ b → b < w.heap.size + 4 → w5.heap[b]? = ((((w.alloc (.cells #[.int .i64 c, .slice A n cap] 24)).alloc (.cells #[.int .i64 0, .slice none 0 0] 24)).alloc (.cells #[.int .i64 N.1, .int .i64 N2.1] 45)).alloc (.cells #[.int .i64 N.1, .int .i64 N2.1] 45)).heap[b]? := fun b h1 h2 => hgrow.block b (by omega) (fun e => by have := (hown.lt b e.symm).2; omega)
        have hb5 : Below B w w5 := (hX.mono hB).grown hgrow (by omega) (fun j hj => (hown.lt j hj).1)
        have y0 : w5.cell? ⟨w.heap.size, 0, none⟩ = some (.int .i64 c) := (World.cell?_of_block (hblk w.heap.size (by omega) (by omega))).trans x0
        have y1 : w5.cell? ⟨w.heap.size, 1, none⟩ = some (.slice A n cap) := (World.cell?_of_block (hblk w.heap.size (by omega) (by omega))).trans x1
        have y2 : w5.cell? ⟨w.heap.size + 1, 0, none⟩ = some (.int .i64 0) := (World.cell?_of_block (hblk (w.heap.size + 1) (by omega) (by omega))).trans x2
        have y3 : w5.cell? ⟨w.heap.size + 1, 1, none⟩ = some (.slice none 0 0) := (World.cell?_of_block (hblk (w.heap.size + 1) (by omega) (by omega))).trans x3
        have q0 := (hblk w.heap.size (by omega) (by omega)).trans (heap4 w _ _ _ _).1
        have q1 := (hblk (w.heap.size + 1) (by omega) (by omega)).trans (heap4 w _ _ _ _).2
        have y4 : w5.frozen? ⟨w.heap.size, 1, none⟩ = false := frozen_far q0
        have y5 : w5.frozen? ⟨w.heap.size + 1, 0, none⟩ = false := frozen_far q1
        have y6 : w5.frozen? ⟨w.heap.size + 1, 1, none⟩ = false := frozen_far q1
        have t0 : ∃ cs fr, w5.heap[w.heap.size]? = some (.cells cs 24 fr) := ⟨_, _, q0⟩
        have t1 : ∃ cs fr, w5.heap[w.heap.size + 1]? = some (.cells cs 24 fr) := ⟨_, _, q1⟩
        have n0 := own_type_ne hown6 t0 (by decide)
        have n1 := own_type_ne hown6 t1 (by decide)
        clear hgrow hblk q0 q1 t0 t1 x0 x1 x2 x3
        obtain ⟨A5, c5, rfl, _, _, _, _⟩ := PL.of_own hown6
        have z1 := World.cell?_setCell_same w5 ⟨w.heap.size, 1, none⟩ (.slice A5 (l ++ [(N.1, N2.1)]).length c5) y1
        go_wp2_with fail
        have e1 := World.cell?_setCell_same (w5.setCell ⟨w.heap.size, 1, none⟩ (.slice A5 (l.length + 1) c5)) ⟨w.heap.size + 1, 0, none⟩ (.int .i64 c) (keep_set (by omega) y2)
        have e2 := World.cell?_setCell_same ((w5.setCell ⟨w.heap.size, 1, none⟩ (.slice A5 (l.length + 1) c5)).setCell ⟨w.heap.size + 1, 0, none⟩ (.int .i64 c)) ⟨w.heap.size + 1, 1, none⟩ (.slice A5 (l.length + 1) c5) (keep_off (by decide) (keep_set (by omega) y3))
        refine bodyPost_ret (v := .tuple #[.agg #[.int .i64 c, .slice A5 (l.length + 1) c5], .int .i64 k2, .bool N2.2.2]) (by simp [results, Tryz.results35, go_sem, keep_off (show (1 : Nat) ≠ 0 by decide) e1, e2]) rfl ?_
        refine ⟨k2, A5, l.length + 1, c5, by omega, by omega, by rw [HE.out]; exact HK2.out, by rw [HE.out], ?_, ((hb5.setCell hB _).setCell (by show B ≤ w.heap.size + 1; omega) _).setCell (by show B ≤ w.heap.size + 1; omega) _⟩
        rw [HE.out]
        have h7 := ownsRow_setCell_other (ownsRow_setCell_other (ownsRow_setCell_other hown6 (a := ⟨w.heap.size, 1, none⟩) n0 (.slice A5 (l.length + 1) c5)) (a := ⟨w.heap.size + 1, 0, none⟩) n1 (.int .i64 c)) (a := ⟨w.heap.size + 1, 1, none⟩) n1 (.slice A5 (l.length + 1) c5)
        simpa using h7
      · have HE : Hid (R = ((c, l ++ [(N.1, 0)]), N.2.1, N.2.2)) := by rw [Hid, ← HR.out, if_neg (fun h => by rw [HK.out, head_drop hkl] at h; exact h43 (by rw [Option.some.inj h.2]; rfl))]
        have hX : Below w.heap.size w ((((w.alloc (.cells #[.int .i64 c, .slice A n cap] 24)).alloc (.cells #[.int .i64 0, .slice none 0 0] 24)).alloc (.cells #[.int .i64 N.1, .int .i64 0] 45)).alloc (.cells #[.int .i64 N.1, .int .i64 0] 45)) := (hb2.bel.alloc (by simp; omega) _).alloc (by simp; omega) _
        have hownX := own_below hown hX
        have hXs : ((((w.alloc (.cells #[.int .i64 c, .slice A n cap] 24)).alloc (.cells #[.int .i64 0, .slice none 0 0] 24)).alloc (.cells #[.int .i64 N.1, .int .i64 0] 45)).alloc (.cells #[.int .i64 N.1, .int .i64 0] 45)).heap.size = w.heap.size + 4 := by simp
        have x0 := cell_alloc (.cells #[.int .i64 N.1, .int .i64 0] 45) (cell_alloc (.cells #[.int .i64 N.1, .int .i64 0] 45) hb2.a0)
        have x1 := cell_alloc (.cells #[.int .i64 N.1, .int .i64 0] 45) (cell_alloc (.cells #[.int .i64 N.1, .int .i64 0] 45) hb2.a1)
        have x2 := cell_alloc (.cells #[.int .i64 N.1, .int .i64 0] 45) (cell_alloc (.cells #[.int .i64 N.1, .int .i64 0] 45) hb2.r0)
        have x3 := cell_alloc (.cells #[.int .i64 N.1, .int .i64 0] 45) (cell_alloc (.cells #[.int .i64 N.1, .int .i64 0] 45) hb2.r1)
        go_wp2_with (at_builtin; refine wpList_append_own _ rfl _ _ 22 rfl B 45 i0 (.agg #[.int .i64 0, .int .i64 0]) 2 16 Tryz.underlying22 hi hz0 hz1 hz2 rfl (by decide) (.slice A n cap) l.length (flat2 l) rfl hownX _ 1 1 [.int .i64 N.1, .int .i64 0] rfl rfl (news2' (x := (N.1, 0)) (by simp)) (news2_one (x := (N.1, 0))) (by unfold maxLen; omega) (by omega) (by simp; omega) ?_)
        intro v5 w5 hown5 hgrow _
        have hown6 : w5.ownsRow B 45 2 v5 (l ++ [(N.1, 0)]).length (flat2 (l ++ [(N.1, 0)])) := by rw [List.length_append, flat2_app, flat2_one]; exact hown5
        clear hown5
        have hblk : ∀ b, w.heap.size ≤ b → b < w.heap.size + 4 → w5.heap[b]? = ((((w.alloc (.cells #[.int .i64 c, .slice A n cap] 24)).alloc (.cells #[.int .i64 0, .slice none 0 0] 24)).alloc (.cells #[.int .i64 N.1, .int .i64 0] 45)).alloc (.cells #[.int .i64 N.1, .int .i64 0] 45)).heap[b]? := fun b h1 h2 => hgrow.block b (by omega) (fun e => by have := (hown.lt b e.symm).2; omega)
        have hb5 : Below B w w5 := (hX.mono hB).grown hgrow (by omega) (fun j hj => (hown.lt j hj).1)
        have y0 : w5.cell? ⟨w.heap.size, 0, none⟩ = some (.int .i64 c) := (World.cell?_of_block (hblk w.heap.size (by omega) (by omega))).trans x0
        have y1 : w5.cell? ⟨w.heap.size, 1, none⟩ = some (.slice A n cap) := (World.cell?_of_block (hblk w.heap.size (by omega) (by omega))).trans x1
        have y2 : w5.cell? ⟨w.heap.size + 1, 0, none⟩ = some (.int .i64 0) := (World.cell?_of_block (hblk (w.heap.size + 1) (by omega) (by omega))).trans x2
        have y3 : w5.cell? ⟨w.heap.size + 1, 1, none⟩ = some (.slice none 0 0) := (World.cell?_of_block (hblk (w.heap.size + 1) (by omega) (by omega))).trans x3
        have q0 := (hblk w.heap.size (by omega) (by omega)).trans (heap4 w _ _ _ _).1
        have q1 := (hblk (w.heap.size + 1) (by omega) (by omega)).trans (heap4 w _ _ _ _).2
        have y4 : w5.frozen? ⟨w.heap.size, 1, none⟩ = false := frozen_far q0
        have y5 : w5.frozen? ⟨w.heap.size + 1, 0, none⟩ = false := frozen_far q1
        have y6 : w5.frozen? ⟨w.heap.size + 1, 1, none⟩ = false := frozen_far q1
        have t0 : ∃ cs fr, w5.heap[w.heap.size]? = some (.cells cs 24 fr) := ⟨_, _, q0⟩
        have t1 : ∃ cs fr, w5.heap[w.heap.size + 1]? = some (.cells cs 24 fr) := ⟨_, _, q1⟩
        have n0 := own_type_ne hown6 t0 (by decide)
        have n1 := own_type_ne hown6 t1 (by decide)
        clear hgrow hblk q0 q1 t0 t1 x0 x1 x2 x3
        obtain ⟨A5, c5, rfl, _, _, _, _⟩ := PL.of_own hown6
        have z1 := World.cell?_setCell_same w5 ⟨w.heap.size, 1, none⟩ (.slice A5 (l ++ [(N.1, 0)]).length c5) y1
        go_wp2_with fail
        have e1 := World.cell?_setCell_same (w5.setCell ⟨w.heap.size, 1, none⟩ (.slice A5 (l.length + 1) c5)) ⟨w.heap.size + 1, 0, none⟩ (.int .i64 c) (keep_set (by omega) y2)
        have e2 := World.cell?_setCell_same ((w5.setCell ⟨w.heap.size, 1, none⟩ (.slice A5 (l.length + 1) c5)).setCell ⟨w.heap.size + 1, 0, none⟩ (.int .i64 c)) ⟨w.heap.size + 1, 1, none⟩ (.slice A5 (l.length + 1) c5) (keep_off (by decide) (keep_set (by omega) y3))
        refine bodyPost_ret (v := .tuple #[.agg #[.int .i64 c, .slice A5 (l.length + 1) c5], .int .i64 k, .bool true]) (by simp [results, Tryz.results35, go_sem, keep_off (show (1 : Nat) ≠ 0 by decide) e1, e2]) rfl ?_
        refine ⟨k, A5, l.length + 1, c5, by omega, by omega, by rw [HE.out]; exact HK.out, by rw [HE.out, hok], ?_, ((hb5.setCell hB _).setCell (by show B ≤ w.heap.size + 1; omega) _).setCell (by show B ≤ w.heap.size + 1; omega) _⟩
        rw [HE.out]
        have h7 := ownsRow_setCell_other (ownsRow_setCell_other (ownsRow_setCell_other hown6 (a := ⟨w.heap.size, 1, none⟩) n0 (.slice A5 (l.length + 1) c5)) (a := ⟨w.heap.size + 1, 0, none⟩) n1 (.int .i64 c)) (a := ⟨w.heap.size + 1, 1, none⟩) n1 (.slice A5 (l.length + 1) c5)
        simpa using h7
    · have HE : Hid (R = ((c, l ++ [(N.1, 0)]), N.2.1, N.2.2)) := by rw [Hid, ← HR.out, if_neg (fun h => by rw [HK.out, List.drop_eq_nil_of_le (by rw [← Lib.size_eq]; omega)] at h; cases h.2)]
      have hX : Below w.heap.size w ((((w.alloc (.cells #[.int .i64 c, .slice A n cap] 24)).alloc (.cells #[.int .i64 0, .slice none 0 0] 24)).alloc (.cells #[.int .i64 N.1, .int .i64 0] 45)).alloc (.cells #[.int .i64 N.1, .int .i64 0] 45)) := (hb2.bel.alloc (by simp; omega) _).alloc (by simp; omega) _
      have hownX := own_below hown hX
      have hXs : ((((w.alloc (.cells #[.int .i64 c, .slice A n cap] 24)).alloc (.cells #[.int .i64 0, .slice none 0 0] 24)).alloc (.cells #[.int .i64 N.1, .int .i64 0] 45)).alloc (.cells #[.int .i64 N.1, .int .i64 0] 45)).heap.size = w.heap.size + 4 := by simp
      have x0 := cell_alloc (.cells #[.int .i64 N.1, .int .i64 0] 45) (cell_alloc (.cells #[.int .i64 N.1, .int .i64 0] 45) hb2.a0)
      have x1 := cell_alloc (.cells #[.int .i64 N.1, .int .i64 0] 45) (cell_alloc (.cells #[.int .i64 N.1, .int .i64 0] 45) hb2.a1)
      have x2 := cell_alloc (.cells #[.int .i64 N.1, .int .i64 0] 45) (cell_alloc (.cells #[.int .i64 N.1, .int .i64 0] 45) hb2.r0)
      have x3 := cell_alloc (.cells #[.int .i64 N.1, .int .i64 0] 45) (cell_alloc (.cells #[.int .i64 N.1, .int .i64 0] 45) hb2.r1)
      go_wp2_with (at_builtin; refine wpList_append_own _ rfl _ _ 22 rfl B 45 i0 (.agg #[.int .i64 0, .int .i64 0]) 2 16 Tryz.underlying22 hi hz0 hz1 hz2 rfl (by decide) (.slice A n cap) l.length (flat2 l) rfl hownX _ 1 1 [.int .i64 N.1, .int .i64 0] rfl rfl (news2' (x := (N.1, 0)) (by simp)) (news2_one (x := (N.1, 0))) (by unfold maxLen; omega) (by omega) (by simp; omega) ?_)
      intro v5 w5 hown5 hgrow _
      have hown6 : w5.ownsRow B 45 2 v5 (l ++ [(N.1, 0)]).length (flat2 (l ++ [(N.1, 0)])) := by rw [List.length_append, flat2_app, flat2_one]; exact hown5
      clear hown5
      have hblk : ∀ b, w.heap.size ≤ b → b < w.heap.size + 4 → w5.heap[b]? = ((((w.alloc (.cells #[.int .i64 c, .slice A n cap] 24)).alloc (.cells #[.int .i64 0, .slice none 0 0] 24)).alloc (.cells #[.int .i64 N.1, .int .i64 0] 45)).alloc (.cells #[.int .i64 N.1, .int .i64 0] 45)).heap[b]? := fun b h1 h2 => hgrow.block b (by omega) (fun e => by have := (hown.lt b e.symm).2; omega)
      have hb5 : Below B w w5 := (hX.mono hB).grown hgrow (by omega) (fun j hj => (hown.lt j hj).1)
      have y0 : w5.cell? ⟨w.heap.size, 0, none⟩ = some (.int .i64 c) := (World.cell?_of_block (hblk w.heap.size (by omega) (by omega))).trans x0
      have y1 : w5.cell? ⟨w.heap.size, 1, none⟩ = some (.slice A n cap) := (World.cell?_of_block (hblk w.heap.size (by omega) (by omega))).trans x1
      have y2 : w5.cell? ⟨w.heap.size + 1, 0, none⟩ = some (.int .i64 0) := (World.cell?_of_block (hblk (w.heap.size + 1) (by omega) (by omega))).trans x2
      have y3 : w5.cell? ⟨w.heap.size + 1, 1, none⟩ = some (.slice none 0 0) := (World.cell?_of_block (hblk (w.heap.size + 1) (by omega) (by omega))).trans x3
      have q0 := (hblk w.heap.size (by omega) (by omega)).trans (heap4 w _ _ _ _).1
      have q1 := (hblk (w.heap.size + 1) (by omega) (by omega)).trans (heap4 w _ _ _ _).2
      have y4 : w5.frozen? ⟨w.heap.size, 1, none⟩ = false := frozen_far q0
      have y5 : w5.frozen? ⟨w.heap.size + 1, 0, none⟩ = false := frozen_far q1
      have y6 : w5.frozen? ⟨w.heap.size + 1, 1, none⟩ = false := frozen_far q1
      have t0 : ∃ cs fr, w5.heap[w.heap.size]? = some (.cells cs 24 fr) := ⟨_, _, q0⟩
      have t1 : ∃ cs fr, w5.heap[w.heap.size + 1]? = some (.cells cs 24 fr) := ⟨_, _, q1⟩
      have n0 := own_type_ne hown6 t0 (by decide)
      have n1 := own_type_ne hown6 t1 (by decide)
      clear hgrow hblk q0 q1 t0 t1 x0 x1 x2 x3
      obtain ⟨A5, c5, rfl, _, _, _, _⟩ := PL.of_own hown6
      have z1 := World.cell?_setCell_same w5 ⟨w.heap.size, 1, none⟩ (.slice A5 (l ++ [(N.1, 0)]).length c5) y1
      go_wp2_with fail
      have e1 := World.cell?_setCell_same (w5.setCell ⟨w.heap.size, 1, none⟩ (.slice A5 (l.length + 1) c5)) ⟨w.heap.size + 1, 0, none⟩ (.int .i64 c) (keep_set (by omega) y2)
      have e2 := World.cell?_setCell_same ((w5.setCell ⟨w.heap.size, 1, none⟩ (.slice A5 (l.length + 1) c5)).setCell ⟨w.heap.size + 1, 0, none⟩ (.int .i64 c)) ⟨w.heap.size + 1, 1, none⟩ (.slice A5 (l.length + 1) c5) (keep_off (by decide) (keep_set (by omega) y3))
      refine bodyPost_ret (v := .tuple #[.agg #[.int .i64 c, .slice A5 (l.length + 1) c5], .int .i64 k, .bool true]) (by simp [results, Tryz.results35, go_sem, keep_off (show (1 : Nat) ≠ 0 by decide) e1, e2]) rfl ?_
      refine ⟨k, A5, l.length + 1, c5, by omega, by omega, by rw [HE.out]; exact HK.out, by rw [HE.out, hok], ?_, ((hb5.setCell hB _).setCell (by show B ≤ w.heap.size + 1; omega) _).setCell (by show B ≤ w.heap.size + 1; omega) _⟩
      rw [HE.out]
      have h7 := ownsRow_setCell_other (ownsRow_setCell_other (ownsRow_setCell_other hown6 (a := ⟨w.heap.size, 1, none⟩) n0 (.slice A5 (l.length + 1) c5)) (a := ⟨w.heap.size + 1, 0, none⟩) n1 (.int .i64 c)) (a := ⟨w.heap.size + 1, 1, none⟩) n1 (.slice A5 (l.length + 1) c5)
      simpa using h7
theorem part_any (s : ByteArray) (a : Nat) (c : Int) (A : Option Addr) (n cap : Nat) (l : List (Int × Int)) (B : Nat) (w : World) (hs : s.size ≤ 1000000) (hl : l.length ≤ 1000)
    (hown : w.ownsRow B 45 2 (.slice A n cap) l.length (flat2 l)) (hB : B ≤ w.heap.size) (R : (Int × List (Int × Int)) × List UInt8 × Bool) (hR : partR c l (s.data.toList.drop a) = R) (ha : a ≤ s.size) :
    Calls Tryz.prog 35 #[.string s, .int .i64 a, .agg #[.int .i64 c, .slice A n cap]] w fun e w' => ∃ (k : Nat) (A' : Option Addr) (n' cap' : Nat), a ≤ k ∧ k ≤ s.size ∧ R.2.1 = s.data.toList.drop k ∧
      e = .returned (.tuple #[.agg #[.int .i64 R.1.1, .slice A' n' cap'], .int .i64 k, .bool R.2.2]) ∧ w'.ownsRow B 45 2 (.slice A' n' cap') R.1.2.length (flat2 R.1.2) ∧ Below B w w' := by
  by_cases hu : a < s.size ∧ (s.data.toList.drop a).head? = some 117
  · exact part_u s a c A n cap l B w hs hl hown hB R hR hu.1 hu.2
  · exact part_other s a c A n cap l B w hs ha hl hown hB R hR hu
end Go.Proofs.YtgbbmcfhakliiaaGreatDoor
