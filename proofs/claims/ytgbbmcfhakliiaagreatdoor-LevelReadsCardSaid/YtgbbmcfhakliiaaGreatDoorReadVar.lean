/-
  'readVar' where the name is a number (the rest of the part may be no number).
-/
import Derived.Test.YtgbbmcfhakliiaaGreatDoorAtoi
import Derived.Test.YtgbbmcfhakliiaaGreatDoorMerged
import Derived.Test.YtgbbmcfhakliiaaGreatDoorTxtR
namespace Go.Proofs.YtgbbmcfhakliiaaGreatDoor
open Go Go.RowKit

theorem cut_len43 {l : List UInt8} {C : List UInt8 × List UInt8 × Bool} (h : Lib.cut l [43] = C) : C.1.length ≤ l.length ∧ C.2.1.length ≤ l.length := by
  subst h
  unfold Lib.cut
  split <;> simp
  omega

set_option maxRecDepth 100000 in
set_option linter.unusedSimpArgs false in
set_option maxHeartbeats 2000000 in
theorem readVar_named (s : ByteArray) (w : World) (hs : s.size ≤ 1000000) (hE : ∀ w1, Below w.heap.size w w1 → w1.ShapedOpen Tryz.prog ∧ Errs w1) (v0 : Int) (hn : Lib.atoiAll (Lib.cut s.data.toList [43]).1 = .ok v0) :
    Calls Tryz.prog 32 #[.string s] w fun e w' => ∃ x : Int × Int, e = .returned (.tuple #[.agg #[.int .i64 x.1, .int .i64 x.2], .bool (readVarF s.data.toList).isSome]) ∧ Below w.heap.size w w' ∧ ∀ y, readVarF s.data.toList = some y → y = x := by
  have hb0 : Below w.heap.size w (w.alloc (.cells #[.int .i64 0, .int .i64 0] 45)) := (Below.refl _ w).alloc (Nat.le_refl _) _
  obtain ⟨C, hC⟩ : ∃ C, Lib.cut s.data.toList [43] = C := ⟨_, rfl⟩
  obtain ⟨s1, hs1⟩ : ∃ s1 : ByteArray, s1 = ⟨C.1.toArray⟩ := ⟨_, rfl⟩
  obtain ⟨s2, hs2⟩ : ∃ s2 : ByteArray, s2 = ⟨C.2.1.toArray⟩ := ⟨_, rfl⟩
  have hcut : Calls Tryz.prog 49 #[.string s, .string ⟨#[43]⟩] (w.alloc (.cells #[.int .i64 0, .int .i64 0] 45)) fun e w' => e = .returned (.tuple #[.string s1, .string s2, .bool C.2.2]) ∧ ∃ n, w' = (w.alloc (.cells #[.int .i64 0, .int .i64 0] 45)).drewN n := by
    rw [hs1, hs2, ← hC]; exact Any.strings_Cut_shaped Tryz.layCut s ⟨#[43]⟩ _ (hE _ hb0).1 (by omega)
  have hz := cut_len43 hC
  have hl : s.data.toList.length = s.size := (Lib.size_eq s).symm
  rw [hl] at hz
  have hz1 : s1.size ≤ 1000000 := by rw [hs1]; show C.1.toArray.size ≤ _; simp; omega
  have hz2 : s2.size ≤ 1000000 := by rw [hs2]; show C.2.1.toArray.size ≤ _; simp; omega
  have hd1 : s1.data.toList = C.1 := by rw [hs1]
  have hd2 : s2.data.toList = C.2.1 := by rw [hs2]
  have HR : Hid (readVarF s.data.toList = match Lib.atoiAll s1.data.toList, Lib.atoiAll (if C.2.2 = true then s2.data.toList else [48]) with
      | .ok v, .ok n => some (v, n)
      | _, _ => none) := by rw [Hid, readVarF, hC, hd1, hd2]; generalize Lib.atoiAll C.1 = x; generalize Lib.atoiAll (if C.2.2 = true then C.2.1 else [48]) = y; cases x <;> cases y <;> rfl
  have hn1 : Lib.atoiAll s1.data.toList = .ok v0 := by rw [hd1, ← hC]; exact hn
  clear hn
  have Hn := Lib.hid hn1
  clear hn1
  have Hcut := Lib.hid hcut
  clear hcut hC hs1 hs2 hd1 hd2 hz hl
  go_enter Tryz.func32, Tryz.ntmps32
  go_wp2_with fail
  refine Hcut.out.mono ?_
  rintro e w1 ⟨rfl, n, hw1⟩
  have hb1 : Below (w.heap.size + 1) (w.alloc (.cells #[.int .i64 0, .int .i64 0] 45)) w1 := by rw [hw1]; exact below_drewN' (Below.refl _ _) n
  clear hw1
  have hsz1 : w.heap.size + 1 ≤ w1.heap.size := by have := hb1.size; simp at this; omega
  have hw1 : Below w.heap.size w w1 := hb0.trans (hb1.mono (by omega))
  cases hm : C.2.2
  · go_wp2_with fail
    refine (atoi_any s1 hz1 w1 (hE _ hw1).2).mono ?_
    rintro e w2 ⟨v, er, rfl, hb2, hv⟩
    have hw2 : Below w.heap.size w w2 := hw1.trans (hb2.mono (by omega))
    go_wp2_with fail
    refine (atoi_any ⟨#[48]⟩ (by decide) w2 (hE _ hw2).2).mono ?_
    rintro e w3 ⟨u, er2, rfl, hb3, hu⟩
    have hw3 : Below w.heap.size w w3 := hw2.trans (hb3.mono (by have := hb2.size; omega))
    have hB : Below (w.heap.size + 1) (w.alloc (.cells #[.int .i64 0, .int .i64 0] 45)) w3 := hb1.trans ((hb2.mono hsz1).trans (hb3.mono (by have := hb2.size; omega)))
    have y0 : w3.cell? ⟨w.heap.size, 0, none⟩ = some (.int .i64 0) := (hB.cell (p := ⟨w.heap.size, 0, none⟩) (by simp)).trans (by simp)
    have y1 : w3.cell? ⟨w.heap.size, 1, none⟩ = some (.int .i64 0) := (hB.cell (p := ⟨w.heap.size, 1, none⟩) (by simp)).trans (by simp)
    have y2 : w3.frozen? ⟨w.heap.size, 0, none⟩ = false := (hB.frozen (p := ⟨w.heap.size, 0, none⟩) (by simp)).trans (by simp)
    have y3 : w3.frozen? ⟨w.heap.size, 1, none⟩ = false := (hB.frozen (p := ⟨w.heap.size, 1, none⟩) (by simp)).trans (by simp)
    have e0 := World.cell?_setCell_same w3 ⟨w.heap.size, 0, none⟩ (.int .i64 v) y0
    have e1 := World.cell?_setCell_same (w3.setCell ⟨w.heap.size, 0, none⟩ (.int .i64 v)) ⟨w.heap.size, 1, none⟩ (.int .i64 u) (keep_off (by decide) y1)
    clear hb1 hb2 hb3 hB
    rcases hv with ⟨hv, rfl⟩ | ⟨hv, t, p, rfl⟩
    · rcases hu with ⟨hu, rfl⟩ | ⟨hu, t, p, rfl⟩
      · have HN : Hid (readVarF s.data.toList = some (v, u)) := by rw [Hid]; rw [HR.out, hm]; simp only [if_true, if_false, Bool.false_eq_true]; rw [hv, show Lib.atoiAll _ = _ from hu]
        go_wp2_with fail
        go_region_held3 (fun _ => True) (trivial) (fail)
        go_wp2_with fail
        refine bodyPost_ret (v := .tuple #[.agg #[.int .i64 v, .int .i64 u], .bool true]) (by simp [results, Tryz.results32, go_sem, keep_off (show (1 : Nat) ≠ 0 by decide) e0, e1]) rfl ?_
        refine ⟨(v, u), by rw [HN.out]; rfl, (hw3.drew.setCell (Nat.le_refl _) _).setCell (Nat.le_refl _) _, fun x hx => ?_⟩
        rw [HN.out] at hx
        exact (Option.some.inj hx).symm
      · have HN : Hid (readVarF s.data.toList = none) := by rw [Hid]; rw [HR.out, hm]; simp only [if_true, if_false, Bool.false_eq_true]; split; (first | exact absurd (by assumption) (hv _) | exact absurd (by assumption) (hu _)); rfl
        go_wp2_with fail
        go_region_held3 (fun _ => True) (trivial) (fail)
        go_wp2_with fail
        refine bodyPost_ret (v := .tuple #[.agg #[.int .i64 v, .int .i64 u], .bool false]) (by simp [results, Tryz.results32, go_sem, keep_off (show (1 : Nat) ≠ 0 by decide) e0, e1]) rfl ?_
        refine ⟨(v, u), by rw [HN.out]; rfl, (hw3.drew.setCell (Nat.le_refl _) _).setCell (Nat.le_refl _) _, fun x hx => ?_⟩
        rw [HN.out] at hx
        cases hx
    · exact absurd Hn.out (hv _)
  · go_wp2_with fail
    refine (atoi_any s1 hz1 w1 (hE _ hw1).2).mono ?_
    rintro e w2 ⟨v, er, rfl, hb2, hv⟩
    have hw2 : Below w.heap.size w w2 := hw1.trans (hb2.mono (by omega))
    go_wp2_with fail
    refine (atoi_any s2 hz2 w2 (hE _ hw2).2).mono ?_
    rintro e w3 ⟨u, er2, rfl, hb3, hu⟩
    have hw3 : Below w.heap.size w w3 := hw2.trans (hb3.mono (by have := hb2.size; omega))
    have hB : Below (w.heap.size + 1) (w.alloc (.cells #[.int .i64 0, .int .i64 0] 45)) w3 := hb1.trans ((hb2.mono hsz1).trans (hb3.mono (by have := hb2.size; omega)))
    have y0 : w3.cell? ⟨w.heap.size, 0, none⟩ = some (.int .i64 0) := (hB.cell (p := ⟨w.heap.size, 0, none⟩) (by simp)).trans (by simp)
    have y1 : w3.cell? ⟨w.heap.size, 1, none⟩ = some (.int .i64 0) := (hB.cell (p := ⟨w.heap.size, 1, none⟩) (by simp)).trans (by simp)
    have y2 : w3.frozen? ⟨w.heap.size, 0, none⟩ = false := (hB.frozen (p := ⟨w.heap.size, 0, none⟩) (by simp)).trans (by simp)
    have y3 : w3.frozen? ⟨w.heap.size, 1, none⟩ = false := (hB.frozen (p := ⟨w.heap.size, 1, none⟩) (by simp)).trans (by simp)
    have e0 := World.cell?_setCell_same w3 ⟨w.heap.size, 0, none⟩ (.int .i64 v) y0
    have e1 := World.cell?_setCell_same (w3.setCell ⟨w.heap.size, 0, none⟩ (.int .i64 v)) ⟨w.heap.size, 1, none⟩ (.int .i64 u) (keep_off (by decide) y1)
    clear hb1 hb2 hb3 hB
    rcases hv with ⟨hv, rfl⟩ | ⟨hv, t, p, rfl⟩
    · rcases hu with ⟨hu, rfl⟩ | ⟨hu, t, p, rfl⟩
      · have HN : Hid (readVarF s.data.toList = some (v, u)) := by rw [Hid]; rw [HR.out, hm]; simp only [if_true, if_false, Bool.false_eq_true]; rw [hv, show Lib.atoiAll _ = _ from hu]
        go_wp2_with fail
        go_region_held3 (fun _ => True) (trivial) (fail)
        go_wp2_with fail
        refine bodyPost_ret (v := .tuple #[.agg #[.int .i64 v, .int .i64 u], .bool true]) (by simp [results, Tryz.results32, go_sem, keep_off (show (1 : Nat) ≠ 0 by decide) e0, e1]) rfl ?_
        refine ⟨(v, u), by rw [HN.out]; rfl, (hw3.drew.setCell (Nat.le_refl _) _).setCell (Nat.le_refl _) _, fun x hx => ?_⟩
        rw [HN.out] at hx
        exact (Option.some.inj hx).symm
      · have HN : Hid (readVarF s.data.toList = none) := by rw [Hid]; rw [HR.out, hm]; simp only [if_true, if_false, Bool.false_eq_true]; split; (first | exact absurd (by assumption) (hv _) | exact absurd (by assumption) (hu _)); rfl
        go_wp2_with fail
        go_region_held3 (fun _ => True) (trivial) (fail)
        go_wp2_with fail
        refine bodyPost_ret (v := .tuple #[.agg #[.int .i64 v, .int .i64 u], .bool false]) (by simp [results, Tryz.results32, go_sem, keep_off (show (1 : Nat) ≠ 0 by decide) e0, e1]) rfl ?_
        refine ⟨(v, u), by rw [HN.out]; rfl, (hw3.drew.setCell (Nat.le_refl _) _).setCell (Nat.le_refl _) _, fun x hx => ?_⟩
        rw [HN.out] at hx
        cases hx
    · exact absurd Hn.out (hv _)
end Go.Proofs.YtgbbmcfhakliiaaGreatDoor

