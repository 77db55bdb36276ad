/-
  'Normal' of package level: what it returns for every level.
-/
import Derived.Test.YtgbbmcfhakliiaaGreatDoorCanon
namespace Go.Proofs.YtgbbmcfhakliiaaGreatDoor
open Go Go.RowKit

noncomputable def nErr (c : Int) (l : List (Int × Int)) : Int := if vld c l = true then cErr c l else 4
noncomputable def nConst (c : Int) (l : List (Int × Int)) : Int := if vld c l = true then cConst c l else 0
noncomputable def nVars (c : Int) (l : List (Int × Int)) : List (Int × Int) := if vld c l = true then cVars c l else []

theorem LvRes.lift {w w' : World} {B : Nat} {v : Value} {c : Int} {l : List (Int × Int)} (h : LvRes B w v c l) (hb : Below w.heap.size w w') : LvRes B w' v c l := by
  obtain ⟨A, m, cap, rfl, hP, h1, h2, h3⟩ := h
  exact ⟨A, m, cap, rfl, hP.lift hb, h1, h2, h3⟩

set_option maxRecDepth 100000 in
set_option maxHeartbeats 2000000 in
theorem normal_any (c : Int) (A : Option Addr) (n cap : Nat) (l : List (Int × Int)) (w : World) (h : PL w w.heap.size A n l) (hn : n ≤ cap) (hm : cap ≤ 9223372036854775807) :
    Calls Tryz.prog 13 #[.agg #[.int .i64 c, .slice A n cap]] w fun e w' => ∃ v, e = .returned (.tuple #[v, .int .i64 (nErr c l)]) ∧ LvRes w.heap.size w' v (nConst c l) (nVars c l) ∧ Below w.heap.size w w' := by
  have hb0 := (box2 (w := w) (x0 := .int .i64 c) (x1 := .slice A n cap) (y0 := .int .i64 0) (y1 := .slice none 0 0) (t := 24) (Below.refl _ _)).2.2
  have hv := valid_any c A n cap l _ (h.lift hb0) hn hm
  cases hvl : vld c l
  · have Hr : Hid (nErr c l = 4) := by rw [Hid, nErr, hvl]; rfl
    have Hcc : Hid (nConst c l = 0) := by rw [Hid, nConst, hvl]; rfl
    have Hcv : Hid (nVars c l = []) := by rw [Hid, nVars, hvl]; rfl
    rw [hvl] at hv
    have Hv := Lib.hid hv; clear hv hvl
    go_enter Tryz.func13, Tryz.ntmps13
    go_wp2_with fail
    refine Hv.out.mono ?_
    rintro e w1 ⟨rfl, hb1⟩
    have hbb : Below (w.heap.size + 2) ((w.alloc (.cells #[.int .i64 c, .slice A n cap] 24)).alloc (.cells #[.int .i64 0, .slice none 0 0] 24)) w1 := hb1.mono (by simp)
    obtain ⟨⟨f1, f2, f3, f4⟩, hsz, hbw⟩ := box2 hbb
    have f5 : w1.frozen? ⟨w.heap.size + 1, 0, none⟩ = false := (hbb.frozen (p := ⟨w.heap.size + 1, 0, none⟩) (by simp)).trans (by simp)
    have f6 : w1.frozen? ⟨w.heap.size + 1, 1, none⟩ = false := (hbb.frozen (p := ⟨w.heap.size + 1, 1, none⟩) (by simp)).trans (by simp)
    have e0 := World.cell?_setCell_same w1 ⟨w.heap.size + 1, 0, none⟩ (.int .i64 0) f3
    have e1 := World.cell?_setCell_same (w1.setCell ⟨w.heap.size + 1, 0, none⟩ (.int .i64 0)) ⟨w.heap.size + 1, 1, none⟩ (.slice none 0 0) (keep_off (by decide) f4)
    go_wp2_with fail
    refine bodyPost_ret (v := .tuple #[.agg #[.int .i64 0, .slice none 0 0], .int .i64 4]) (by simp [results, Tryz.results13, go_sem, e0, e1]) rfl ?_
    exact ⟨.agg #[.int .i64 0, .slice none 0 0], by rw [Hr.out], ⟨none, 0, 0, by rw [Hcc.out], by rw [Hcv.out]; exact PL.nil_ _, Nat.le_refl _, by omega, fun _ _ e => by cases e⟩, (hbw.setCell (by show w.heap.size ≤ w.heap.size + 1; omega) _).setCell (by show w.heap.size ≤ w.heap.size + 1; omega) _⟩
  · have Hr : Hid (nErr c l = cErr c l) := by rw [Hid, nErr, hvl]; rfl
    have Hcc : Hid (nConst c l = cConst c l) := by rw [Hid, nConst, hvl]; rfl
    have Hcv : Hid (nVars c l = cVars c l) := by rw [Hid, nVars, hvl]; rfl
    have hlen : n ≤ 8 := by have := (vld_iff.1 hvl).len; have := h.1; omega
    rw [hvl] at hv
    have Hv := Lib.hid hv; clear hv hvl
    go_enter Tryz.func13, Tryz.ntmps13
    go_wp2_with fail
    refine Hv.out.mono ?_
    rintro e w1 ⟨rfl, hb1⟩
    have hbb : Below (w.heap.size + 2) ((w.alloc (.cells #[.int .i64 c, .slice A n cap] 24)).alloc (.cells #[.int .i64 0, .slice none 0 0] 24)) w1 := hb1.mono (by simp)
    obtain ⟨⟨f1, f2, f3, f4⟩, hsz, hbw⟩ := box2 hbb
    go_wp2_with fail
    refine (canonical_any c A n cap l _ (h.lift hbw) (by omega)).mono ?_
    rintro e w2 ⟨v, rfl, ⟨A2, m2, c2, rfl, hP2, hm2, hc2, hA2⟩, hb2⟩
    clear f1 f2 f3 f4
    have hbc : Below (w.heap.size + 2) ((w.alloc (.cells #[.int .i64 c, .slice A n cap] 24)).alloc (.cells #[.int .i64 0, .slice none 0 0] 24)) w2 := hbb.trans (hb2.mono hsz)
    obtain ⟨⟨f1, f2, f3, f4⟩, hsz2, hbw2⟩ := box2 hbc
    have f5 : w2.frozen? ⟨w.heap.size + 1, 0, none⟩ = false := (hbc.frozen (p := ⟨w.heap.size + 1, 0, none⟩) (by simp)).trans (by simp)
    have f6 : w2.frozen? ⟨w.heap.size + 1, 1, none⟩ = false := (hbc.frozen (p := ⟨w.heap.size + 1, 1, none⟩) (by simp)).trans (by simp)
    have e0 := World.cell?_setCell_same w2 ⟨w.heap.size + 1, 0, none⟩ (.int .i64 (cConst c l)) f3
    have e1 := World.cell?_setCell_same (w2.setCell ⟨w.heap.size + 1, 0, none⟩ (.int .i64 (cConst c l))) ⟨w.heap.size + 1, 1, none⟩ (.slice A2 m2 c2) (keep_off (by decide) f4)
    go_wp2_with fail
    refine bodyPost_ret (v := .tuple #[.agg #[.int .i64 (cConst c l), .slice A2 m2 c2], .int .i64 (cErr c l)]) (by simp [results, Tryz.results13, go_sem, e0, e1]) rfl ?_
    refine ⟨.agg #[.int .i64 (cConst c l), .slice A2 m2 c2], by rw [Hr.out], ⟨A2, m2, c2, by rw [Hcc.out], ?_, hm2, hc2, fun b off e => by have := hA2 b off e; omega⟩, (hbw2.setCell (by show w.heap.size ≤ w.heap.size + 1; omega) _).setCell (by show w.heap.size ≤ w.heap.size + 1; omega) _⟩
    rw [Hcv.out]
    exact hP2.set2 _ _ (fun b off e => by have := hA2 b off e; omega) (by simp)
end Go.Proofs.YtgbbmcfhakliiaaGreatDoor
