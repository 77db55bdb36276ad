/-
  The statements' own small input: the greatest of 3 and u0 + 2 has its text.
-/
import Derived.Test.YtgbbmcfhakliiaaGreatDoorFormat
namespace Go.Proofs.YtgbbmcfhakliiaaGreatDoor
open Go Go.RowKit Go.Shelf

theorem itoa_digit (n : Nat) (h : n < 10) : Lib.itoa (n : Int) = [UInt8.ofNat (48 + n)] := by
  rw [Lib.itoa, if_neg (by omega), Int.toNat_natCast, Lib.decDigits, dif_pos h]
theorem awake_vld : vld 3 [(0, 2)] = true := by
  refine vld_of ⟨by decide, by decide, by decide, fun i x hi hx => ?_⟩
  have : i = 0 := by simp at hi; exact hi
  subst this
  simp at hx; subst hx
  exact ⟨by decide, by decide, rfl⟩
theorem awake_err : nErr 3 [(0, 2)] = 0 := by
  rw [nErr, if_pos awake_vld, cErr, if_pos]
  exact ⟨by decide, by decide⟩
theorem awake_text : fText 3 [(0, 2)] = [109, 97, 120, 40, 117, 48, 43, 50, 44, 51, 41] := by
  have h1 : nConst 3 [(0, 2)] = 3 := by
    rw [nConst, if_pos awake_vld, cConst, if_pos (by have := awake_err; rw [nErr, if_pos awake_vld] at this; exact this), if_neg (by decide)]
  have h2 : nVars 3 [(0, 2)] = [(0, 2)] := by
    rw [nVars, if_pos awake_vld, cVars, if_pos (by have := awake_err; rw [nErr, if_pos awake_vld] at this; exact this)]
    rfl
  have i0 : Lib.itoa 0 = [48] := itoa_digit 0 (by omega)
  have i2 : Lib.itoa 2 = [50] := itoa_digit 2 (by omega)
  have i3 : Lib.itoa 3 = [51] := itoa_digit 3 (by omega)
  rw [fText, if_pos awake_err, h1, h2]
  have e : partsB 3 [(0, 2)] = [[117, 48, 43, 50], [51]] := by
    rw [partsB, if_neg (by simp)]
    simp [partB, i0, i2, i3]
  rw [e]
  rfl

set_option maxRecDepth 100000 in
set_option maxHeartbeats 2000000 in
theorem awake_any (w : World) (hP : Pow w) :
    Calls Tryz.prog 8 #[] w fun e w' => e = .returned (.bool true) ∧ Below w.heap.size w w' := by
  have hb0 : Below w.heap.size w (w.alloc (.cells #[.int .i64 0, .int .i64 2] 45)) := (Below.refl _ _).alloc (Nat.le_refl _) _
  have hPL : PL (w.alloc (.cells #[.int .i64 0, .int .i64 2] 45)) (w.alloc (.cells #[.int .i64 0, .int .i64 2] 45)).heap.size (some ⟨w.heap.size, 0, none⟩) 1 [(0, 2)] := by
    refine ⟨rfl, fun _ => ⟨w.heap.size, 0, rfl, by simp, fun j x hx => ?_⟩⟩
    have : j = 0 := by have := (List.getElem?_eq_some_iff.1 hx).1; simp at this; exact this
    subst this
    simp at hx; subst hx
    exact ⟨by simp, by simp⟩
  have hF := format_any 3 (some ⟨w.heap.size, 0, none⟩) 1 1 [(0, 2)] _ hPL (Nat.le_refl _) (by omega) (hP.below hb0 (.inl (Nat.le_refl _)))
  rw [awake_err, awake_text] at hF
  have Hv := fun W : World => valid_any 0 none 0 0 [] W (PL.nil_ none) (Nat.le_refl _) (by omega)
  rw [vld_of ⟨by decide, by decide, by decide, okUp_zero []⟩] at Hv
  go_enter Tryz.func8, Tryz.ntmps8
  go_wp2_with fail
  refine hF.mono ?_
  rintro e w1 ⟨rfl, hb1⟩
  have ht : (bs [109, 97, 120, 40, 117, 48, 43, 50, 44, 51, 41]).toList = [109, 97, 120, 40, 117, 48, 43, 50, 44, 51, 41] := by decide +kernel
  go_wp2_with fail
  refine (Hv _).mono ?_
  rintro e w2 ⟨rfl, hb2⟩
  have hb02 := hb0.trans (hb1.mono hb0.size)
  go_wp2_with fail
  go_ret
  exact ⟨rfl, hb02.trans (hb2.mono hb02.size)⟩
end Go.Proofs.YtgbbmcfhakliiaaGreatDoor
