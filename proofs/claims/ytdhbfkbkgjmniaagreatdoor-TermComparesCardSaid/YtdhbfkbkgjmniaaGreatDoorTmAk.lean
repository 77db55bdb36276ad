/-
  'Format' of terms of plain nodes; 'awake' of tenetlaw03.
-/
import Derived.Test.YtdhbfkbkgjmniaaGreatDoorTmWr
namespace Go.Proofs.YtdhbfkbkgjmniaaGreatDoor
open Go Go.RowKit Go.Shelf

theorem bd_new (w : World) : Bd w.heap.size [] (w.alloc (.cells #[.pointer none, .slice none 0 0] 89)) :=
  Or.inl ⟨Nat.le_refl _, .slice none 0 0, heap_alloc_new w _, World.ownsRowF_nil _ _ _ _, by simp [Value.ownBlock]⟩

set_option maxRecDepth 100000 in
set_option maxHeartbeats 4000000 in
theorem format_pl (t : Tm) (c0 c1 c2 c3 c4 : Value) (w : World) (h : TmAt w w.heap.size c0 c1 c2 c3 c4 t) (hS : Shp w) (hPw : PowT w) (hP : ∀ x, Sub x t → PlainN x) (hnd : t.nd ≤ 100000) (hrun : (runT vStp vGo ((0 : Int), true) t 0 1).2 = true) (hlen : (wrt t).length ≤ 100000) :
    Calls Tryz.prog 37 #[.agg #[c0, c1, c2, c3, c4]] w fun e w' => e = .returned (.tuple #[.string ⟨(wrt t).toArray⟩, .int .i64 0]) ∧ Below w.heap.size w w' := by
  obtain ⟨U, nu, cu, L, nl, cl, rfl, rfl, rfl, rfl, rfl, _⟩ := h.inv
  have hbx : Below w.heap.size w (w.alloc (.cells #[.int .i64 t.op, .int .i64 t.n, .string t.s, .slice U nu cu, .slice L nl cl] 25)) := (Below.refl _ _).alloc (Nat.le_refl _) _
  have hk0 := heap_alloc_new w (.cells #[.int .i64 t.op, .int .i64 t.n, .string t.s, .slice U nu cu, .slice L nl cl] 25)
  have X := Lib.hid (And.intro hbx hk0)
  have H := Lib.hid h
  clear hbx hk0 h
  go_enter Tryz.func37, Tryz.ntmps37
  go_upto_region 1 with fail
  generalize w.alloc (.cells #[.int .i64 t.op, .int .i64 t.n, .string t.s, .slice U nu cu, .slice L nl cl] 25) = W1 at X ⊢
  obtain ⟨hb1, k1⟩ := X.out
  clear X
  have hT1 := H.out.lift hb1
  have hS1 := hS.lift hb1
  have hP1 : PowT W1 := hPw.below hb1 (.inl (Nat.le_refl _))
  have HV := Lib.hid (validPl_any t _ _ _ _ _ W1 hT1 hS1 hP hnd hrun)
  have z0 : W1.cell? ⟨w.heap.size, 0, none⟩ = some (.int .i64 t.op) := (cell_heap k1).trans rfl
  have z1 : W1.cell? ⟨w.heap.size, 1, none⟩ = some (.int .i64 t.n) := (cell_heap k1).trans rfl
  have z2 : W1.cell? ⟨w.heap.size, 2, none⟩ = some (.string t.s) := (cell_heap k1).trans rfl
  have z3 : W1.cell? ⟨w.heap.size, 3, none⟩ = some (.slice U nu cu) := (cell_heap k1).trans rfl
  have z4 : W1.cell? ⟨w.heap.size, 4, none⟩ = some (.slice L nl cl) := (cell_heap k1).trans rfl
  have hl1 := (Array.getElem?_eq_some_iff.1 k1).1
  go_wp2_with fail
  refine HV.out.mono ?_
  clear HV z0 z1 z2 z3 z4
  rintro e W2 ⟨rfl, hb2⟩
  have k2 := (hb2.block _ hl1).trans k1
  have hT2 := hT1.lift hb2
  have hS2 := hS1.lift hb2
  have hP2 : PowT W2 := hP1.below hb2 (.inl (Nat.le_refl _))
  have hl2 := Nat.lt_of_lt_of_le hl1 hb2.size
  have hbw2 : Below w.heap.size w W2 := hb1.trans (hb2.mono (Nat.le_of_lt hl1))
  have hb3 : Below W2.heap.size W2 (W2.alloc (.cells #[.pointer none, .slice none 0 0] 89)) := (Below.refl _ _).alloc (Nat.le_refl _) _
  have X := Lib.hid (And.intro hb3 (bd_new W2))
  clear k1 hT1 hS1 hP1 hb1 hb2 hb3
  go_upto_region 4 with fail
  generalize W2.alloc (.cells #[.pointer none, .slice none 0 0] 89) = W3 at X ⊢
  obtain ⟨hb3, hbd⟩ := X.out
  clear X
  have k3 := (hb3.block _ hl2).trans k2
  have z0 : W3.cell? ⟨w.heap.size, 0, none⟩ = some (.int .i64 t.op) := (cell_heap k3).trans rfl
  have z1 : W3.cell? ⟨w.heap.size, 1, none⟩ = some (.int .i64 t.n) := (cell_heap k3).trans rfl
  have z2 : W3.cell? ⟨w.heap.size, 2, none⟩ = some (.string t.s) := (cell_heap k3).trans rfl
  have z3 : W3.cell? ⟨w.heap.size, 3, none⟩ = some (.slice U nu cu) := (cell_heap k3).trans rfl
  have z4 : W3.cell? ⟨w.heap.size, 4, none⟩ = some (.slice L nl cl) := (cell_heap k3).trans rfl
  have HW := Lib.hid (write_pl W2.heap.size hS2.1 hP2.lt t [] _ _ _ _ _ W3 (hT2.stay hb3) hbd (hS2.lift hb3) (hP2.below hb3 (.inl (Nat.le_refl _))) hP (by simpa using hlen))
  clear k2 k3 hT2 hS2 hP2
  go_wp2_with fail
  refine HW.out.mono ?_
  clear HW z0 z1 z2 z3 z4
  rintro e W4 ⟨rfl, hw4⟩
  have HS := Lib.hid (str_any W2.heap.size _ W4 hw4.bd (Nat.le_of_lt hw4.bd.lt))
  go_wp2_with fail
  refine HS.out.mono ?_
  rintro e W5 ⟨rfl, hb5⟩
  go_wp2_with fail
  go_ret2
  exact ⟨by simp, hbw2.trans ((hb3.trans (hw4.below.trans hb5)).mono (Nat.le_of_lt hl2))⟩

def tUnit : Tm := .mk 12 0 ⟨#[]⟩ [] []
def tVar0 : Tm := .mk 1 0 ⟨#[]⟩ [] []
/-- the identity on the unit -/
def tId : Tm := .mk 6 0 ⟨#[]⟩ [] [tUnit, tVar0]
theorem tId_plain : ∀ x, Sub x tId → PlainN x := by
  have hu : PlainN tUnit := ⟨rfl, rfl, 12, _, rfl, rfl, by decide, by decide, by decide, rfl, rfl, by decide, rfl⟩
  have hv : PlainN tVar0 := ⟨rfl, rfl, 1, _, rfl, rfl, by decide, by decide, by decide, rfl, rfl, by decide, rfl⟩
  have hi : PlainN tId := ⟨rfl, rfl, 6, _, rfl, rfl, by decide, by decide, by decide, rfl, rfl, by decide, rfl⟩
  intro x hx
  cases hx with
  | refl => exact hi
  | @part _ y _ j hj hs =>
    have : y = tUnit ∨ y = tVar0 := by
      match j, hj with
      | 0, hj => exact .inl (Option.some.inj hj).symm
      | 1, hj => exact .inr (Option.some.inj hj).symm
      | j + 2, hj => simp [tId, Tm.l] at hj
    rcases this with rfl | rfl
    · cases hs with
      | refl => exact hu
      | part hj _ => simp [tUnit, Tm.l] at hj
    · cases hs with
      | refl => exact hv
      | part hj _ => simp [tVar0, Tm.l] at hj
theorem tId_run : (runT vStp vGo ((0 : Int), true) tId 0 1).2 = true := by decide +kernel
theorem tId_text : wrt tId = [40, 108, 97, 109, 32, 48, 32, 117, 110, 105, 116, 32, 35, 48, 41] := by decide +kernel
theorem lv_nil (w : World) (B : Nat) : LvL w B none 0 [] := ⟨rfl, fun h => absurd h (by omega)⟩
theorem tm_nil (w : World) (B : Nat) : TmL w B none 0 [] := ⟨rfl, fun h => absurd h (by omega)⟩
theorem tm_leaf (w : World) (B : Nat) (o : Int) : TmAt w B (.int .i64 o) (.int .i64 0) (.string ⟨#[]⟩) (.slice none 0 0) (.slice none 0 0) (.mk o 0 ⟨#[]⟩ [] []) :=
  TmAt.of_list (lv_nil w B) (Nat.le_refl _) (Nat.zero_le _) (tm_nil w B) (Nat.le_refl _) (Nat.zero_le _)

set_option maxRecDepth 100000 in
set_option maxHeartbeats 4000000 in
theorem awake_any (w : World) (hS : Shp w) (hPw : PowT w) :
    Calls Tryz.prog 21 #[] w fun e w' => e = .returned (.bool true) ∧ Below w.heap.size w w' := by
  have B1 := ((Below.refl w.heap.size w).alloc (Nat.le_refl _) (.cells #[.int .i64 12, .int .i64 0, .string ⟨#[]⟩, .slice none 0 0, .slice none 0 0, .int .i64 1, .int .i64 0, .string ⟨#[]⟩, .slice none 0 0, .slice none 0 0] 25)).alloc (by simp) (.cells #[.int .i64 6, .int .i64 0, .string ⟨#[]⟩, .slice none 0 0, .slice (some ⟨w.heap.size, 0, none⟩) 2 2] 25)
  have K1 := heap2 w (.cells #[.int .i64 12, .int .i64 0, .string ⟨#[]⟩, .slice none 0 0, .slice none 0 0, .int .i64 1, .int .i64 0, .string ⟨#[]⟩, .slice none 0 0, .slice none 0 0] 25) (.cells #[.int .i64 6, .int .i64 0, .string ⟨#[]⟩, .slice none 0 0, .slice (some ⟨w.heap.size, 0, none⟩) 2 2] 25)
  have X := Lib.hid (And.intro B1 K1)
  clear B1 K1
  go_enter Tryz.func21, Tryz.ntmps21
  go_upto_region 2 with fail
  generalize (w.alloc (.cells #[.int .i64 12, .int .i64 0, .string ⟨#[]⟩, .slice none 0 0, .slice none 0 0, .int .i64 1, .int .i64 0, .string ⟨#[]⟩, .slice none 0 0, .slice none 0 0] 25)).alloc (.cells #[.int .i64 6, .int .i64 0, .string ⟨#[]⟩, .slice none 0 0, .slice (some ⟨w.heap.size, 0, none⟩) 2 2] 25) = W1 at X ⊢
  obtain ⟨hb1, k0, k1⟩ := X.out
  clear X
  have hT : TmAt W1 W1.heap.size (.int .i64 6) (.int .i64 0) (.string ⟨#[]⟩) (.slice none 0 0) (.slice (some ⟨w.heap.size, 0, none⟩) 2 2) tId :=
    TmAt.of_list (lv_nil _ _) (Nat.le_refl _) (Nat.zero_le _) ⟨rfl, fun _ => ⟨w.heap.size, 0, rfl, (Array.getElem?_eq_some_iff.1 k0).1, fun j t hj => by
      match j, hj with
      | 0, hj =>
        obtain rfl := (Option.some.inj hj).symm
        exact ⟨_, _, _, _, _, tm_leaf _ _ 12, (cell_heap k0).trans rfl, (cell_heap k0).trans rfl, (cell_heap k0).trans rfl, (cell_heap k0).trans rfl, (cell_heap k0).trans rfl⟩
      | 1, hj =>
        obtain rfl := (Option.some.inj hj).symm
        exact ⟨_, _, _, _, _, tm_leaf _ _ 1, (cell_heap k0).trans rfl, (cell_heap k0).trans rfl, (cell_heap k0).trans rfl, (cell_heap k0).trans rfl, (cell_heap k0).trans rfl⟩
      | j + 2, hj => simp at hj⟩⟩ (Nat.le_refl _) (by omega)
  have hS1 := hS.lift hb1
  have hP1 : PowT W1 := hPw.below hb1 (.inl (Nat.le_refl _))
  have HF := format_pl tId _ _ _ _ _ W1 hT hS1 hP1 tId_plain (by decide +kernel) tId_run (by decide +kernel)
  rw [tId_text] at HF
  have HF := Lib.hid HF
  have z0 : W1.cell? ⟨w.heap.size + 1, 0, none⟩ = some (.int .i64 6) := (cell_heap k1).trans rfl
  have z1 : W1.cell? ⟨w.heap.size + 1, 1, none⟩ = some (.int .i64 0) := (cell_heap k1).trans rfl
  have z2 : W1.cell? ⟨w.heap.size + 1, 2, none⟩ = some (.string ⟨#[]⟩) := (cell_heap k1).trans rfl
  have z3 : W1.cell? ⟨w.heap.size + 1, 3, none⟩ = some (.slice none 0 0) := (cell_heap k1).trans rfl
  have z4 : W1.cell? ⟨w.heap.size + 1, 4, none⟩ = some (.slice (some ⟨w.heap.size, 0, none⟩) 2 2) := (cell_heap k1).trans rfl
  go_wp2_with fail
  refine HF.out.mono ?_
  clear HF z0 z1 z2 z3 z4
  rintro e W2 ⟨rfl, hb2⟩
  have k2 := (hb2.block _ (Array.getElem?_eq_some_iff.1 k1).1).trans k1
  have HV := Lib.hid (validPl_any tId _ _ _ _ _ W2 (hT.lift hb2) (hS1.lift hb2) tId_plain (by decide +kernel) tId_run)
  have z0 : W2.cell? ⟨w.heap.size + 1, 0, none⟩ = some (.int .i64 6) := (cell_heap k2).trans rfl
  have z1 : W2.cell? ⟨w.heap.size + 1, 1, none⟩ = some (.int .i64 0) := (cell_heap k2).trans rfl
  have z2 : W2.cell? ⟨w.heap.size + 1, 2, none⟩ = some (.string ⟨#[]⟩) := (cell_heap k2).trans rfl
  have z3 : W2.cell? ⟨w.heap.size + 1, 3, none⟩ = some (.slice none 0 0) := (cell_heap k2).trans rfl
  have z4 : W2.cell? ⟨w.heap.size + 1, 4, none⟩ = some (.slice (some ⟨w.heap.size, 0, none⟩) 2 2) := (cell_heap k2).trans rfl
  clear hT hS1 hP1 k0 k1 k2
  go_wp2_with fail
  refine HV.out.mono ?_
  rintro e W3 ⟨rfl, hb3⟩
  go_wp2_with fail
  go_ret
  exact ⟨rfl, hb1.trans ((hb2.trans (hb3.mono hb2.size)).mono hb1.size)⟩
end Go.Proofs.YtdhbfkbkgjmniaaGreatDoor
