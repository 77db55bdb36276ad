/-
  TopRing whole, and what a number of 16 or 8 bits that came in gives the walk.
-/
import Derived.Test.YtapajkfnpkekdaaTRinL
import Derived.Test.YtapajkfnpkekdaaGOpen
import Derived.Deep.Strs
namespace Go.Proofs.Ytapajkfnpkekdaa
open Go Go.ChangeShapes Go.WideShapes Go.ChangeAt Go.RowKit Go.Joins Go.Deep

theorem rwf16 {x : Int} (h : (Lit.int .u16 x).wf = true) : 0 ≤ x ∧ x < 65536 := by
  have e1 : IntKind.u16.min = 0 := by decide
  have e2 : IntKind.u16.max = 65535 := by decide
  simp only [Lit.wf, Bool.and_eq_true, decide_eq_true_eq, e1, e2] at h
  omega
theorem rwf8 {x : Int} (h : (Lit.int .u8 x).wf = true) : 0 ≤ x ∧ x < 256 := by
  have e1 : IntKind.u8.min = 0 := by decide
  have e2 : IntKind.u8.max = 255 := by decide
  simp only [Lit.wf, Bool.and_eq_true, decide_eq_true_eq, e1, e2] at h
  omega
set_option maxRecDepth 100000 in
theorem ropen_u16 {H : Type} {enc : TypeId × Value → H} {W : World} {base : Nat} {r : Reach} {v : Value} {d : DataW H} {p : List MemPlace} (hv : Value.okWide Try.prog W r base 22 v) (h : DataW.Trod enc Try.prog W 0 (fun _ => true) true 22 v d p) :
    ∃ x : Int, v = .int .u16 x ∧ 0 ≤ x ∧ x < 65536 := by
  obtain ⟨x, rfl⟩ := okWide_int Try.underlying22 hv
  obtain ⟨fuel, hf⟩ := h
  have hf' : DataW.trod enc Try.prog W 0 (fun _ => true) true fuel 22 [.int .u16 x] = some (d, p) := hf
  obtain ⟨y, hx, _, hw⟩ := DataW.trod_int Try.underlying22 hf'
  simp at hx
  subst hx
  exact ⟨x, rfl, rwf16 hw⟩
set_option maxRecDepth 100000 in
theorem ropen_u8 {H : Type} {enc : TypeId × Value → H} {W : World} {base : Nat} {r : Reach} {v : Value} {d : DataW H} {p : List MemPlace} (hv : Value.okWide Try.prog W r base 5 v) (h : DataW.Trod enc Try.prog W 0 (fun _ => true) true 5 v d p) :
    ∃ x : Int, v = .int .u8 x ∧ 0 ≤ x ∧ x < 256 := by
  obtain ⟨x, rfl⟩ := okWide_int Try.underlying5 hv
  obtain ⟨fuel, hf⟩ := h
  have hf' : DataW.trod enc Try.prog W 0 (fun _ => true) true fuel 5 [.int .u8 x] = some (d, p) := hf
  obtain ⟨y, hx, _, hw⟩ := DataW.trod_int Try.underlying5 hf'
  simp at hx
  subst hx
  exact ⟨x, rfl, rwf8 hw⟩

set_option maxRecDepth 100000 in
theorem topR_any (v a s m : Int) (w : World) (hv : 0 ≤ v ∧ v < 65536) (ha : 0 ≤ a ∧ a < 65536) (hs : 0 ≤ s ∧ s < 65536) (hm : 0 ≤ m ∧ m < 256) :
    Calls Try.prog 3 #[.int .u16 v, .int .u16 a, .int .u16 s, .int .u8 m] w fun e w' => e = .returned (.bool true) ∧ Below w.heap.size w w' := by
  have HT := Lib.hid (topRing_any v a s m w hv ha hs hm)
  go_enter Try.func3, Try.ntmps3
  go_wp2_with fail
  with_reducible refine HT.out.mono ?_
  rintro e w1 ⟨rfl, hb1⟩
  go_wp2_with fail
  refine (awake02_any w1).mono ?_
  rintro e w2 ⟨rfl, hb2⟩
  go_wp2_with fail
  go_ret
  exact ⟨rfl, hb1.trans (hb2.mono hb1.size)⟩
end Go.Proofs.Ytapajkfnpkekdaa
