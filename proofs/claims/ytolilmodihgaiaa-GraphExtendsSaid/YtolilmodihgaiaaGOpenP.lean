/-
  Two constraints that came in together; a list of constraints that is none has no room.
-/
import Derived.Test.YtolilmodihgaiaaGOpenC
namespace Go.Proofs.Ytolilmodihgaiaa
open Go Go.ChangeShapes Go.WideShapes Go.ChangeAt Go.RowKit Go.Joins Go.Deep

theorem cells_pair : Try.prog.cellsOf 43 = 8 := by kernel_rfl
set_option maxRecDepth 100000 in
/-- TWO CONSTRAINTS THAT CAME IN. -/
theorem open_pair {H : Type} {enc : TypeId × Value → H} {W : World} {r : Reach} {base : Nat} {v : Value} {d : DataW H} {p : List MemPlace}
    (hv : Value.okWide Try.prog W r base 43 v) (h : DataW.Trod enc Try.prog W 0 (fun _ => true) true 43 v d p) :
    ∃ (c d : LCn) (v1 v2 v3 v4 : Value), v = .agg #[.int .i64 c.1.1, v1, .int .i64 c.2.1, v2, .int .i64 d.1.1, v3, .int .i64 d.2.1, v4] ∧ LvOk W W.heap.size v1 c.1.2 ∧ LvOk W W.heap.size v2 c.2.2 ∧ LvOk W W.heap.size v3 d.1.2 ∧ LvOk W W.heap.size v4 d.2.2 := by
  obtain ⟨cs, rfl, hsz⟩ := okWide_struct Try.underlying43 hv
  rw [cells_pair] at hsz
  obtain ⟨fuel, hf⟩ := h
  obtain ⟨l⟩ := cs
  obtain ⟨u0, u1, u2, u3, u4, u5, u6, u7, rfl⟩ : ∃ u0 u1 u2 u3 u4 u5 u6 u7, l = [u0, u1, u2, u3, u4, u5, u6, u7] := by
    match l, hsz with
    | [u0, u1, u2, u3, u4, u5, u6, u7], _ => exact ⟨u0, u1, u2, u3, u4, u5, u6, u7, rfl⟩
  obtain ⟨y0, y1, n', _, _, h0, h1⟩ := trod_struct2 Try.underlying43 hf
  have h0' : DataW.trod enc Try.prog W 0 (fun _ => true) true n' 37 (List.take (Try.prog.cellsOf 37) (List.drop 0 [u0, u1, u2, u3, u4, u5, u6, u7])) = some y0 := h0
  have h1' : DataW.trod enc Try.prog W 0 (fun _ => true) true n' 37 (List.take (Try.prog.cellsOf 37) (List.drop 4 [u0, u1, u2, u3, u4, u5, u6, u7])) = some y1 := h1
  rw [cells_lcon] at h0' h1'
  obtain ⟨c, rfl, rfl, a1, a2⟩ := trod_con h0'
  obtain ⟨d, rfl, rfl, a3, a4⟩ := trod_con h1'
  exact ⟨c, d, _, _, _, _, rfl, a1, a2, a3, a4⟩
set_option maxRecDepth 100000 in
theorem cons_nil {H : Type} {enc : TypeId × Value → H} {W : World} {n cap : Nat} {d : DataW H} {p : List MemPlace}
    (h : DataW.Trod enc Try.prog W 0 (fun _ => true) true 22 (.slice none n cap) d p) : n = 0 ∧ cap = 0 := by
  obtain ⟨fuel, hf⟩ := h
  have hf' : DataW.trod enc Try.prog W 0 (fun _ => true) true fuel 22 [.slice none n cap] = some (d, p) := hf
  rcases open_slice Try.underlying22 hf' with ⟨hcs, _⟩ | ⟨a, len, cap, m, k, D, Pl, hcs, _, hlc, hcm, hm, _, hel⟩
  · simp at hcs; exact hcs
  · simp at hcs
end Go.Proofs.Ytolilmodihgaiaa
