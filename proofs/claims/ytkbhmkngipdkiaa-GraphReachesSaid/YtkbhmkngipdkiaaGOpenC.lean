/-
  A constraint that came in.
-/
import Derived.Test.YtkbhmkngipdkiaaGOpen
namespace Go.Proofs.Ytkbhmkngipdkiaa
open Go Go.ChangeShapes Go.WideShapes Go.ChangeAt Go.RowKit Go.Joins Go.Deep

set_option maxRecDepth 100000 in
/-- four cells that are a constraint -/
theorem trod_con {H : Type} {enc : TypeId × Value → H} {W : World} {fuel : Nat} {u0 u1 u2 u3 : Value} {y : DataW H × List MemPlace} (h : DataW.trod enc Try.prog W 0 (fun _ => true) true fuel 46 [u0, u1, u2, u3] = some y) :
    ∃ c : LCn, u0 = .int .i64 c.1.1 ∧ u2 = .int .i64 c.2.1 ∧ LvOk W W.heap.size u1 c.1.2 ∧ LvOk W W.heap.size u3 c.2.2 := by
  obtain ⟨y0, y1, n', _, _, h0, h1⟩ := trod_struct2 Try.underlying46 h
  have h0' : DataW.trod enc Try.prog W 0 (fun _ => true) true n' 43 (List.take (Try.prog.cellsOf 43) (List.drop 0 [u0, u1, u2, u3])) = some y0 := h0
  have h1' : DataW.trod enc Try.prog W 0 (fun _ => true) true n' 43 (List.take (Try.prog.cellsOf 43) (List.drop 2 [u0, u1, u2, u3])) = some y1 := h1
  rw [cells_level] at h0' h1'
  obtain ⟨z0, l0, rfl, hl0⟩ := trod_level h0'
  obtain ⟨z1, l1, rfl, hl1⟩ := trod_level h1'
  exact ⟨((z0, l0), (z1, l1)), rfl, rfl, hl0, hl1⟩
set_option maxRecDepth 100000 in
/-- A CONSTRAINT THAT CAME IN. -/
theorem open_con {H : Type} {enc : TypeId × Value → H} {W : World} {r : Reach} {base : Nat} {v : Value} {d : DataW H} {p : List MemPlace}
    (hv : Value.okWide Try.prog W r base 46 v) (h : DataW.Trod enc Try.prog W 0 (fun _ => true) true 46 v d p) :
    ∃ (c : LCn) (A1 : Option Addr) (n1 c1 : Nat) (A2 : Option Addr) (n2 c2 : Nat), v = .agg #[.int .i64 c.1.1, .slice A1 n1 c1, .int .i64 c.2.1, .slice A2 n2 c2] ∧ PL W W.heap.size A1 n1 c.1.2 ∧ PL W W.heap.size A2 n2 c.2.2 ∧ n1 ≤ c1 ∧ c1 ≤ 9223372036854775807 ∧ n2 ≤ c2 ∧ c2 ≤ 9223372036854775807 := by
  obtain ⟨cs, rfl, hsz⟩ := okWide_struct Try.underlying46 hv
  rw [cells_lcon] at hsz
  obtain ⟨u0, u1, u2, u3, rfl⟩ := array4 hsz
  obtain ⟨fuel, hf⟩ := h
  obtain ⟨c, rfl, rfl, ⟨A1, n1, c1, rfl, p1, q1, r1⟩, ⟨A2, n2, c2, rfl, p2, q2, r2⟩⟩ := trod_con hf
  exact ⟨c, A1, n1, c1, A2, n2, c2, rfl, p1, p2, q1, r1, q2, r2⟩
end Go.Proofs.Ytkbhmkngipdkiaa
