/-
  Two constraints that came in together; a list of constraints that is none has no room.
-/
import Derived.Test.YtkbhmkngipdkiaaGOpenC
namespace Go.Proofs.Ytkbhmkngipdkiaa
open Go Go.ChangeShapes Go.WideShapes Go.ChangeAt Go.RowKit Go.Joins Go.Deep

set_option maxRecDepth 100000 in
theorem cons_nil {H : Type} {enc : TypeId × Value → H} {W : World} {n cap : Nat} {d : DataW H} {p : List MemPlace}
    (h : DataW.Trod enc Try.prog W 0 (fun _ => true) true 22 (.slice none n cap) d p) : n = 0 ∧ cap = 0 := by
  obtain ⟨fuel, hf⟩ := h
  have hf' : DataW.trod enc Try.prog W 0 (fun _ => true) true fuel 22 [.slice none n cap] = some (d, p) := hf
  rcases open_slice Try.underlying22 hf' with ⟨hcs, _⟩ | ⟨a, len, cap, m, k, D, Pl, hcs, _, hlc, hcm, hm, _, hel⟩
  · simp at hcs; exact hcs
  · simp at hcs
end Go.Proofs.Ytkbhmkngipdkiaa
