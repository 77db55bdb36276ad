/-
  What a list of 32-bit numbers that came in gives the walk.
-/
import Derived.Test.YtpahgbnfgnmlaaaDoorOpenI
import Derived.Test.YtpahgbnfgnmlaaaDoorArr
namespace Go.Proofs.YtpahgbnfgnmlaaaDoor
open Go Go.ChangeShapes Go.WideShapes Go.ChangeAt Go.RowKit Go.Joins Go.Deep

set_option maxRecDepth 100000 in
theorem open_uintl {H : Type} {enc : TypeId × Value → H} {W : World} {base : Nat} {r : Reach} {v : Value} {d : DataW H} {p : List MemPlace}
    (hv : Value.okWide Tryd.prog W r base 44 v) (h : DataW.Trod enc Tryd.prog W 0 (fun _ => true) true 44 v d p) :
    ∃ V m cap vals, v = .slice V m cap ∧ UL W W.heap.size V m vals ∧ m ≤ cap ∧ cap ≤ 9223372036854775807 := by
  obtain ⟨a0, m0, c0, rfl⟩ := okWide_slice Tryd.underlying44 hv
  obtain ⟨fuel, hf⟩ := h
  have hf' : DataW.trod enc Tryd.prog W 0 (fun _ => true) true fuel 44 [.slice a0 m0 c0] = some (d, p) := hf
  rcases open_ints Tryd.underlying44 Tryd.underlying45 (by kernel_rfl) hf' with ⟨hcs, _⟩ | ⟨a, len, cap, zs, hcs, _, hl, hm, hz, _, hcell, hwf⟩
  · simp at hcs
    obtain ⟨rfl, rfl, rfl⟩ := hcs
    exact ⟨none, 0, 0, [], rfl, ⟨rfl, fun h => absurd h (by omega)⟩, Nat.le_refl _, Nat.zero_le _⟩
  · simp at hcs
    obtain ⟨rfl, rfl, rfl⟩ := hcs
    simp only [if_true] at hz
    have hcap : c0 ≤ 9223372036854775807 := by unfold maxLen at hm; omega
    refine ⟨some a, m0, c0, zs.take m0, rfl, ⟨by simp; omega, fun h0 => ?_⟩, hl, hcap⟩
    have hp := hcell 0 (by omega)
    have hspot : a.spot = none := by simpa [Addr.add] using World.cell?_spot hp
    have hblk : a.block < W.heap.size := by simpa [Addr.add] using World.block_lt_of_cell? W _ hp
    obtain ⟨b, off, spot⟩ := a
    simp only at hspot hblk
    subst hspot
    refine ⟨b, off, rfl, hblk, fun j x hx => ?_⟩
    have hj : j < m0 := by
      have := (List.getElem?_eq_some_iff.1 hx).1
      simp at this
      omega
    rw [List.getElem?_take_of_lt hj] at hx
    have hc := hcell j (by omega)
    rw [add_plain] at hc
    have hw := hwf x (List.mem_of_getElem? hx)
    have hr : 0 ≤ x ∧ x ≤ 4294967295 := by
      have e1 : IntKind.u32.min = 0 := by decide
      have e2 : IntKind.u32.max = 4294967295 := by decide
      simp only [Lit.wf, Bool.and_eq_true, decide_eq_true_eq, e1, e2] at hw
      exact hw
    exact ⟨by rw [hc]; simp [List.getD, hx], hr⟩
end Go.Proofs.YtpahgbnfgnmlaaaDoor
