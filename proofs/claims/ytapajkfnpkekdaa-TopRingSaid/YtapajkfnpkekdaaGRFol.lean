/-
  'follows' and 'Follows' of the reference of package graph.
-/
import Derived.Test.YtapajkfnpkekdaaGFolM
namespace Go.Proofs.Ytapajkfnpkekdaa
open Go Go.RowKit

theorem folOk_false {v : Int} {cs : List LCn} {c : LCn} (h : folOk v cs c = false) : folV v cs c = false ∧ folC v cs c = 4 := by
  unfold folV folC; rw [h]; exact ⟨rfl, rfl⟩
theorem folOk_true {v : Int} {cs : List LCn} {c : LCn} (h : folOk v cs c = true) : folV v cs c = folB (Sat fun e => e ∈ esA v.toNat cs) (edgC v.toNat c 0) ∧ folC v cs c = 0 := by
  unfold folV folC; rw [h]; exact ⟨rfl, rfl⟩

end Go.Proofs.Ytapajkfnpkekdaa
