/-
  The law GraphChains.
-/
import Derived.Test.YtfaebmpdianniaaGChainW
namespace Go.Proofs.Ytfaebmpdianniaa
open Go Go.RowKit

theorem boxE {w wx : World} {f t : Int} (h : Below (w.heap.size + 1) (w.alloc (.cells #[.int .i64 f, .int .i64 t] 32)) wx) :
    wx.cell? ⟨w.heap.size, 0, none⟩ = some (.int .i64 f) ∧ wx.cell? ⟨w.heap.size, 1, none⟩ = some (.int .i64 t) ∧ Below w.heap.size w wx ∧ w.heap.size + 1 ≤ wx.heap.size := by
  have hs := h.size
  simp at hs
  exact ⟨(h.cell (p := ⟨w.heap.size, 0, none⟩) (by simp)).trans (by simp), (h.cell (p := ⟨w.heap.size, 1, none⟩) (by simp)).trans (by simp), back0 h, hs⟩
theorem made_zeros (n : Nat) : (madeCells #[Value.int .i64 0] n).toList = int1 (List.replicate n 0) := by
  refine List.ext_getElem? fun j => ?_
  by_cases hj : j < n
  · simp [madeCells, int1, hj, Nat.mod_one]
  · rw [List.getElem?_eq_none (by simp [madeCells]; omega), List.getElem?_eq_none (by simp [int1]; omega)]

theorem kA_of (wc : World) (x d : Int) : ∀ W, Below wc.heap.size wc W → Calls Try.prog 14 #[.int .i64 x, .int .i64 d] W fun e w' => ∃ q, e = .returned (.agg #[.int .i64 0, .slice (some ⟨q, 0, none⟩) 1 1]) ∧ w'.heap[q]? = some (.cells #[.int .i64 x, .int .i64 d] 80) ∧ Below wc.heap.size wc w' := fun W hW =>
  (at_heap x d W).mono fun _ _ ⟨q, h1, h2, h3⟩ => ⟨q, h1, h2, hW.trans (h3.mono hW.size)⟩
theorem kB_of (wc : World) (x d y z : Int) : ∀ (W : World) (q1 : Nat), Below wc.heap.size wc W → W.heap[q1]? = some (.cells #[.int .i64 x, .int .i64 d] 80) → Calls Try.prog 14 #[.int .i64 y, .int .i64 z] W fun e w' => ∃ q, e = .returned (.agg #[.int .i64 0, .slice (some ⟨q, 0, none⟩) 1 1]) ∧ w'.heap[q1]? = some (.cells #[.int .i64 x, .int .i64 d] 80) ∧ w'.heap[q]? = some (.cells #[.int .i64 y, .int .i64 z] 80) ∧ Below wc.heap.size wc w' := fun W _ hW hq =>
  (at_heap y z W).mono fun _ _ ⟨q, h1, h2, h3⟩ => ⟨q, h1, KV.below h3 _ _ hq, h2, hW.trans (h3.mono hW.size)⟩
theorem kF_of {wc : World} {A' : Option Addr} {j c' n : Nat} {cs : List LCn} (h : CL wc wc.heap.size A' j cs) (hj : j ≤ 100000) {x d y : Int} {r : Bool} (hf : folV (n : Int) cs (lnk x d y) = r ∧ folC (n : Int) cs (lnk x d y) = 0) : ∀ (W : World) (q1 q2 : Nat), Below wc.heap.size wc W → W.heap[q1]? = some (.cells #[.int .i64 x, .int .i64 d] 80) → W.heap[q2]? = some (.cells #[.int .i64 y, .int .i64 0] 80) →
    Calls Try.prog 13 #[.int .i64 n, .slice A' j c', .agg #[.int .i64 0, .slice (some ⟨q1, 0, none⟩) 1 1, .int .i64 0, .slice (some ⟨q2, 0, none⟩) 1 1]] W fun e w' => e = .returned (.tuple #[.bool r, .int .i64 0]) ∧ Below wc.heap.size wc w' := fun W q1 q2 hW h1 h2 => by
  have hF := follows_any n A' j c' cs (lnk x d y) (some ⟨q1, 0, none⟩) 1 1 (some ⟨q2, 0, none⟩) 1 1 W (h.lift hW) hj (pl_heap h1) (pl_heap h2) (by omega) (by omega) (by omega) (by omega)
  rw [hf.1, hf.2] at hF
  exact hF.mono fun _ _ ⟨h3, h4⟩ => ⟨h3, hW.trans (h4.mono hW.size)⟩

end Go.Proofs.Ytfaebmpdianniaa
