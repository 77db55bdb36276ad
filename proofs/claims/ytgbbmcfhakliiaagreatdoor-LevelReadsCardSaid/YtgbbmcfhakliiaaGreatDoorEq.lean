/-
  'Equal' of both packages, and the statements' test on sizes.
-/
import Derived.Test.YtgbbmcfhakliiaaGreatDoorRLeq
namespace Go.Proofs.YtgbbmcfhakliiaaGreatDoor
open Go Go.RowKit

/-- how long the parts of a list of levels are: a row of levels in memory -/
def LRow (w : World) (B : Nat) (A : Option Addr) (n : Nat) (ls : List Nat) : Prop :=
  ls.length = n ∧ (0 < n → ∃ b off, A = some ⟨b, off, none⟩ ∧ b < B ∧ ∀ j k, ls[j]? = some k → ∃ A' c', w.cell? ⟨b, off + j * 2 + 1, none⟩ = some (.slice A' k c'))
/-- too many levels, or one of them of too many parts -/
def wideB (ls : List Nat) : Bool := decide (40 < ls.length) || (ls.take 40).any fun k => decide (40 < k)

set_option maxRecDepth 100000 in
set_option maxHeartbeats 2000000 in
theorem wide_any (A : Option Addr) (n c : Nat) (ls : List Nat) (w : World) (h : LRow w w.heap.size A n ls) (hn : n ≤ 9223372036854775807) (hk : ∀ k ∈ ls, k ≤ 9223372036854775807) :
    Calls Tryz.prog 5 #[.slice A n c] w fun e w' => e = .returned (.bool (wideB ls)) ∧ w = w' := by
  go_enter Tryz.func5, Tryz.ntmps5
  go_wp2
  go_loop [3] (fun i => ∃ k : Nat, k ≤ n ∧ k ≤ 40 ∧ i = .int .i64 k ∧ (∀ j ∈ ls.take k, j ≤ 40)) (fun i => n - (intOf i).toNat)
  case atStart => exact ⟨0, Nat.zero_le _, by omega, rfl, by simp⟩
  case round =>
    obtain ⟨k, hkn, hk40, rfl, hall⟩ := hrel
    have Hall := Lib.hid hall; clear hall
    by_cases hlt : k < n
    · obtain ⟨b, off, rfl, hbl, hcl⟩ := h.2 (by omega)
      have hx : ls[k]? = some (ls[k]'(by have := h.1; omega)) := List.getElem?_eq_getElem _
      generalize ls[k]'(by have := h.1; omega) = m at hx
      obtain ⟨A', c', hcell⟩ := hcl k m hx
      have hm := hk m (List.mem_of_getElem? hx)
      clear hcl
      by_cases h4 : k = 40
      · subst h4
        have Hf : Hid (wideB ls = true) := by rw [Hid, wideB, decide_eq_true (by have := h.1; omega)]; rfl
        go_wp2
        go_ret
        exact ⟨ret_bool Hf.out.symm, rfl⟩
      · have hq : ((k : Int) == 40) = false := by simp; omega
        by_cases hmm : 40 < m
        · have Hf : Hid (wideB ls = true) := by
            rw [Hid, wideB, Bool.or_eq_true]
            refine .inr (List.any_eq_true.2 ⟨m, ?_, by simpa using hmm⟩)
            rw [List.mem_take_iff_getElem]
            obtain ⟨q, e⟩ := List.getElem?_eq_some_iff.1 hx
            exact ⟨k, by omega, e⟩
          go_wp2
          go_ret
          exact ⟨ret_bool Hf.out.symm, rfl⟩
        · go_wp2
          go_round
          case rel =>
            refine ⟨k + 1, by omega, by omega, by go_num, fun j hj => ?_⟩
            rw [take_snoc hx] at hj
            rcases List.mem_append.1 hj with hj | hj
            · exact Hall.out j hj
            · rw [List.mem_singleton.1 hj]; omega
          case measure => simp [intOf]; omega
    · have hkn' : k = n := by omega
      have Hf : Hid (wideB ls = false) := by
        have hl := h.1
        rw [Hid, wideB, decide_eq_false (by omega), Bool.false_or, List.any_eq_false]
        intro j hj
        have := Hall.out j (by rw [List.take_of_length_le (by omega)]; exact List.mem_of_mem_take hj)
        simpa using this
      clear hkn'
      go_wp2
      go_ret
      exact ⟨ret_bool Hf.out.symm, rfl⟩
end Go.Proofs.YtgbbmcfhakliiaaGreatDoor
