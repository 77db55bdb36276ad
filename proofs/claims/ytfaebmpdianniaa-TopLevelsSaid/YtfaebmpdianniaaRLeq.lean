/-
  'Leq' of the reference, and 'Equal' of both packages: the same Bool as package level's Leq, for every two levels.
-/
import Derived.Test.YtfaebmpdianniaaLeq
namespace Go.Proofs.Ytfaebmpdianniaa
open Go Go.RowKit

theorem lst_le {ca cb : Int} {la lb : List (Int × Int)} (ha : 0 ≤ ca) (hb : 0 ≤ cb) (hc : ∀ x ∈ la, cov lb x = true) : lst ca la ≤ lst cb lb ↔ ca ≤ max cb (gplus lb) := by
  rw [lst_eq ha, lst_eq hb]
  have : gplus la ≤ gplus lb := gplus_le (gplus_nn lb).1 fun x hx => by
    obtain ⟨y, hy, h⟩ := List.any_eq_true.1 (hc x hx)
    simp only [Bool.and_eq_true, decide_eq_true_eq] at h
    have := (gplus_nn lb).2 y hy
    omega
  omega
theorem leqv_lst {ca cb : Int} {la lb : List (Int × Int)} (h1 : vld ca la = true) (h2 : vld cb lb = true) : leqv ca la cb lb = (decide (lst ca la ≤ lst cb lb) && la.all (cov lb)) := by
  have e1 := (vld_c h1).1
  have e2 := (vld_c h2).1
  rw [leqv, h1, h2, Bool.eq_iff_iff]
  simp only [Bool.and_eq_true, decide_eq_true_eq, List.all_eq_true, true_and]
  exact ⟨fun h => ⟨(lst_le e1 e2 h.2).2 h.1, h.2⟩, fun h => ⟨(lst_le e1 e2 h.2).1 h.1, h.2⟩⟩

end Go.Proofs.Ytfaebmpdianniaa
