/-
  Lists of levels as they lie in memory; 'value' of package level: the level that is put in for a variable.
-/
import Derived.Test.YtpahgbnfgnmlaaaDoorSubM
namespace Go.Proofs.YtpahgbnfgnmlaaaDoor
open Go Go.RowKit

/-- The slice value reads, below block B of world w, as the list of levels ls. -/
def LvL (w : World) (B : Nat) (A : Option Addr) (n : Nat) (ls : List (Int × List (Int × Int))) : Prop :=
  ls.length = n ∧ (0 < n → ∃ b off, A = some ⟨b, off, none⟩ ∧ b < B ∧ ∀ j x, ls[j]? = some x → w.cell? ⟨b, off + j * 2, none⟩ = some (.int .i64 x.1) ∧
    ∃ A' m cap, w.cell? ⟨b, off + j * 2 + 1, none⟩ = some (.slice A' m cap) ∧ PL w B A' m x.2 ∧ m ≤ cap ∧ cap ≤ 9223372036854775807 ∧ (A' = none → cap = 0))
section
variable {w w' : World} {B B' n : Nat} {A : Option Addr} {ls : List (Int × List (Int × Int))}
theorem LvL.at_ {k : Nat} (h : LvL w B A n ls) (hk : k < n) : ∃ b off x A' m cap, A = some ⟨b, off, none⟩ ∧ b < B ∧ ls[k]? = some x ∧ w.cell? ⟨b, off + k * 2, none⟩ = some (.int .i64 x.1) ∧ w.cell? ⟨b, off + k * 2 + 1, none⟩ = some (.slice A' m cap) ∧ PL w B A' m x.2 ∧ m ≤ cap ∧ cap ≤ 9223372036854775807 ∧ (A' = none → cap = 0) := by
  obtain ⟨b, off, e, hb, hc⟩ := h.2 (by omega)
  have hl : k < ls.length := by have := h.1; omega
  obtain ⟨h1, A', m, cap, h2⟩ := hc k _ (List.getElem?_eq_getElem hl)
  exact ⟨b, off, ls[k], A', m, cap, e, hb, List.getElem?_eq_getElem hl, h1, h2⟩
theorem LvL.below (h : LvL w B A n ls) (hb : Below B w w') : LvL w' B A n ls :=
  ⟨h.1, fun hn => by
    obtain ⟨b, off, e, hlt, hc⟩ := h.2 hn
    refine ⟨b, off, e, hlt, fun j x hx => ?_⟩
    obtain ⟨h1, A', m, cap, h2, h3, h4⟩ := hc j x hx
    exact ⟨(hb.cell (p := ⟨b, off + j * 2, none⟩) hlt).trans h1, A', m, cap, (hb.cell (p := ⟨b, off + j * 2 + 1, none⟩) hlt).trans h2, h3.below hb, h4⟩⟩
theorem LvL.more (h : LvL w B A n ls) (hB : B ≤ B') : LvL w B' A n ls :=
  ⟨h.1, fun hn => by
    obtain ⟨b, off, e, hlt, hc⟩ := h.2 hn
    refine ⟨b, off, e, by omega, fun j x hx => ?_⟩
    obtain ⟨h1, A', m, cap, h2, h3, h4⟩ := hc j x hx
    exact ⟨h1, A', m, cap, h2, h3.more hB, h4⟩⟩
end
theorem LvL.lift {w wi : World} {n : Nat} {A : Option Addr} {ls : List (Int × List (Int × Int))} (h : LvL w w.heap.size A n ls) (hb : Below w.heap.size w wi) : LvL wi wi.heap.size A n ls :=
  (h.below hb).more hb.size

set_option maxRecDepth 100000 in
set_option maxHeartbeats 4000000 in
theorem value_any (v : Int) (A : Option Addr) (n cap : Nat) (ls : List (Int × List (Int × Int))) (w : World) (h : LvL w w.heap.size A n ls) (_hn : n ≤ 1000000) (h0 : 0 ≤ v) (h1 : v ≤ 1199) :
    Calls Tryd.prog 48 #[.int .i64 v, .slice A n cap] w fun e w' => ∃ A' m c', e = .returned (.agg #[.int .i64 (sVal ls v).1, .slice A' m c']) ∧ PL w' w'.heap.size A' m (sVal ls v).2 ∧ m ≤ c' ∧ c' ≤ 9223372036854775807 ∧ (A' = none → c' = 0) ∧ Below w.heap.size w w' := by
  obtain ⟨k, rfl⟩ : ∃ k : Nat, v = k := ⟨v.toNat, by omega⟩
  have hb1 : Below w.heap.size w (w.alloc (.cells #[.int .i64 0, .slice none 0 0] 24)) := (Below.refl _ _).alloc (Nat.le_refl _) _
  by_cases hk : k < n
  · obtain ⟨b, off, x, A', m, c', rfl, hbl, hx, c0, c1, hP, hm, hc, hN⟩ := h.at_ hk
    rw [sVal_some hx]
    have hPl := hP
    have hne : b ≠ w.heap.size := by omega
    go_enter Tryd.func48, Tryd.ntmps48
    go_wp2_with fail
    refine bodyPost_ret (v := .agg #[.int .i64 x.1, .slice A' m c']) (by simp [results, Tryd.results48, go_sem]) rfl ?_
    have hbf : Below w.heap.size w (w.alloc (.cells #[.int .i64 x.1, .slice A' m c'] 24)) := (Below.refl _ _).alloc (Nat.le_refl _) _
    exact ⟨A', m, c', rfl, hP.lift hbf, hm, hc, hN, hbf⟩
  · rw [sVal_none (by have := h.1; omega)]
    go_enter Tryd.func48, Tryd.ntmps48
    go_wp2_with fail
    refine bodyPost_ret (v := .agg #[.int .i64 0, .slice (some ⟨w.heap.size + 1, 0, none⟩) 1 1]) (by simp [results, Tryd.results48, go_sem]) rfl ?_
    have hbf : Below w.heap.size w ((w.alloc (.cells #[.int .i64 0, .slice (some ⟨w.heap.size + 1, 0, none⟩) 1 1] 24)).alloc (.cells #[.int .i64 k, .int .i64 0] 50)) := ((Below.refl _ _).alloc (Nat.le_refl _) _).alloc (by simp) _
    refine ⟨_, 1, 1, rfl, ⟨rfl, fun _ => ⟨w.heap.size + 1, 0, rfl, by simp, fun j y hy => ?_⟩⟩, Nat.le_refl _, by omega, (fun h => by cases h), hbf⟩
    match j, hy with
    | 0, hy =>
      obtain rfl : ((k : Int), (0 : Int)) = y := by simpa using hy
      exact ⟨by simp, by simp⟩
    | j + 1, hy => simp at hy
end Go.Proofs.YtpahgbnfgnmlaaaDoor
