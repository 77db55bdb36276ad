/-
  'solution' of package graph: the numbers of the variables, counted from that of the last node.
-/
import Derived.Test.YtapajkfnpkekdaaGAdd
namespace Go.Proofs.Ytapajkfnpkekdaa
open Go Go.RowKit

def solL (n : Nat) (xs : List Int) : List Int := (List.range n).map fun v => gx xs v - gx xs n
theorem solL_len (n : Nat) (xs : List Int) : (solL n xs).length = n := by simp [solL]
theorem solL_at {n j : Nat} (xs : List Int) (h : j < n) : (solL n xs)[j]? = some (gx xs j - gx xs n) := by simp [solL, h]
theorem newI {w : World} {x : Value} {ty : TypeId} {q : Nat} (hq : q = w.heap.size) : ∀ j u, [x][j]? = some u → (w.alloc (.cells #[x] ty)).cell? ((⟨q, 0, none⟩ : Addr).add j) = some u := by
  intro j u hj
  match j, hj with
  | 0, hj => simp at hj; subst hj; simpa [Addr.add] using new1 hq
  | j + 1, hj => simp at hj
theorem newI_one {x : Int} : ∀ u ∈ [Value.int .i64 x], u.oneCell' = true := fun u hu => by rw [List.mem_singleton.1 hu]; rfl

set_option maxRecDepth 100000 in
set_option maxHeartbeats 2000000 in
theorem solution_any (S V c0 n : Nat) (xs : List Int) (w : World) (h3 : w.cell? ⟨S, 3, none⟩ = some (.slice (some ⟨V, 0, none⟩) (n + 1) c0)) (hS : S < w.heap.size) (hV : w.ownsRow 0 3 1 (.slice (some ⟨V, 0, none⟩) (n + 1) c0) (n + 1) (int1 xs)) (hn : n ≤ 1200) (hc0 : n + 1 ≤ c0 ∧ c0 ≤ maxLen)
    (h0 : ∀ v, 0 ≤ gx xs v) (hub : ∀ v, gx xs v ≤ 2000000) :
    Calls Try.prog 14 #[.pointer (some ⟨S, 0, none⟩)] w fun e w' => ∃ v, e = .returned v ∧ w'.ownsRow w.heap.size 3 1 v n (int1 (solL n xs)) ∧ Below w.heap.size w w' := by
  obtain ⟨i0, hi, hz0, hz1, hz2⟩ := info_parts infoI
  have hxl : xs.length = n + 1 := by have := hV.1; rw [int1_len] at this; omega
  have hVl := (own_lt hV).2
  have hc1 := hc0.1
  have hc2 := hc0.2
  have HSl := Lib.hid (solL_len n xs)
  have HSa := Lib.hid (fun j (hj : j < n) => solL_at xs hj)
  generalize solL n xs = sl at HSl HSa ⊢
  unfold maxLen at hc2
  have i1 : (0 : Int) ≤ (n : Int) := by omega
  have i2 : (n : Int) ≤ (c0 : Int) := by omega
  have i3 : (n : Int) < (n : Int) + 1 := by omega
  go_enter Try.func14, Try.ntmps14
  go_wp2_with fail
  go_loopw [4, 20] (fun v i wr => ∃ j : Nat, j ≤ n ∧ i = .int .i64 j ∧ ∃ (A' : Option Addr) (n' c' : Nat), v = .slice A' n' c' ∧ wr.ownsRow w.heap.size 3 1 (.slice A' n' c') (sl.take j).length (int1 (sl.take j)) ∧ Below w.heap.size w wr) (fun _ i _ => n - (intOf i).toNat)
  case atStart => exact ⟨0, Nat.zero_le _, rfl, none, 0, 0, rfl, World.ownsRow_nil _ _ _ _, Below.refl _ _⟩
  case round =>
    obtain ⟨j, hj, rfl, A', n', c', rfl, hown, hbr⟩ := hrel
    have hszr := hbr.size
    by_cases hlt : j < n
    · have v1 := (hbr.cell (p := ⟨V, j, none⟩) hVl).trans (own_cell hV (gx_some (xs := xs) (v := j) (by omega))).1
      have v2 := (hbr.cell (p := ⟨V, n, none⟩) hVl).trans (own_cell hV (gx_some (xs := xs) (v := n) (by omega))).1
      have v3 := (hbr.cell (p := ⟨S, 3, none⟩) hS).trans h3
      have b1 := h0 j
      have b2 := hub j
      have b3 := h0 n
      have b4 := hub n
      have Hst : Hid (sl.take (j + 1) = sl.take j ++ [gx xs j - gx xs n]) := take_snoc (HSa.out j hlt)
      have hql : (sl.take j).length ≤ 1200 := by rw [List.length_take]; omega
      generalize sl.take j = q at hown Hst hql
      generalize gx xs j = x at *
      generalize gx xs n = y at *
      have hownX : ∀ W, Below wr.heap.size wr W → W.ownsRow w.heap.size 3 1 (.slice A' n' c') q.length (int1 q) := fun W hW => own_below hown hW
      go_wp2_with (at_builtin; refine wpList_append_own _ rfl _ _ 33 rfl w.heap.size 3 i0 (.int .i64 0) 1 8 Try.underlying33 hi hz0 hz1 hz2 rfl (by decide) (.slice A' n' c') q.length (int1 q) rfl (hownX _ ((Below.refl _ wr).alloc (Nat.le_refl _) _)) _ 1 1 [.int .i64 (x - y)] rfl rfl (newI rfl) newI_one (by unfold maxLen; omega) (by omega) (by simp; omega) ?_)
      intro v5 w5 hown5 hgrow _
      have hown6 : w5.ownsRow w.heap.size 3 1 v5 (q ++ [x - y]).length (int1 (q ++ [x - y])) := by
        rw [List.length_append, int1_app]
        exact hown5
      have hb5 : Below w.heap.size w w5 := (hbr.alloc hszr _).grown hgrow (by simp; omega) (fun j hj => (hown.lt j hj).1)
      clear hown5 hgrow hown hownX
      obtain ⟨A5, c5, rfl⟩ : ∃ A5 c5, v5 = .slice A5 (q ++ [x - y]).length c5 := by
        rcases hown6.2 with ⟨rfl, hh⟩ | ⟨g, cap, cur, rfl, _⟩
        · simp at hh
        · exact ⟨_, _, rfl⟩
      go_wp2_with fail
      go_roundw
      case rel => exact ⟨j + 1, by omega, by go_num, _, _, _, rfl, by rw [Hst.out]; exact hown6, hb5⟩
      case measure => simp [intOf]; omega
    · have hjn : j = n := by omega
      have hfull : sl.take j = sl := List.take_of_length_le (by rw [HSl.out]; omega)
      rw [hfull, HSl.out] at hown
      clear hfull
      subst hjn
      have hjm2 : ¬ (j : Int) < (j : Int) := by omega
      go_wp2_with fail
      go_ret
      exact ⟨_, rfl, hown, hbr⟩
end Go.Proofs.Ytapajkfnpkekdaa
