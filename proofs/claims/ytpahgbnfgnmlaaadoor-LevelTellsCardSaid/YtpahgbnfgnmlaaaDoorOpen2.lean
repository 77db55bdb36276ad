/-
  What a level and a list of levels that came in give the walk: a list that is none has no room; a list of levels reads as one.
-/
import Derived.Test.YtpahgbnfgnmlaaaDoorOpen
import Derived.Test.YtpahgbnfgnmlaaaDoorLvl
namespace Go.Proofs.YtpahgbnfgnmlaaaDoor
open Go Go.ChangeShapes Go.WideShapes Go.ChangeAt Go.RowKit Go.Joins Go.Deep

theorem row_level2 : 24 < Tryd.prog.types.size := row_level
theorem cells_level2 : Tryd.prog.cellsOf 24 = 2 := cells_level

theorem list_of {α : Type} {P : Nat → α → Prop} (n : Nat) (h : ∀ i, i < n → ∃ x, P i x) : ∃ l : List α, l.length = n ∧ ∀ j x, l[j]? = some x → P j x := by
  induction n with
  | zero => exact ⟨[], rfl, fun j x hx => by simp at hx⟩
  | succ n ih =>
    obtain ⟨l, hl, hp⟩ := ih fun i hi => h i (by omega)
    obtain ⟨y, hy⟩ := h n (by omega)
    refine ⟨l ++ [y], by simp [hl], fun j x hx => ?_⟩
    by_cases hj : j < n
    · rw [List.getElem?_append_left (by omega)] at hx; exact hp j x hx
    · have hlt := (List.getElem?_eq_some_iff.1 hx).1
      simp [hl] at hlt
      obtain rfl : j = n := by omega
      rw [List.getElem?_append_right (by omega)] at hx
      simp [hl] at hx
      subst hx
      exact hy

set_option maxRecDepth 100000 in
theorem open_vars2 {H : Type} {enc : TypeId × Value → H} {W : World} {fuel : Nat} {v : Value} {x : DataW H × List MemPlace}
    (h : DataW.trod enc Tryd.prog W 0 (fun _ => true) true fuel 22 [v] = some x) :
    ∃ A n cap l, v = .slice A n cap ∧ PL W W.heap.size A n l ∧ n ≤ cap ∧ cap ≤ 9223372036854775807 ∧ (A = none → cap = 0) := by
  have h' := h
  obtain ⟨A, n, cap, l, rfl, h1, h2, h3⟩ := open_vars h
  refine ⟨A, n, cap, l, rfl, h1, h2, h3, fun hA => ?_⟩
  rcases open_slice Tryd.underlying22 h' with ⟨hcs, _⟩ | ⟨a, len, cap', m, k, D, Pl, hcs, _⟩
  · injection hcs with hcs _
    injection hcs
  · injection hcs with hcs _
    injection hcs with e
    rw [hA] at e
    cases e

set_option maxRecDepth 100000 in
/-- A LEVEL THAT CAME IN. -/
theorem open_level2 {H : Type} {enc : TypeId × Value → H} {W : World} {r : Reach} {base : Nat} {v : Value} {d : DataW H} {p : List MemPlace}
    (hv : Value.okWide Tryd.prog W r base 24 v) (h : DataW.Trod enc Tryd.prog W 0 (fun _ => true) true 24 v d p) :
    ∃ c A n cap l, v = .agg #[.int .i64 c, .slice A n cap] ∧ PL W W.heap.size A n l ∧ n ≤ cap ∧ cap ≤ 9223372036854775807 ∧ (A = none → cap = 0) := by
  obtain ⟨v0, v1, y0, y1, n', rfl, _, _, h0, h1⟩ := open_agg2 Tryd.underlying24 (by kernel_rfl) cells_level hv h
  have h0' : DataW.trod enc Tryd.prog W 0 (fun _ => true) true n' 3 [v0] = some y0 := h0
  have h1' : DataW.trod enc Tryd.prog W 0 (fun _ => true) true n' 22 [v1] = some y1 := h1
  obtain ⟨c, hc, _, _⟩ := DataW.trod_int Tryd.underlying3 h0'
  obtain ⟨A, n, cap, l, rfl, hp, hn, hm, hN⟩ := open_vars2 h1'
  simp at hc
  subst hc
  exact ⟨c, A, n, cap, l, rfl, hp, hn, hm, hN⟩

set_option maxRecDepth 100000 in
/-- A LIST OF LEVELS THAT CAME IN. -/
theorem open_levels {H : Type} {enc : TypeId × Value → H} {W : World} {base : Nat} {r : Reach} {v : Value} {d : DataW H} {p : List MemPlace}
    (hv : Value.okWide Tryd.prog W r base 38 v) (h : DataW.Trod enc Tryd.prog W 0 (fun _ => true) true 38 v d p) :
    ∃ D n cap ls, v = .slice D n cap ∧ LvL W W.heap.size D n ls ∧ n ≤ cap ∧ cap ≤ 9223372036854775807 := by
  obtain ⟨a0, m0, c0, rfl⟩ := okWide_slice Tryd.underlying38 hv
  obtain ⟨fuel, hf⟩ := h
  have hf' : DataW.trod enc Tryd.prog W 0 (fun _ => true) true fuel 38 [.slice a0 m0 c0] = some (d, p) := hf
  rcases open_slice Tryd.underlying38 hf' with ⟨hcs, _⟩ | ⟨a, len, cap, m, k, D, Pl, hcs, _, hlc, hcm, hm, _, hel⟩
  · simp at hcs
    obtain ⟨rfl, rfl, rfl⟩ := hcs
    exact ⟨none, 0, 0, [], rfl, ⟨rfl, fun h => absurd h (by omega)⟩, Nat.le_refl _, Nat.zero_le _⟩
  · simp at hcs
    obtain ⟨rfl, rfl, rfl⟩ := hcs
    simp only [if_true] at hm
    have hcap : c0 ≤ 9223372036854775807 := by unfold maxLen at hcm; omega
    rw [cells_level] at hel
    have key : ∀ i, i < m0 → ∃ x : Int × List (Int × Int), W.cell? (a.add (i * 2)) = some (.int .i64 x.1) ∧ ∃ A' q cap', W.cell? (a.add (i * 2 + 1)) = some (.slice A' q cap') ∧ PL W W.heap.size A' q x.2 ∧ q ≤ cap' ∧ cap' ≤ 9223372036854775807 ∧ (A' = none → cap' = 0) := by
      intro i hi
      obtain ⟨cs', hc, ht⟩ := hel i (by omega)
      obtain ⟨_, hl2, hcell⟩ := World.cells?_some hc
      obtain ⟨y0, y1, n', _, _, h0, h1⟩ := trod_struct2 Tryd.underlying24 ht
      obtain ⟨u0, u1, rfl⟩ : ∃ u0 u1, cs' = [u0, u1] := by
        match cs', hl2 with
        | [u0, u1], _ => exact ⟨u0, u1, rfl⟩
      have h0' : DataW.trod enc Tryd.prog W 0 (fun _ => true) true n' 3 [u0] = some y0 := h0
      have h1' : DataW.trod enc Tryd.prog W 0 (fun _ => true) true n' 22 [u1] = some y1 := h1
      obtain ⟨z, hz, _, _⟩ := DataW.trod_int Tryd.underlying3 h0'
      obtain ⟨A', q, cap', l', rfl, hp, hq, hq2, hN⟩ := open_vars2 h1'
      simp at hz
      subst hz
      have e0 := hcell 0 (by omega)
      have e1 := hcell 1 (by omega)
      rw [addr_zero] at e0
      rw [addr_one] at e1
      exact ⟨(z, l'), by simpa using e0, A', q, cap', by simpa using e1, hp, hq, hq2, hN⟩
    obtain ⟨ls, hls, hP⟩ := list_of m0 key
    refine ⟨some a, m0, c0, ls, rfl, ⟨hls, fun h0 => ?_⟩, hlc, hcap⟩
    obtain ⟨x0, hp, _⟩ := key 0 (by omega)
    have hspot : a.spot = none := by simpa [Addr.add] using World.cell?_spot hp
    have hblk : a.block < W.heap.size := by simpa [Addr.add] using World.block_lt_of_cell? W _ hp
    obtain ⟨b, off, spot⟩ := a
    simp only at hspot hblk
    subst hspot
    have eadd : ∀ k, (⟨b, off, none⟩ : Addr).add k = ⟨b, off + k, none⟩ := add_plain b off
    refine ⟨b, off, rfl, hblk, fun j x hx => ?_⟩
    obtain ⟨h1, A', q, cap', h2, h3⟩ := hP j x hx
    rw [eadd] at h1 h2
    exact ⟨h1, A', q, cap', by rw [Nat.add_assoc]; exact h2, h3⟩
end Go.Proofs.YtpahgbnfgnmlaaaDoor
