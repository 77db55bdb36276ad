/-
  What a list of constraints and a list of numbers that came in give the walk; a world for the witness. Shared by the rows of the seat.
-/
import Derived.Test.YtapajkfnpkekdaaRows
import Derived.Test.YtapajkfnpkekdaaGVld
import Derived.Test.YtapajkfnpkekdaaGBase
import Derived.ProofKit
import Derived.OpenShut
import Derived.Deep.DeepHandedRow
import Derived.Lib.LaidTab
import Derived.Lib.LaidU8
import Derived.Lib.SmallJoins
import Derived.Deep.Slices
import Derived.Carry
namespace Go.Proofs.Ytapajkfnpkekdaa
open Go Go.ChangeShapes Go.WideShapes Go.ChangeAt Go.RowKit Go.Joins Go.Deep

theorem own_ : ownKnob Try.prog.godebug = none := by kernel_rfl
theorem laidOut_ : laidOutB Try.prog = true := by kernel_rfl
theorem cells_lvar : Try.prog.cellsOf 27 = 2 := by kernel_rfl
theorem cells_lcon : Try.prog.cellsOf 32 = 4 := by kernel_rfl
theorem cells_level : Try.prog.cellsOf 30 = 2 := by kernel_rfl

theorem addr_one (a : Addr) (n : Nat) : (a.add n).add 1 = a.add (n + 1) := by
  unfold Addr.add
  by_cases h : n = 0
  · subst h; simp
  · simp [h, Nat.add_assoc]
theorem addr_zero (a : Addr) : a.add 0 = a := by simp [Addr.add]
set_option maxRecDepth 100000 in
/-- A LIST OF PARTS THAT CAME IN. -/
theorem open_vars {H : Type} {enc : TypeId × Value → H} {W : World} {fuel : Nat} {v : Value} {x : DataW H × List MemPlace}
    (h : DataW.trod enc Try.prog W 0 (fun _ => true) true fuel 28 [v] = some x) :
    ∃ A n cap l, v = .slice A n cap ∧ PL W W.heap.size A n l ∧ n ≤ cap ∧ cap ≤ 9223372036854775807 := by
  rcases open_slice Try.underlying28 h with ⟨hcs, _⟩ | ⟨a, len, cap, m, k, D, Pl, hcs, _, hlc, hcm, hm, _, hel⟩
  · obtain rfl : v = .slice none 0 0 := by simpa using hcs
    exact ⟨none, 0, 0, [], rfl, PL.nil_ _, Nat.le_refl _, Nat.zero_le _⟩
  · obtain rfl : v = .slice (some a) len cap := by simpa using hcs
    simp only [if_true] at hm
    have hcap : cap ≤ 9223372036854775807 := by unfold maxLen at hcm; omega
    rw [cells_lvar] at hel
    have key : ∀ i, i < cap → ∃ p q : Int, W.cell? (a.add (i * 2)) = some (.int .i64 p) ∧ W.cell? (a.add (i * 2 + 1)) = some (.int .i64 q) := by
      intro i hi
      obtain ⟨cs', hc, ht⟩ := hel i (by omega)
      obtain ⟨_, hl2, hcell⟩ := World.cells?_some hc
      obtain ⟨y0, y1, n', _, _, h0, h1⟩ := trod_struct2 Try.underlying27 ht
      obtain ⟨c0, c1, rfl⟩ : ∃ c0 c1, cs' = [c0, c1] := by
        match cs', hl2 with
        | [c0, c1], _ => exact ⟨c0, c1, rfl⟩
      have h0' : DataW.trod enc Try.prog W 0 (fun _ => true) true n' 3 [c0] = some y0 := h0
      have h1' : DataW.trod enc Try.prog W 0 (fun _ => true) true n' 3 [c1] = some y1 := h1
      obtain ⟨p, hp, _, _⟩ := DataW.trod_int Try.underlying3 h0'
      obtain ⟨q, hq, _, _⟩ := DataW.trod_int Try.underlying3 h1'
      simp at hp hq
      subst hp; subst hq
      have e0 := hcell 0 (by omega)
      have e1 := hcell 1 (by omega)
      rw [addr_zero] at e0
      rw [addr_one] at e1
      exact ⟨p, q, by simpa using e0, by simpa using e1⟩
    refine ⟨some a, len, cap, (List.range len).map fun i => ((match W.cell? (a.add (i * 2)) with | some (.int _ z) => z | _ => 0), (match W.cell? (a.add (i * 2 + 1)) with | some (.int _ z) => z | _ => 0)), rfl, ⟨by simp, fun h0 => ?_⟩, hlc, hcap⟩
    obtain ⟨p, q, hp, _⟩ := key 0 (by omega)
    have hspot : a.spot = none := by simpa [Addr.add] using World.cell?_spot hp
    have hblk : a.block < W.heap.size := by simpa [Addr.add] using World.block_lt_of_cell? W _ hp
    obtain ⟨b, off, spot⟩ := a
    simp only at hspot hblk
    subst hspot
    have eadd : ∀ k, (⟨b, off, none⟩ : Addr).add k = ⟨b, off + k, none⟩ := add_plain b off
    refine ⟨b, off, rfl, hblk, fun j y hy => ?_⟩
    have hj : j < len := by
      have := (List.getElem?_eq_some_iff.1 hy).1
      simpa using this
    obtain ⟨p, q, hp, hq⟩ := key j (by omega)
    simp only [List.getElem?_map, List.getElem?_range hj, Option.map_some, hp, hq, Option.some.injEq] at hy
    subst hy
    rw [eadd] at hp hq
    exact ⟨hp, by rw [Nat.add_assoc]; exact hq⟩

set_option maxRecDepth 100000 in
theorem open_intl {H : Type} {enc : TypeId × Value → H} {W : World} {base : Nat} {r : Reach} {v : Value} {d : DataW H} {p : List MemPlace}
    (hv : Value.okWide Try.prog W r base 33 v) (h : DataW.Trod enc Try.prog W 0 (fun _ => true) true 33 v d p) :
    ∃ V m cap vals, v = .slice V m cap ∧ IL W W.heap.size V m vals ∧ m ≤ cap ∧ cap ≤ 9223372036854775807 := by
  obtain ⟨a0, m0, c0, rfl⟩ := okWide_slice Try.underlying33 hv
  obtain ⟨fuel, hf⟩ := h
  have hf' : DataW.trod enc Try.prog W 0 (fun _ => true) true fuel 33 [.slice a0 m0 c0] = some (d, p) := hf
  rcases open_ints Try.underlying33 Try.underlying3 (by kernel_rfl) hf' with ⟨hcs, _⟩ | ⟨a, len, cap, zs, hcs, _, hl, hm, hz, _, hcell, _⟩
  · simp at hcs
    obtain ⟨rfl, rfl, rfl⟩ := hcs
    exact ⟨none, 0, 0, [], rfl, ⟨rfl, fun h => absurd h (by omega)⟩, Nat.le_refl _, Nat.zero_le _⟩
  · simp at hcs
    obtain ⟨rfl, rfl, rfl⟩ := hcs
    simp only [if_true] at hz
    have hcap : c0 ≤ 9223372036854775807 := by unfold maxLen at hm; omega
    refine ⟨some a, m0, c0, zs.take m0, rfl, ⟨by simp; omega, fun h0 => ?_⟩, hl, hcap⟩
    have hp := hcell 0 (by omega)
    have hspot : a.spot = none := by simpa [Addr.add] using World.cell?_spot hp
    have hblk : a.block < W.heap.size := by simpa [Addr.add] using World.block_lt_of_cell? W _ hp
    obtain ⟨b, off, spot⟩ := a
    simp only at hspot hblk
    subst hspot
    refine ⟨b, off, rfl, hblk, fun j x hx => ?_⟩
    have hj : j < m0 := by
      have := (List.getElem?_eq_some_iff.1 hx).1
      simp at this
      omega
    rw [List.getElem?_take_of_lt hj] at hx
    have := hcell j (by omega)
    rw [add_plain] at this
    rw [this]
    simp [List.getD, hx]
theorem list_of {α : Type} {P : Nat → α → Prop} (n : Nat) (h : ∀ i, i < n → ∃ x, P i x) : ∃ l : List α, l.length = n ∧ ∀ j x, l[j]? = some x → P j x := by
  induction n with
  | zero => exact ⟨[], rfl, fun j x hx => by simp at hx⟩
  | succ n ih =>
    obtain ⟨l, hl, hp⟩ := ih fun i hi => h i (by omega)
    obtain ⟨y, hy⟩ := h n (by omega)
    refine ⟨l ++ [y], by simp [hl], fun j x hx => ?_⟩
    by_cases hj : j < n
    · rw [List.getElem?_append_left (by omega)] at hx; exact hp j x hx
    · have hlt := (List.getElem?_eq_some_iff.1 hx).1
      simp [hl] at hlt
      obtain rfl : j = n := by omega
      rw [List.getElem?_append_right (by omega)] at hx
      simp [hl] at hx
      subst hx
      exact hy


theorem addr_more (a : Addr) (n k : Nat) : (a.add n).add k = a.add (n + k) := by
  unfold Addr.add
  by_cases h : n = 0
  · subst h; simp
  · by_cases h2 : k = 0
    · subst h2; simp [h]
    · simp [h, h2, Nat.add_assoc]
set_option maxRecDepth 100000 in
/-- a level among cells -/
theorem trod_level {H : Type} {enc : TypeId × Value → H} {W : World} {fuel : Nat} {u0 u1 : Value} {y : DataW H × List MemPlace} (h : DataW.trod enc Try.prog W 0 (fun _ => true) true fuel 30 [u0, u1] = some y) :
    ∃ (c : Int) (l : List (Int × Int)), u0 = .int .i64 c ∧ LvOk W W.heap.size u1 l := by
  obtain ⟨y0, y1, n', _, _, h0, h1⟩ := trod_struct2 Try.underlying30 h
  have h0' : DataW.trod enc Try.prog W 0 (fun _ => true) true n' 3 [u0] = some y0 := h0
  have h1' : DataW.trod enc Try.prog W 0 (fun _ => true) true n' 28 [u1] = some y1 := h1
  obtain ⟨z, hz, _, _⟩ := DataW.trod_int Try.underlying3 h0'
  obtain ⟨A', q, cap', l', rfl, hp, hq, hq2⟩ := open_vars h1'
  simp at hz
  exact ⟨z, l', hz, A', q, cap', rfl, hp, hq, hq2⟩
set_option maxRecDepth 100000 in
/-- A LIST OF CONSTRAINTS THAT CAME IN. -/
theorem open_cons {H : Type} {enc : TypeId × Value → H} {W : World} {base : Nat} {r : Reach} {v : Value} {d : DataW H} {p : List MemPlace}
    (hv : Value.okWide Try.prog W r base 25 v) (h : DataW.Trod enc Try.prog W 0 (fun _ => true) true 25 v d p) :
    ∃ D n cap cs, v = .slice D n cap ∧ CL W W.heap.size D n cs ∧ n ≤ cap ∧ cap ≤ 9223372036854775807 := by
  obtain ⟨a0, m0, c0, rfl⟩ := okWide_slice Try.underlying25 hv
  obtain ⟨fuel, hf⟩ := h
  have hf' : DataW.trod enc Try.prog W 0 (fun _ => true) true fuel 25 [.slice a0 m0 c0] = some (d, p) := hf
  rcases open_slice Try.underlying25 hf' with ⟨hcs, _⟩ | ⟨a, len, cap, m, k, D, Pl, hcs, _, hlc, hcm, hm, _, hel⟩
  · simp at hcs
    obtain ⟨rfl, rfl, rfl⟩ := hcs
    exact ⟨none, 0, 0, [], rfl, ⟨rfl, fun h => absurd h (by omega)⟩, Nat.le_refl _, Nat.zero_le _⟩
  · simp at hcs
    obtain ⟨rfl, rfl, rfl⟩ := hcs
    simp only [if_true] at hm
    have hcap : c0 ≤ 9223372036854775807 := by unfold maxLen at hcm; omega
    rw [cells_lcon] at hel
    have key : ∀ i, i < m0 → ∃ c : LCn, W.cell? (a.add (i * 4)) = some (.int .i64 c.1.1) ∧ W.cell? (a.add (i * 4 + 2)) = some (.int .i64 c.2.1) ∧ ∃ v1 v2, W.cell? (a.add (i * 4 + 1)) = some v1 ∧ W.cell? (a.add (i * 4 + 3)) = some v2 ∧ LvOk W W.heap.size v1 c.1.2 ∧ LvOk W W.heap.size v2 c.2.2 := by
      intro i hi
      obtain ⟨cs', hc, ht⟩ := hel i (by omega)
      obtain ⟨_, hl2, hcell⟩ := World.cells?_some hc
      obtain ⟨y0, y1, n', _, _, h0, h1⟩ := trod_struct2 Try.underlying32 ht
      obtain ⟨u0, u1, u2, u3, rfl⟩ : ∃ u0 u1 u2 u3, cs' = [u0, u1, u2, u3] := by
        match cs', hl2 with
        | [u0, u1, u2, u3], _ => exact ⟨u0, u1, u2, u3, rfl⟩
      have h0' : DataW.trod enc Try.prog W 0 (fun _ => true) true n' 30 (List.take (Try.prog.cellsOf 30) (List.drop 0 [u0, u1, u2, u3])) = some y0 := h0
      have h1' : DataW.trod enc Try.prog W 0 (fun _ => true) true n' 30 (List.take (Try.prog.cellsOf 30) (List.drop 2 [u0, u1, u2, u3])) = some y1 := h1
      rw [cells_level] at h0' h1'
      obtain ⟨z0, l0, rfl, hl0⟩ := trod_level h0'
      obtain ⟨z1, l1, rfl, hl1⟩ := trod_level h1'
      have e0 := hcell 0 (by omega)
      have e1 := hcell 1 (by omega)
      have e2 := hcell 2 (by omega)
      have e3 := hcell 3 (by omega)
      rw [addr_more] at e0 e1 e2 e3
      exact ⟨((z0, l0), (z1, l1)), by simpa using e0, by simpa using e2, u1, u3, by simpa using e1, by simpa using e3, hl0, hl1⟩
    obtain ⟨ls, hls, hP⟩ := list_of m0 key
    refine ⟨some a, m0, c0, ls, rfl, ⟨hls, fun h0 => ?_⟩, hlc, hcap⟩
    obtain ⟨x0, hp, _⟩ := key 0 (by omega)
    have hspot : a.spot = none := by simpa [Addr.add] using World.cell?_spot hp
    have hblk : a.block < W.heap.size := by simpa [Addr.add] using World.block_lt_of_cell? W _ hp
    obtain ⟨b, off, spot⟩ := a
    simp only at hspot hblk
    subst hspot
    have eadd : ∀ k, (⟨b, off, none⟩ : Addr).add k = ⟨b, off + k, none⟩ := add_plain b off
    refine ⟨b, off, rfl, hblk, fun j x hx => ?_⟩
    obtain ⟨h1, h2, v1, v2, h3, h4, h5, h6⟩ := hP j x hx
    rw [eadd] at h1 h2 h3 h4
    exact ⟨v1, v2, h1, by rw [Nat.add_assoc]; exact h3, by rw [Nat.add_assoc]; exact h2, by rw [Nat.add_assoc]; exact h4, h5, h6⟩
end Go.Proofs.Ytapajkfnpkekdaa
