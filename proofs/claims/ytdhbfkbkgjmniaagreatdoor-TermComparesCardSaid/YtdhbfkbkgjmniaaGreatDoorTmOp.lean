/-
  What a term that came in gives the walk.
-/
import Derived.Test.YtdhbfkbkgjmniaaGreatDoorTmWr
import Derived.ProofKit
import Derived.OpenShut
import Derived.Deep.DeepHandedRow
import Derived.Lib.LaidTab
import Derived.Lib.LaidU8
import Derived.Lib.SmallJoins
import Derived.Deep.Slices
import Derived.Carry
namespace Go.Proofs.YtdhbfkbkgjmniaaGreatDoor
open Go Go.ChangeShapes Go.WideShapes Go.ChangeAt Go.RowKit Go.Joins Go.Deep

theorem own_ : ownKnob Tryz.prog.godebug = none := by kernel_rfl
theorem laidOut_ : laidOutB Tryz.prog = true := by kernel_rfl
theorem cells_level : Tryz.prog.cellsOf 34 = 2 := by kernel_rfl
theorem cells_lvar : Tryz.prog.cellsOf 66 = 2 := by kernel_rfl
theorem cells_term : Tryz.prog.cellsOf 25 = 5 := by kernel_rfl
theorem cells_u64 : Tryz.prog.cellsOf 178 = 1 := by kernel_rfl
theorem addr_more (a : Addr) (n k : Nat) : (a.add n).add k = a.add (n + k) := by
  unfold Addr.add
  by_cases h : n = 0
  · subst h; simp
  · by_cases h2 : k = 0
    · subst h2; simp [h]
    · simp [h, h2, Nat.add_assoc]
theorem list_of {α : Type} {P : Nat → α → Prop} (n : Nat) (h : ∀ i, i < n → ∃ x, P i x) : ∃ l : List α, l.length = n ∧ ∀ j x, l[j]? = some x → P j x := by
  induction n with
  | zero => exact ⟨[], rfl, fun j x hx => by simp at hx⟩
  | succ n ih =>
    obtain ⟨l, hl, hp⟩ := ih fun i hi => h i (by omega)
    obtain ⟨y, hy⟩ := h n (by omega)
    refine ⟨l ++ [y], by simp [hl], fun j x hx => ?_⟩
    by_cases hj : j < n
    · rw [List.getElem?_append_left (by omega)] at hx; exact hp j x hx
    · have hlt := (List.getElem?_eq_some_iff.1 hx).1
      simp [hl] at hlt
      obtain rfl : j = n := by omega
      rw [List.getElem?_append_right (by omega)] at hx
      simp [hl] at hx
      subst hx
      exact hy

section
variable {H : Type} {enc : TypeId × Value → H} {W : World}
set_option maxRecDepth 100000 in
/-- A LIST OF PARTS. -/
theorem open_vars {fuel : Nat} {v : Value} {x : DataW H × List MemPlace}
    (h : DataW.trod enc Tryz.prog W 0 (fun _ => true) true fuel 32 [v] = some x) :
    ∃ A n cap l, v = .slice A n cap ∧ PL W W.heap.size A n l ∧ n ≤ cap ∧ cap ≤ 9223372036854775807 ∧ (A = none → cap = 0) := by
  rcases open_slice Tryz.underlying32 h with ⟨hcs, _⟩ | ⟨a, len, cap, m, k, D, Pl, hcs, _, hlc, hcm, hm, _, hel⟩
  · obtain rfl : v = .slice none 0 0 := by simpa using hcs
    exact ⟨none, 0, 0, [], rfl, PL.nil_ _, Nat.le_refl _, Nat.zero_le _, fun _ => rfl⟩
  · obtain rfl : v = .slice (some a) len cap := by simpa using hcs
    simp only [if_true] at hm
    have hcap : cap ≤ 9223372036854775807 := by unfold maxLen at hcm; omega
    rw [cells_lvar] at hel
    have key : ∀ i, i < len → ∃ x : Int × Int, W.cell? (a.add (i * 2)) = some (.int .i64 x.1) ∧ W.cell? (a.add (i * 2 + 1)) = some (.int .i64 x.2) := by
      intro i hi
      obtain ⟨cs', hc, ht⟩ := hel i (by omega)
      obtain ⟨_, hl2, hcell⟩ := World.cells?_some hc
      obtain ⟨y0, y1, n', _, _, h0, h1⟩ := trod_struct2 Tryz.underlying66 ht
      obtain ⟨c0, c1, rfl⟩ : ∃ c0 c1, cs' = [c0, c1] := by
        match cs', hl2 with
        | [c0, c1], _ => exact ⟨c0, c1, rfl⟩
      have h0' : DataW.trod enc Tryz.prog W 0 (fun _ => true) true n' 3 [c0] = some y0 := h0
      have h1' : DataW.trod enc Tryz.prog W 0 (fun _ => true) true n' 3 [c1] = some y1 := h1
      obtain ⟨p, hp, _, _⟩ := DataW.trod_int Tryz.underlying3 h0'
      obtain ⟨q, hq, _, _⟩ := DataW.trod_int Tryz.underlying3 h1'
      simp at hp hq
      subst hp; subst hq
      have e0 := hcell 0 (by omega)
      have e1 := hcell 1 (by omega)
      rw [addr_more] at e0 e1
      exact ⟨(p, q), by simpa using e0, by simpa using e1⟩
    obtain ⟨ls, hls, hP⟩ := list_of len key
    refine ⟨some a, len, cap, ls, rfl, ⟨hls, fun h0 => ?_⟩, hlc, hcap, fun h => by cases h⟩
    obtain ⟨x0, hp, _⟩ := key 0 (by omega)
    have hspot : a.spot = none := by simpa [Addr.add] using World.cell?_spot hp
    have hblk : a.block < W.heap.size := by simpa [Addr.add] using World.block_lt_of_cell? W _ hp
    obtain ⟨b, off, spot⟩ := a
    simp only at hspot hblk
    subst hspot
    have eadd : ∀ k, (⟨b, off, none⟩ : Addr).add k = ⟨b, off + k, none⟩ := add_plain b off
    refine ⟨b, off, rfl, hblk, fun j y hy => ?_⟩
    obtain ⟨h1, h2⟩ := hP j y hy
    rw [eadd] at h1 h2
    exact ⟨h1, by rw [Nat.add_assoc]; exact h2⟩

set_option maxRecDepth 100000 in
/-- A LIST OF LEVELS. -/
theorem open_levelsF {fuel : Nat} {v : Value} {x : DataW H × List MemPlace}
    (h : DataW.trod enc Tryz.prog W 0 (fun _ => true) true fuel 22 [v] = some x) :
    ∃ D n cap ls, v = .slice D n cap ∧ LvL W W.heap.size D n ls ∧ n ≤ cap ∧ cap ≤ 9223372036854775807 := by
  rcases open_slice Tryz.underlying22 h with ⟨hcs, _⟩ | ⟨a, len, cap, m, k, D, Pl, hcs, _, hlc, hcm, hm, _, hel⟩
  · obtain rfl : v = .slice none 0 0 := by simpa using hcs
    exact ⟨none, 0, 0, [], rfl, ⟨rfl, fun h => absurd h (by omega)⟩, Nat.le_refl _, Nat.zero_le _⟩
  · obtain rfl : v = .slice (some a) len cap := by simpa using hcs
    simp only [if_true] at hm
    have hcap : cap ≤ 9223372036854775807 := by unfold maxLen at hcm; omega
    rw [cells_level] at hel
    have key : ∀ i, i < len → ∃ x : Int × List (Int × Int), W.cell? (a.add (i * 2)) = some (.int .i64 x.1) ∧ ∃ A' q cap', W.cell? (a.add (i * 2 + 1)) = some (.slice A' q cap') ∧ PL W W.heap.size A' q x.2 ∧ q ≤ cap' ∧ cap' ≤ 9223372036854775807 ∧ (A' = none → cap' = 0) := by
      intro i hi
      obtain ⟨cs', hc, ht⟩ := hel i (by omega)
      obtain ⟨_, hl2, hcell⟩ := World.cells?_some hc
      obtain ⟨y0, y1, n', _, _, h0, h1⟩ := trod_struct2 Tryz.underlying34 ht
      obtain ⟨u0, u1, rfl⟩ : ∃ u0 u1, cs' = [u0, u1] := by
        match cs', hl2 with
        | [u0, u1], _ => exact ⟨u0, u1, rfl⟩
      have h0' : DataW.trod enc Tryz.prog W 0 (fun _ => true) true n' 3 [u0] = some y0 := h0
      have h1' : DataW.trod enc Tryz.prog W 0 (fun _ => true) true n' 32 [u1] = some y1 := h1
      obtain ⟨z, hz, _, _⟩ := DataW.trod_int Tryz.underlying3 h0'
      obtain ⟨A', q, cap', l', rfl, hp, hq, hq2, hN⟩ := open_vars h1'
      simp at hz
      subst hz
      have e0 := hcell 0 (by omega)
      have e1 := hcell 1 (by omega)
      rw [addr_more] at e0 e1
      exact ⟨(z, l'), by simpa using e0, A', q, cap', by simpa using e1, hp, hq, hq2, hN⟩
    obtain ⟨ls, hls, hP⟩ := list_of len key
    refine ⟨some a, len, cap, ls, rfl, ⟨hls, fun h0 => ?_⟩, hlc, hcap⟩
    obtain ⟨x0, hp, _⟩ := key 0 (by omega)
    have hspot : a.spot = none := by simpa [Addr.add] using World.cell?_spot hp
    have hblk : a.block < W.heap.size := by simpa [Addr.add] using World.block_lt_of_cell? W _ hp
    obtain ⟨b, off, spot⟩ := a
    simp only at hspot hblk
    subst hspot
    have eadd : ∀ k, (⟨b, off, none⟩ : Addr).add k = ⟨b, off + k, none⟩ := add_plain b off
    refine ⟨b, off, rfl, hblk, fun j x hx => ?_⟩
    obtain ⟨h1, A', q, cap', h2, h3⟩ := hP j x hx
    rw [eadd] at h1 h2
    exact ⟨h1, A', q, cap', by rw [Nat.add_assoc]; exact h2, h3⟩

theorem list5 {α : Type} {cs : List α} (h : cs.length = 5) : ∃ c0 c1 c2 c3 c4, cs = [c0, c1, c2, c3, c4] := by
  match cs, h with
  | [c0, c1, c2, c3, c4], _ => exact ⟨c0, c1, c2, c3, c4, rfl⟩
set_option maxRecDepth 100000 in
theorem trod_term5 {fuel : Nat} {c0 c1 c2 c3 c4 : Value} {x : DataW H × List MemPlace} (h : DataW.trod enc Tryz.prog W 0 (fun _ => true) true fuel 25 [c0, c1, c2, c3, c4] = some x) :
    ∃ y0 y1 y2 y3 y4 n, fuel = n + 1 ∧ DataW.trod enc Tryz.prog W 0 (fun _ => true) true n 3 [c0] = some y0 ∧ DataW.trod enc Tryz.prog W 0 (fun _ => true) true n 3 [c1] = some y1 ∧ DataW.trod enc Tryz.prog W 0 (fun _ => true) true n 9 [c2] = some y2 ∧ DataW.trod enc Tryz.prog W 0 (fun _ => true) true n 22 [c3] = some y3 ∧ DataW.trod enc Tryz.prog W 0 (fun _ => true) true n 23 [c4] = some y4 := by
  obtain ⟨xs, n, hn, rfl, hl, hlen, hf⟩ := DataW.trod_struct Tryz.underlying25 h
  match xs, hlen with
  | [y0, y1, y2, y3, y4], _ => exact ⟨y0, y1, y2, y3, y4, n, hn, hf 0 _ rfl, hf 1 _ rfl, hf 2 _ rfl, hf 3 _ rfl, hf 4 _ rfl⟩

set_option maxRecDepth 100000 in
/-- A TERM. -/
theorem open_termF (fuel : Nat) : ∀ (cs : List Value) (x : DataW H × List MemPlace), cs.length = 5 → DataW.trod enc Tryz.prog W 0 (fun _ => true) true fuel 25 cs = some x →
    ∃ c0 c1 c2 c3 c4 t, cs = [c0, c1, c2, c3, c4] ∧ TmAt W W.heap.size c0 c1 c2 c3 c4 t := by
  induction fuel using Nat.strongRecOn with
  | ind fuel ih =>
    intro cs x hlen h
    obtain ⟨c0, c1, c2, c3, c4, rfl⟩ := list5 hlen
    obtain ⟨y0, y1, y2, y3, y4, n, hn, h0, h1, h2, h3, h4⟩ := trod_term5 h
    obtain ⟨o, ho, _, _⟩ := DataW.trod_int Tryz.underlying3 h0
    obtain ⟨k, hk, _, _⟩ := DataW.trod_int Tryz.underlying3 h1
    obtain ⟨s, hs, _, _⟩ := DataW.trod_string Tryz.underlying9 h2
    obtain ⟨U, nu, cu, u, rfl, hu, hnu, hcu⟩ := open_levelsF h3
    simp at ho hk hs
    subst ho; subst hk; subst hs
    rcases DataW.trod_slice Tryz.underlying23 h4 with ⟨hcs, _⟩ | ⟨a, len, cap, elems, rest, m, hm, hcs, _, _, hlc, hcm, hel, hes, _⟩
    · obtain rfl : c4 = .slice none 0 0 := by simpa using hcs
      exact ⟨_, _, _, _, _, .mk o k s u [], rfl, TmAt.of_list hu hnu hcu ⟨rfl, fun h => absurd h (by omega)⟩ (Nat.le_refl _) (Nat.zero_le _)⟩
    · obtain rfl : c4 = .slice (some a) len cap := by simpa using hcs
      have hcap : cap ≤ 9223372036854775807 := by unfold maxLen at hcm; omega
      rw [cells_term] at hes
      have key : ∀ i, i < len → ∃ t : Tm, ∃ d0 d1 d2 d3 d4, TmAt W W.heap.size d0 d1 d2 d3 d4 t ∧ W.cell? (a.add (i * 5)) = some d0 ∧ W.cell? (a.add (i * 5 + 1)) = some d1 ∧ W.cell? (a.add (i * 5 + 2)) = some d2 ∧ W.cell? (a.add (i * 5 + 3)) = some d3 ∧ W.cell? (a.add (i * 5 + 4)) = some d4 := by
        intro i hi
        have he := hes i hi
        rw [List.getElem?_eq_getElem (by omega : i < elems.length)] at he
        obtain ⟨cs', hc, ht⟩ := Option.bind_eq_some_iff.1 he
        obtain ⟨_, hl5, hcell⟩ := World.cells?_some hc
        obtain ⟨d0, d1, d2, d3, d4, t, rfl, hT⟩ := ih m (by omega) cs' _ hl5 ht
        have e0 := hcell 0 (by omega)
        have e1 := hcell 1 (by omega)
        have e2 := hcell 2 (by omega)
        have e3 := hcell 3 (by omega)
        have e4 := hcell 4 (by omega)
        rw [addr_more] at e0 e1 e2 e3 e4
        exact ⟨t, d0, d1, d2, d3, d4, hT, by simpa using e0, by simpa using e1, by simpa using e2, by simpa using e3, by simpa using e4⟩
      obtain ⟨ls, hls, hP⟩ := list_of len key
      refine ⟨_, _, _, _, _, .mk o k s u ls, rfl, TmAt.of_list hu hnu hcu ⟨hls, fun h0 => ?_⟩ hlc hcap⟩
      obtain ⟨t0, d0, d1, d2, d3, d4, _, hp, _⟩ := key 0 (by omega)
      have hspot : a.spot = none := by simpa [Addr.add] using World.cell?_spot hp
      have hblk : a.block < W.heap.size := by simpa [Addr.add] using World.block_lt_of_cell? W _ hp
      obtain ⟨b, off, spot⟩ := a
      simp only at hspot hblk
      subst hspot
      have eadd : ∀ k, (⟨b, off, none⟩ : Addr).add k = ⟨b, off + k, none⟩ := add_plain b off
      refine ⟨b, off, rfl, hblk, fun j t ht => ?_⟩
      obtain ⟨d0, d1, d2, d3, d4, hT, g0, g1, g2, g3, g4⟩ := hP j t ht
      rw [eadd] at g0 g1 g2 g3 g4
      exact ⟨d0, d1, d2, d3, d4, hT, g0, by rw [Nat.add_assoc]; exact g1, by rw [Nat.add_assoc]; exact g2, by rw [Nat.add_assoc]; exact g3, by rw [Nat.add_assoc]; exact g4⟩

theorem array5 {α : Type} {cs : Array α} (h : cs.size = 5) : ∃ c0 c1 c2 c3 c4, cs = #[c0, c1, c2, c3, c4] := by
  obtain ⟨l⟩ := cs
  match l, h with
  | [c0, c1, c2, c3, c4], _ => exact ⟨c0, c1, c2, c3, c4, rfl⟩
set_option maxRecDepth 100000 in
/-- A TERM THAT CAME IN. -/
theorem open_term {r : Reach} {base : Nat} {v : Value} {d : DataW H} {p : List MemPlace}
    (hv : Value.okWide Tryz.prog W r base 25 v) (h : DataW.Trod enc Tryz.prog W 0 (fun _ => true) true 25 v d p) :
    ∃ c0 c1 c2 c3 c4 t, v = .agg #[c0, c1, c2, c3, c4] ∧ TmAt W W.heap.size c0 c1 c2 c3 c4 t := by
  obtain ⟨cs, rfl, hsz⟩ := okWide_struct Tryz.underlying25 hv
  obtain ⟨c0, c1, c2, c3, c4, rfl⟩ := array5 (hsz.trans cells_term)
  obtain ⟨fuel, hf⟩ := h
  have hf' : DataW.trod enc Tryz.prog W 0 (fun _ => true) true fuel 25 [c0, c1, c2, c3, c4] = some (d, p) := hf
  obtain ⟨d0, d1, d2, d3, d4, t, he, hT⟩ := open_termF fuel _ _ rfl hf'
  simp at he
  obtain ⟨rfl, rfl, rfl, rfl, rfl⟩ := he
  exact ⟨_, _, _, _, _, t, rfl, hT⟩
end
end Go.Proofs.YtdhbfkbkgjmniaaGreatDoor
