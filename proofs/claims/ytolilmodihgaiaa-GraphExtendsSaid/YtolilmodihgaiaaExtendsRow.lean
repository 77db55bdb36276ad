/-
  GraphExtends: for every input the law returns true, and each argument reads behind the call as it read before.
-/
import Derived.Test.YtolilmodihgaiaaGExtL
import Derived.Test.YtolilmodihgaiaaGOpenP
namespace Go.Proofs.Ytolilmodihgaiaa.graphExtends
open Go Go.ChangeShapes Go.WideShapes Go.ChangeAt Go.RowKit Go.Joins Go.Deep

set_option maxRecDepth 100000 in
theorem trod_intl {H : Type} {enc : TypeId × Value → H} {W : World} {fuel : Nat} {a0 : Option Addr} {m0 c0 : Nat} {d : DataW H} {p : List MemPlace}
    (hf' : DataW.trod enc Try.prog W 0 (fun _ => true) true fuel 25 [.slice a0 m0 c0] = some (d, p)) :
    ∃ V m cap vals, Value.slice a0 m0 c0 = .slice V m cap ∧ IL W W.heap.size V m vals ∧ m ≤ cap ∧ cap ≤ 9223372036854775807 := by
  rcases open_ints Try.underlying25 Try.underlying3 (by kernel_rfl) hf' with ⟨hcs, _⟩ | ⟨a, len, cap, zs, hcs, _, hl, hm, hz, _, hcell, _⟩
  · simp at hcs
    obtain ⟨rfl, rfl, rfl⟩ := hcs
    exact ⟨none, 0, 0, [], rfl, ⟨rfl, fun h => absurd h (by omega)⟩, Nat.le_refl _, Nat.zero_le _⟩
  · simp at hcs
    obtain ⟨rfl, rfl, rfl⟩ := hcs
    simp only [if_true] at hz
    have hcap : c0 ≤ 9223372036854775807 := by unfold maxLen at hm; omega
    refine ⟨some a, m0, c0, zs.take m0, rfl, ⟨by simp; omega, fun h0 => ?_⟩, hl, hcap⟩
    have hp := hcell 0 (by omega)
    have hspot : a.spot = none := by simpa [Addr.add] using World.cell?_spot hp
    have hblk : a.block < W.heap.size := by simpa [Addr.add] using World.block_lt_of_cell? W _ hp
    obtain ⟨b, off, spot⟩ := a
    simp only at hspot hblk
    subst hspot
    refine ⟨b, off, rfl, hblk, fun j x hx => ?_⟩
    have hj : j < m0 := by
      have := (List.getElem?_eq_some_iff.1 hx).1
      simp at this
      omega
    rw [List.getElem?_take_of_lt hj] at hx
    have := hcell j (by omega)
    rw [add_plain] at this
    rw [this]
    simp [List.getD, hx]
set_option maxRecDepth 100000 in
theorem trod_cons {H : Type} {enc : TypeId × Value → H} {W : World} {fuel : Nat} {a0 : Option Addr} {m0 c0 : Nat} {d : DataW H} {p : List MemPlace}
    (hf' : DataW.trod enc Try.prog W 0 (fun _ => true) true fuel 22 [.slice a0 m0 c0] = some (d, p)) :
    ∃ D n cap cs, Value.slice a0 m0 c0 = .slice D n cap ∧ CL W W.heap.size D n cs ∧ n ≤ cap ∧ cap ≤ 9223372036854775807 := by
  rcases open_slice Try.underlying22 hf' with ⟨hcs, _⟩ | ⟨a, len, cap, m, k, D, Pl, hcs, _, hlc, hcm, hm, _, hel⟩
  · simp at hcs
    obtain ⟨rfl, rfl, rfl⟩ := hcs
    exact ⟨none, 0, 0, [], rfl, ⟨rfl, fun h => absurd h (by omega)⟩, Nat.le_refl _, Nat.zero_le _⟩
  · simp at hcs
    obtain ⟨rfl, rfl, rfl⟩ := hcs
    simp only [if_true] at hm
    have hcap : c0 ≤ 9223372036854775807 := by unfold maxLen at hcm; omega
    rw [cells_lcon] at hel
    have key : ∀ i, i < m0 → ∃ c : LCn, W.cell? (a.add (i * 4)) = some (.int .i64 c.1.1) ∧ W.cell? (a.add (i * 4 + 2)) = some (.int .i64 c.2.1) ∧ ∃ v1 v2, W.cell? (a.add (i * 4 + 1)) = some v1 ∧ W.cell? (a.add (i * 4 + 3)) = some v2 ∧ LvOk W W.heap.size v1 c.1.2 ∧ LvOk W W.heap.size v2 c.2.2 := by
      intro i hi
      obtain ⟨cs', hc, ht⟩ := hel i (by omega)
      obtain ⟨_, hl2, hcell⟩ := World.cells?_some hc
      obtain ⟨y0, y1, n', _, _, h0, h1⟩ := trod_struct2 Try.underlying37 ht
      obtain ⟨u0, u1, u2, u3, rfl⟩ : ∃ u0 u1 u2 u3, cs' = [u0, u1, u2, u3] := by
        match cs', hl2 with
        | [u0, u1, u2, u3], _ => exact ⟨u0, u1, u2, u3, rfl⟩
      have h0' : DataW.trod enc Try.prog W 0 (fun _ => true) true n' 35 (List.take (Try.prog.cellsOf 35) (List.drop 0 [u0, u1, u2, u3])) = some y0 := h0
      have h1' : DataW.trod enc Try.prog W 0 (fun _ => true) true n' 35 (List.take (Try.prog.cellsOf 35) (List.drop 2 [u0, u1, u2, u3])) = some y1 := h1
      rw [cells_level] at h0' h1'
      obtain ⟨z0, l0, rfl, hl0⟩ := trod_level h0'
      obtain ⟨z1, l1, rfl, hl1⟩ := trod_level h1'
      have e0 := hcell 0 (by omega)
      have e1 := hcell 1 (by omega)
      have e2 := hcell 2 (by omega)
      have e3 := hcell 3 (by omega)
      rw [addr_more] at e0 e1 e2 e3
      exact ⟨((z0, l0), (z1, l1)), by simpa using e0, by simpa using e2, u1, u3, by simpa using e1, by simpa using e3, hl0, hl1⟩
    obtain ⟨ls, hls, hP⟩ := list_of m0 key
    refine ⟨some a, m0, c0, ls, rfl, ⟨hls, fun h0 => ?_⟩, hlc, hcap⟩
    obtain ⟨x0, hp, _⟩ := key 0 (by omega)
    have hspot : a.spot = none := by simpa [Addr.add] using World.cell?_spot hp
    have hblk : a.block < W.heap.size := by simpa [Addr.add] using World.block_lt_of_cell? W _ hp
    obtain ⟨b, off, spot⟩ := a
    simp only at hspot hblk
    subst hspot
    have eadd : ∀ k, (⟨b, off, none⟩ : Addr).add k = ⟨b, off + k, none⟩ := add_plain b off
    refine ⟨b, off, rfl, hblk, fun j x hx => ?_⟩
    obtain ⟨h1, h2, v1, v2, h3, h4, h5, h6⟩ := hP j x hx
    rw [eadd] at h1 h2 h3 h4
    exact ⟨v1, v2, h1, by rw [Nat.add_assoc]; exact h3, by rw [Nat.add_assoc]; exact h2, by rw [Nat.add_assoc]; exact h4, h5, h6⟩
theorem cells_further : Try.prog.cellsOf 60 = 2 := by kernel_rfl
set_option maxRecDepth 100000 in
/-- A LIST OF NUMBERS AND CONSTRAINTS THAT CAME IN. -/
theorem open_further {H : Type} {enc : TypeId × Value → H} {W : World} {r : Reach} {base : Nat} {v : Value} {d : DataW H} {p : List MemPlace}
    (hv : Value.okWide Try.prog W r base 60 v) (h : DataW.Trod enc Try.prog W 0 (fun _ => true) true 60 v d p) :
    ∃ (C : Option Addr) (m capC : Nat) (sol : List Int) (B : Option Addr) (M capB : Nat) (ds : List LCn), v = .agg #[.slice C m capC, .slice B M capB] ∧ IL W W.heap.size C m sol ∧ CL W W.heap.size B M ds ∧ M ≤ 9223372036854775807 ∧ (B = none → capB = 0) := by
  obtain ⟨cs, rfl, hsz⟩ := okWide_struct Try.underlying60 hv
  rw [cells_further] at hsz
  obtain ⟨fuel, hf⟩ := h
  obtain ⟨l⟩ := cs
  obtain ⟨u0, u1, rfl⟩ : ∃ u0 u1, l = [u0, u1] := by
    match l, hsz with
    | [u0, u1], _ => exact ⟨u0, u1, rfl⟩
  obtain ⟨y0, y1, n', _, _, h0, h1⟩ := trod_struct2 Try.underlying60 hf
  have h0' : DataW.trod enc Try.prog W 0 (fun _ => true) true n' 25 [u0] = some y0 := h0
  have h1' : DataW.trod enc Try.prog W 0 (fun _ => true) true n' 22 [u1] = some y1 := h1
  have hs0 : ∃ a m c, u0 = .slice a m c := by
    rcases open_slice Try.underlying25 h0' with ⟨hcs, _⟩ | ⟨a, len, cap, m, k, D, Pl, hcs, _⟩
    · exact ⟨none, 0, 0, by simpa using hcs⟩
    · exact ⟨some a, len, cap, by simpa using hcs⟩
  have hs1 : ∃ a m c, u1 = .slice a m c ∧ (a = none → c = 0) := by
    rcases open_slice Try.underlying22 h1' with ⟨hcs, _⟩ | ⟨a, len, cap, m, k, D, Pl, hcs, _⟩
    · exact ⟨none, 0, 0, by simpa using hcs, fun _ => rfl⟩
    · exact ⟨some a, len, cap, by simpa using hcs, fun e => by cases e⟩
  obtain ⟨a, m, c, rfl⟩ := hs0
  obtain ⟨b, m', c', rfl, hb⟩ := hs1
  obtain ⟨V, q, cap, sol, e0, hI, _, _⟩ := trod_intl h0'
  obtain ⟨D, q', cap', ds, e1, hC, hq, hq2⟩ := trod_cons h1'
  cases e0
  cases e1
  exact ⟨_, _, _, sol, _, _, _, ds, rfl, hI, hC, by omega, hb⟩
set_option maxRecDepth 100000 in
theorem contract (H : Type) (enc : TypeId × Value → H) (W : World) (base : Nat) (args : Array Value) (ds gs : List (DataW H)) (before : List MemPlace)
    (hval : ∀ (j : Nat) t v, Try.f12.params[j]? = some t → args[j]? = some v → Value.okWide Try.prog W .any base t v)
    (hW : DataW.Whole enc Try.prog Try.f12.params.toList Rows.graphExtendsSpec.vars false W args.toList ds gs before) :
    Calls Try.prog 12 args W fun e W' => ∃ v, e = .returned v ∧ Rows.graphExtendsSpec.post enc Try.prog Try.f12 false true false false W args v W' := by
  have hW' := hW
  obtain ⟨p, q, hA0, hV, rfl, hfz, hnd⟩ := hW
  have hA : DataW.TrodAll enc Try.prog W 0 (fun _ => true) true Try.f12.params.toList args.toList ds p := hA0
  rw [Try.params12] at hA hval
  obtain ⟨v0, v1, v2, d0, d1, d2, p0, p1, p2, rfl, rfl, rfl, h0, h1, h2⟩ := trodAll_three hA
  obtain ⟨rfl, rfl⟩ := trodVars_none hV
  have h0k := h0
  have h1k := h1
  have h2k := h2
  obtain ⟨z, rfl⟩ := okWide_int Try.underlying3 (hval 0 3 v0 rfl rfl)
  obtain ⟨V1, n1, m1, z1, rfl, a1, b1, e1⟩ := open_cons (hval 1 22 v1 rfl rfl) h1
  obtain ⟨C, k, capC, sol, B, M, capB, ds, rfl, hc, hd, hM, hB⟩ := open_further (hval 2 60 v2 rfl rfl) h2
  clear hA0
  simp only [List.append_nil] at hW'
  have hlt : ∀ x ∈ p0 ++ p1 ++ p2, x.block < W.heap.size := fun x hx => by simpa using hW'.lt x hx
  refine (lawExtends_any z V1 n1 m1 z1 C k capC sol B M capB ds W a1 hc hd (by omega) hM (fun e => by subst e; exact (cons_nil h1).2) hB).mono ?_
  rintro e W' ⟨rfl, bel⟩
  refine ⟨_, rfl, _, _, _, [], p0 ++ p1 ++ p2, [], hW', ?_, ?_, ?_, bel.frame _, fun h => by cases h⟩
  · exact trodAll_mk1 (shut_bool Try.underlying4 _)
  · simp only [List.append_assoc]; exact trodAll_mk3 (Below.trod laidOut_ (by kernel_rfl) (of_decide_eq_true (by kernel_rfl)) h0k bel (fun x hx => hlt x (by simp [hx]))) (Below.trod laidOut_ (by kernel_rfl) (of_decide_eq_true (by kernel_rfl)) h1k bel (fun x hx => hlt x (by simp [hx]))) (Below.trod laidOut_ (by kernel_rfl) (of_decide_eq_true (by kernel_rfl)) h2k bel (fun x hx => hlt x (by simp [hx])))
  · rfl

noncomputable def plainWorld (os : Os) : World := World.holding Try.prog os ⟨#[], #[], []⟩
abbrev wit : Array Value := #[.int .i64 0, .slice none 0 0, .agg #[.slice none 0 0, .slice none 0 0]]
set_option maxRecDepth 100000 in
theorem reads (os : Os) {H : Type} (enc : TypeId × Value → H) : ∃ places, DataW.whole enc Try.prog ((plainWorld os).forCall (fun _ _ => 0) ⟨#[], wit, []⟩).memory Try.f12.params.toList Rows.graphExtendsSpec.vars false wit.toList 8 = some ([.lit (.int .i64 0), .nil, .agg [.nil, .nil]], [], places) :=
  ⟨[], by kernel_rfl⟩

set_option maxRecDepth 100000 in
theorem lifted (os : Os) (started : os.Started) (H : Type) (enc : TypeId × Value → H) (F : Stop.Interp) :
    ReturnsInHanded {} Try.checked os 12 .any ((OpenSpec.ofChange Rows.graphExtendsSpec).preRow enc Try.prog Try.f12 Rows.graphExtendsRow.domain false Rows.graphExtendsRow.laid) (((OpenSpec.ofChange Rows.graphExtendsSpec).at F).post enc Try.prog Try.f12 false true false false) := by
  obtain ⟨places, hx⟩ := reads os enc
  refine returnsInHanded_of_row (C := Try.checked) (s := OpenSpec.ofChange Rows.graphExtendsSpec) own_ started (by kernel_rfl) Try.func12
    (witness_row_at (enc := enc) (C := Try.checked) false (plainWorld os) wit rfl (by kernel_rfl) (by kernel_rfl) (by kernel_rfl)
      (OpenSpec.preRow_of_cond 8 hx (by kernel_rfl) (fun k hk => by cases hk) (by kernel_rfl) (laidMet_of_run' 8 (by kernel_rfl) (by kernel_rfl)))) ?_
  intro W base args ds gs before hval hW _ _ _ hL _ _
  exact contract H enc W base args ds gs before hval hW

theorem said : Rows.GraphExtendsSaid :=
  OpenClaim.holds_of_cond 12 Try.f12 rfl rfl rfl rfl rfl rfl rfl ⟨rfl, rfl, rfl, rfl, rfl⟩ rfl rfl rfl rfl rfl (by kernel_rfl) Try.func12 (by kernel_rfl)
    (of_decide_eq_true (by kernel_rfl)) (by unfold Func.isWrapper; first | (rw [if_pos (by decide +kernel)]; kernel_rfl) | (rw [if_neg (by decide +kernel)]; exact ⟨rfl, rfl⟩))
    (fun os started H enc _ F => by rw [OpenClaim.pre_eq_preRow]; exact lifted os started H enc F)
end Go.Proofs.Ytolilmodihgaiaa.graphExtends
