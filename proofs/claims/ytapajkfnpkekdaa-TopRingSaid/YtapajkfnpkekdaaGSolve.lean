/-
  'Solve' of package graph.
-/
import Derived.Test.YtapajkfnpkekdaaGBeg
namespace Go.Proofs.Ytapajkfnpkekdaa
open Go Go.RowKit

theorem outE_mem {es : List Edg} {v : Nat} {e : Edg} : e ∈ outE es v ↔ e ∈ es ∧ e.f = v := by simp [outE, List.mem_filter]
theorem esC_mem {n : Nat} {cs : List LCn} {e : Edg} : ∀ {k : Nat}, e ∈ esC n cs k ↔ ∃ i, i < k ∧ e ∈ foC n cs i
  | 0 => by simp [esC]
  | k + 1 => by
    rw [esC, List.mem_append, esC_mem]
    constructor
    · rintro (⟨i, hi, h⟩ | h)
      · exact ⟨i, by omega, h⟩
      · exact ⟨k, by omega, h⟩
    · rintro ⟨i, hi, h⟩
      by_cases hik : i = k
      · subst hik; exact .inr h
      · exact .inl ⟨i, by omega, h⟩
theorem foC_ok {n : Nat} {cs : List LCn} (hcs : ∀ c ∈ cs, Con n c) {i : Nat} {e : Edg} (he : e ∈ foC n cs i) : ∃ c, cs[i]? = some c ∧ e.f < n + 1 ∧ e.t < n + 1 ∧ -1000 ≤ e.b ∧ e.b ≤ 1000 ∧ e.k = i ∧ e.t = toC n c := by
  unfold foC at he
  cases h : cs[i]? with
  | none => rw [h] at he; cases he
  | some c => rw [h] at he; exact ⟨c, rfl, (hcs c (List.mem_of_getElem? h)).ok e he⟩
theorem zeC_mem {n K v : Nat} {e : Edg} (h : e ∈ zeC n K v) : e.f = n ∧ e.t < v ∧ e.b = 0 ∧ e.k = K := by
  obtain ⟨u, hu, rfl⟩ := List.mem_map.1 h
  exact ⟨rfl, List.mem_range.1 hu, rfl, rfl⟩
/-- all edges of a system: those of its constraints, and none below zero -/
def esA (n : Nat) (cs : List LCn) : List Edg := esC n cs cs.length ++ zeC n cs.length n
theorem esA_ok {n : Nat} {cs : List LCn} (hcs : ∀ c ∈ cs, Con n c) {e : Edg} (he : e ∈ esA n cs) : e.f < n + 1 ∧ e.t < n + 1 ∧ -1000 ≤ e.b ∧ e.b ≤ 1000 ∧ e.k < cs.length + 1 := by
  rcases List.mem_append.1 he with h | h
  · obtain ⟨i, hi, h1⟩ := esC_mem.1 h
    obtain ⟨c, _, h2, h3, h4, h5, h6, _⟩ := foC_ok hcs h1
    exact ⟨h2, h3, h4, h5, by omega⟩
  · obtain ⟨h1, h2, h3, h4⟩ := zeC_mem h
    exact ⟨by omega, by omega, by omega, by omega, by omega⟩
theorem esA_of {n : Nat} {cs : List LCn} (hcs : ∀ c ∈ cs, Con n c) {k : Nat} (hk : k < cs.length) (e : Edg) : e ∈ foC n cs k ↔ e ∈ outE (esA n cs) e.f ∧ e.k = k := by
  constructor
  · intro h
    obtain ⟨c, _, _, _, _, _, h6, _⟩ := foC_ok hcs h
    exact ⟨outE_mem.2 ⟨List.mem_append_left _ (esC_mem.2 ⟨k, hk, h⟩), rfl⟩, h6⟩
  · rintro ⟨h, hkk⟩
    rcases List.mem_append.1 (outE_mem.1 h).1 with h | h
    · obtain ⟨i, hi, h1⟩ := esC_mem.1 h
      obtain ⟨c, _, _, _, _, _, h6, _⟩ := foC_ok hcs h1
      have : i = k := by omega
      subst this
      exact h1
    · have := (zeC_mem h).2.2.2
      omega
theorem ge_of {n : Nat} {cs : List LCn} (hcs : ∀ c ∈ cs, Con n c) : GE (n + 1) cs.length (foC n cs) (outE (esA n cs)) := by
  refine ⟨⟨fun v e he => ?_, fun v hv => ?_⟩, fun k hk e => esA_of hcs hk e, fun k hk => ?_⟩
  · obtain ⟨h1, h2⟩ := outE_mem.1 he
    obtain ⟨_, h3, h4, h5, h6⟩ := esA_ok hcs h1
    exact ⟨h2, h3, h6, h4, h5⟩
  · refine List.eq_nil_iff_forall_not_mem.2 fun e he => ?_
    obtain ⟨h1, h2⟩ := outE_mem.1 he
    have := (esA_ok hcs h1).1
    omega
  · cases h : cs[k]? with
    | none => exact absurd (List.getElem?_eq_none_iff.1 h) (by omega)
    | some c =>
      refine ⟨toC n c, ?_, fun e he => ?_⟩
      · have := (hcs c (List.mem_of_getElem? h)).to.1
        omega
      · obtain ⟨c', h1, _, _, _, _, _, h7⟩ := foC_ok hcs he
        rw [h] at h1
        cases h1
        exact h7
theorem gx_zero (N v : Nat) : gx (List.replicate N 0) v = 0 := by
  unfold gx
  rw [List.getD_eq_getElem?_getD, List.getElem?_replicate]
  split <;> rfl
/-- with no constraint on, zeros are the least numbers -/
theorem lst_zero {n : Nat} {cs : List LCn} (hcs : ∀ c ∈ cs, Con n c) : Lst (OnG (outE (esA n cs)) fun i => if i = cs.length then true else false) (gx (List.replicate (n + 1) 0)) := by
  refine ⟨fun e he => ?_, fun v => by rw [gx_zero]; exact Int.le_refl _, fun y _ hn v => by rw [gx_zero]; exact hn v⟩
  have hk : e.k = cs.length := by
    have := he.2
    by_cases h : e.k = cs.length
    · exact h
    · simp [h] at this
  unfold hol
  rw [gx_zero, gx_zero]
  rcases List.mem_append.1 (outE_mem.1 he.1).1 with h | h
  · obtain ⟨i, hi, h1⟩ := esC_mem.1 h
    obtain ⟨c, _, _, _, _, _, h6, _⟩ := foC_ok hcs h1
    omega
  · have := (zeC_mem h).2.2.1
    omega
theorem onA {n : Nat} {cs : List LCn} (hcs : ∀ c ∈ cs, Con n c) (e : Edg) : OnG (outE (esA n cs)) (onr 0 cs.length fun i => if i = cs.length then true else false) e ↔ e ∈ esA n cs := by
  constructor
  · intro h; exact (outE_mem.1 h.1).1
  · intro h
    refine ⟨outE_mem.2 ⟨h, rfl⟩, ?_⟩
    have hk := (esA_ok hcs h).2.2.2.2
    unfold onr
    by_cases h1 : e.k = cs.length
    · simp [h1]
    · have h2 : e.k < cs.length := by omega
      simp [h2]

theorem own_made {w : World} {V N : Nat} (hV : w.heap[V]? = some (.cells (madeCells #[.int .i64 0] N) 3)) (hN : N ≤ 100000) : w.ownsRow 0 3 1 (.slice (some ⟨V, 0, none⟩) N N) N (int1 (List.replicate N 0)) := by
  refine ⟨by simp [int1], .inr ⟨V, N, madeCells #[.int .i64 0] N, rfl, Nat.zero_le _, hV, Nat.le_refl _, by unfold maxLen; omega, by simp [madeCells], ?_⟩⟩
  rw [List.take_of_length_le (by simp [madeCells])]
  refine List.ext_getElem? fun j => ?_
  by_cases hj : j < N
  · simp [madeCells, int1, hj, Nat.mod_one]
  · rw [List.getElem?_eq_none (by simp [madeCells]; omega), List.getElem?_eq_none (by simp [int1]; omega)]

/-- a new search is one -/
theorem beg_is {w w' : World} {K n : Nat} {cs : List LCn} {e : Ending} (h : BegPost w K n cs e w') (hK : cs.length = K) (hK2 : K ≤ 3000) (hn : n ≤ 1200) (hcs : ∀ c ∈ cs, Con n c) :
    ∃ S OF OU ON V, e = .returned (.pointer (some ⟨S, 0, none⟩)) ∧ w.heap.size ≤ S ∧ w.heap.size ≤ ON ∧ Below w.heap.size w w' ∧ SE w' S OF OU ON (n + 1) K (foC n cs) (outE (esA n cs)) (fun i => if i = K then true else false) ∧ VS w' S ON (n + 1) V (n + 1) (List.replicate (n + 1) 0) := by
  obtain ⟨B, S, OF, OU, ON, V, vf, va, he, h1, h2, n3, n4, n10, w1, rfl, hb⟩ := h
  obtain ⟨l1, l2, l3, l4, l5⟩ := hb.five
  obtain ⟨m1, m2, m3, m4, m5, m6, m7⟩ := hb.ne
  have hS := hb.hS
  have hB := hb.hB
  have hV := hb.hV
  have hz := hb.size
  have hse : SE w1 S OF OU ON (n + 1) K (foC n cs) (outE (esA n cs)) (fun _ => false) := by
    refine ⟨by simp [World.cell?, hS], by simp [World.cell?, hS], by simp [World.cell?, hS], fun k hk => ?_, fun v hv => ?_, fun k hk => made_cell hB hk, ⟨by simp [World.frozen?, hS], fun k => by simp [World.frozen?, hB]⟩, ⟨m1, m2, n3, Ne.symm m4, Ne.symm m5⟩, ⟨by omega, by omega, by omega, by omega⟩⟩
    · obtain ⟨hc, ho⟩ := hb.f k hk
      obtain ⟨A, c, hv, _, _, hel, ha⟩ := EL.of_own ho
      rw [hv] at hc
      have hlen : 0 < (foC n cs k).length := by
        have h9 : cs[k]? = some cs[k] := List.getElem?_eq_getElem (by omega)
        rw [foC_at h9]
        simp [edgC]
      refine ⟨A, _, c, hc, hel, ⟨hlen, by have := foC_len (k := k) hcs; omega⟩, fun b off hA => ?_⟩
      rcases ha with ⟨rfl, _⟩ | ⟨g, rfl, hg1, hg2⟩
      · cases hA
      · cases hA; exact ⟨by omega, by omega, hg2⟩
    · obtain ⟨hc, ho⟩ := hb.o v hv
      subst hK
      obtain ⟨A, c, hvv, _, hmx, hel, ha⟩ := EL.of_own ho
      rw [hvv] at hc
      refine ⟨A, _, c, hc, hel, by unfold maxLen at hmx; omega, fun b off hA => ?_⟩
      rcases ha with ⟨rfl, _⟩ | ⟨g, rfl, hg1, hg2⟩
      · cases hA
      · cases hA; exact ⟨by omega, by omega, hg2⟩
  have hvs : w1.cell? ⟨S, 3, none⟩ = some (.slice (some ⟨V, 0, none⟩) (n + 1) (n + 1)) := by simp [World.cell?, hS]
  exact ⟨S, OF, OU, ON, V, he, h1, h2, hb.bel.setCell h2 _, hse.turn (k := K) (by omega), ⟨keep_set n3 hvs, own_other (own_made hV (by omega)) (by simp [Value.ownBlock]; omega) _ _, by simp, ⟨Ne.symm n4, Ne.symm n10⟩⟩⟩

/-- what Solve says -/
def SolvePost (v : Int) (cs : List LCn) (w : World) (e : Ending) (w' : World) : Prop :=
  Below w.heap.size w w' ∧ (gvld v cs = false ∧ e = .returned (.tuple #[.slice none 0 0, .int .i64 4]) ∨
    gvld v cs = true ∧ ∃ n : Nat, v = n ∧ (e = .returned (.tuple #[.slice none 0 0, .int .i64 20]) ∧ (∀ y, Sat (fun e => e ∈ esA n cs) y → False) ∨
      ∃ u xs, e = .returned (.tuple #[u, .int .i64 0]) ∧ w'.ownsRow w.heap.size 3 1 u n (int1 (solL n xs)) ∧ Lst (fun e => e ∈ esA n cs) (gx xs)))

set_option maxRecDepth 100000 in
set_option maxHeartbeats 2000000 in
theorem solve_any (v : Int) (A : Option Addr) (K cap : Nat) (cs : List LCn) (w : World) (h : CL w w.heap.size A K cs) (hn : K ≤ 9223372036854775807) :
    Calls Try.prog 6 #[.int .i64 v, .slice A K cap] w (SolvePost v cs w) := by
  have hva := gvalid_any v A K cap cs w h hn
  cases hg : gvld v cs
  · rw [hg] at hva
    have Hva := Lib.hid hva
    clear hva
    go_enter Try.func6, Try.ntmps6
    go_wp2_with fail
    refine Hva.out.mono ?_
    rintro e w1 ⟨rfl, hb1⟩
    go_wp2_with fail
    go_ret2
    exact ⟨hb1, .inl ⟨hg, rfl⟩⟩
  · rw [hg] at hva
    have Hva := Lib.hid hva
    clear hva
    have hg' := hg
    unfold gvld at hg'
    rw [Bool.and_eq_true, decide_eq_true_eq] at hg'
    obtain ⟨⟨g0, g1, g2⟩, g3⟩ := hg'
    obtain ⟨n, rfl⟩ : ∃ n : Nat, v = n := ⟨v.toNat, by omega⟩
    have hl : cs.length = K := h.1
    have hcs : ∀ c ∈ cs, Con n c := fun c hc => con_of (by have := List.all_eq_true.1 g3 c hc; exact this)
    have Hcs := Lib.hid hcs
    have Hl := Lib.hid hl
    clear hcs g3 hl
    go_enter Try.func6, Try.ntmps6
    go_wp2_with fail
    refine Hva.out.mono ?_
    rintro e w1 ⟨rfl, hb1⟩
    have hbe := begin_any A K cap n cs w1 ((h.below hb1).more hb1.size) (by have := Hl.out; omega) (by omega) Hcs.out
    have Hbe := Lib.hid hbe
    clear hbe
    go_wp2_with fail
    refine Hbe.out.mono ?_
    intro e w2 hpost
    obtain ⟨S, OF, OU, ON, V, rfl, hS1, hO1, hb2, hse, hvs⟩ := beg_is hpost Hl.out (by have := Hl.out; omega) (by omega) Hcs.out
    clear hpost
    have hb12 : Below w.heap.size w w2 := hb1.trans (hb2.mono hb1.size)
    have hGE := ge_of Hcs.out
    have hL0 := lst_zero Hcs.out
    rw [Hl.out] at hGE hL0
    have had := addAll_any w.heap.size S OF OU ON (n + 1) K V (n + 1) (foC n cs) (outE (esA n cs)) _ _ 0 K w2 hse hvs hGE (Nat.zero_le _) (Nat.le_refl _) (by have := Hl.out; omega) (by omega) hL0 ⟨by have := hb1.size; omega, by have := hb1.size; omega, hb12.size⟩
    have Had := Lib.hid had
    have HGE := Lib.hid hGE
    have HonA := Lib.hid (onA Hcs.out)
    rw [Hl.out] at HonA
    clear had hGE hL0 hse hvs
    go_wp2_with fail
    refine Had.out.mono ?_
    rintro e w3 ⟨r, rfl, hb3, hr⟩
    have hb13 := hb12.trans hb3
    rcases hr with ⟨rfl, hse, V1, c1, xs, hvs, hL⟩ | ⟨rfl, hno⟩
    · have hcap : n + 1 ≤ c1 ∧ c1 ≤ maxLen := by
        rcases hvs.own.2 with ⟨h9, _⟩ | ⟨g, cap, cur, h9, _, _, h10, h11, _⟩
        · cases h9
        · cases h9; exact ⟨h10, h11⟩
      have hso := solution_any S V1 c1 n xs w3 hvs.s3 hse.lt.1 hvs.own (by omega) hcap hL.nn (HGE.out.bound hvs.len hL (by omega))
      have Hso := Lib.hid hso
      have HL := Lib.hid hL
      clear hso hvs hse hL
      go_wp2_with fail
      refine Hso.out.mono ?_
      rintro e w4 ⟨u, rfl, hown, hb4⟩
      go_wp2_with fail
      go_ret2
      refine ⟨hb13.trans (hb4.mono hb13.size), .inr ⟨hg, n, rfl, .inr ⟨u, xs, rfl, own_lower hown hb13.size, ?_⟩⟩⟩
      have h9 := HL.out
      exact ⟨fun e he => h9.sat e ((HonA.out e).2 he), h9.nn, fun y hy hn => h9.least y (fun e he => hy e ((HonA.out e).1 he)) hn⟩
    · go_wp2_with fail
      go_ret2
      exact ⟨hb13, .inr ⟨hg, n, rfl, .inl ⟨rfl, fun y hy => hno y fun e he => hy e ((HonA.out e).1 he)⟩⟩⟩
end Go.Proofs.Ytapajkfnpkekdaa
