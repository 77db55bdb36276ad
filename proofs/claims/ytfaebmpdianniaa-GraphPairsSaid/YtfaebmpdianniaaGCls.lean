/-
  'Classes': the sets of variables that are equal in all solutions, gathered by group and value.
-/
import Derived.Test.YtfaebmpdianniaaGClsM
import Derived.Deep.AppendLies
import Derived.WalkArith
import Derived.Carry
namespace Go.Proofs.Ytfaebmpdianniaa
open Go Go.RowKit

/-- all cells stay -/
def KC (w w' : World) : Prop := ∀ (q : Nat) (cs : Array Value) (t : TypeId) (fr : Nat × Nat), w.heap[q]? = some (.cells cs t fr) → w'.heap[q]? = some (.cells cs t fr)
theorem KC.below {w w' : World} (h : Below w.heap.size w w') : KC w w' := fun q _ _ _ hq => (h.block q (Array.getElem?_eq_some_iff.1 hq).1).trans hq
theorem KC.grown {w w' : World} {b : Nat} (hg : w.grownBy w' (some b)) (hb : ∃ es c, w.heap[b]? = some (.map es c)) : KC w w' := fun q cs t fr hq => by
  refine (hg.block q (Array.getElem?_eq_some_iff.1 hq).1 fun e => ?_).trans hq
  obtain ⟨es, c, h⟩ := hb
  cases e
  rw [hq] at h
  cases h
theorem own_kc {w w' : World} {base size n : Nat} {e : TypeId} {v : Value} {xs : List Value} (h : w.ownsRow base e size v n xs) (k : KC w w') : w'.ownsRow base e size v n xs :=
  ⟨h.1, h.2.imp id fun ⟨g, cap, cur, e1, e2, e3, e4⟩ => ⟨g, cap, cur, e1, e2, k _ _ _ _ e3, e4⟩⟩
/-- a table of rows, each a block of its own -/
structure TS (w : World) (base : Nat) (u : Value) (xs : List Value) (ls : List (List Nat)) : Prop where
  tab : w.ownsRow base 42 1 u ls.length xs
  row : ∀ (i : Nat) (x : Value) (l : List Nat), xs[i]? = some x → ls[i]? = some l → w.ownsRow base 3 1 x l.length (int1 (castN l))
  apart : ∀ (i j : Nat) (x y : Value), xs[i]? = some x → xs[j]? = some y → i ≠ j → ∀ q, x.ownBlock = some q → y.ownBlock ≠ some q
section
variable {w w' : World} {base : Nat} {u : Value} {xs : List Value} {ls : List (List Nat)}
theorem TS.len (h : TS w base u xs ls) : xs.length = ls.length := by have := h.tab.1; omega
theorem TS.begin (w : World) (base : Nat) : TS w base (.slice none 0 0) [] [] :=
  ⟨World.ownsRow_nil _ _ _ _, fun i x l h => by simp at h, fun i j x y h => by simp at h⟩
theorem TS.kc (h : TS w base u xs ls) (k : KC w w') : TS w' base u xs ls :=
  ⟨own_kc h.tab k, fun i x l h1 h2 => own_kc (h.row i x l h1 h2) k, h.apart⟩
theorem own_ty {e : TypeId} {size n q : Nat} {v : Value} (h : w.ownsRow base e size v n xs) (hq : v.ownBlock = some q) : ∃ cs fr, w.heap[q]? = some (.cells cs e fr) := by
  rcases h.2 with ⟨rfl, _⟩ | ⟨g, cap, cur, rfl, _, hg, _⟩
  · cases hq
  · cases hq; exact ⟨_, _, hg⟩
/-- a set more, empty -/
theorem TS.snoc (h : TS w base u xs ls) (hg : w.grownBy w' u.ownBlock) {u' : Value} (hown : w'.ownsRow base 42 1 u' (ls.length + 1) (xs ++ [.slice none 0 0])) : TS w' base u' (xs ++ [.slice none 0 0]) (ls ++ [[]]) where
  tab := by rw [List.length_append, List.length_singleton]; exact hown
  row := fun i x l h1 h2 => by
    have hl := h.len
    by_cases hi : i < xs.length
    · rw [List.getElem?_append_left hi] at h1
      rw [List.getElem?_append_left (by omega)] at h2
      have h3 := h.row i x l h1 h2
      refine own_grown h3 hg fun k hk hx => ?_
      obtain ⟨cs, fr, h4⟩ := own_ty h.tab hk
      obtain ⟨cs', fr', h5⟩ := own_ty h3 hx
      rw [h4] at h5
      cases h5
    · rw [List.getElem?_append_right (by omega)] at h1 h2
      rw [hl] at h1
      cases hk : i - ls.length with
      | zero =>
        rw [hk] at h1 h2
        simp at h1 h2
        subst h1 h2
        exact World.ownsRow_nil _ _ _ _
      | succ j => rw [hk] at h2; simp at h2
  apart := fun i j x y h1 h2 hij q hx => by
    have hx' : i < xs.length := Classical.byContradiction fun hn => by
      rw [List.getElem?_append_right (by omega)] at h1
      have := List.mem_of_getElem? h1
      rw [List.mem_singleton] at this
      subst this
      cases hx
    rw [List.getElem?_append_left hx'] at h1
    by_cases hj : j < xs.length
    · rw [List.getElem?_append_left hj] at h2
      exact h.apart i j x y h1 h2 hij q hx
    · rw [List.getElem?_append_right (by omega)] at h2
      have := List.mem_of_getElem? h2
      rw [List.mem_singleton] at this
      subst this
      intro e
      cases e
/-- one more in a set -/
theorem TS.put (h : TS w base u xs ls) {i k : Nat} {x : Value} {l : List Nat} (hx : xs[i]? = some x) (hi : ls[i]? = some l) (hg : w.grownBy w' x.ownBlock) {g n c A c' : Nat} (hu : u = .slice (some ⟨A, 0, none⟩) n c')
    (hown : w'.ownsRow base 3 1 (.slice (some ⟨g, 0, none⟩) (l.length + 1) c) (l.length + 1) (int1 (castN l) ++ [.int .i64 (k : Int)])) (hlies : x.ownBlock = some g ∨ g = w.heap.size) :
    TS (w'.setCell ⟨A, i, none⟩ (.slice (some ⟨g, 0, none⟩) (l.length + 1) c)) base u (xs.set i (.slice (some ⟨g, 0, none⟩) (l.length + 1) c)) (ls.set i (l ++ [k])) := by
  subst hu
  have hil : i < xs.length := (List.getElem?_eq_some_iff.1 hx).1
  have hll := h.len
  have hrow := h.row i x l hx hi
  have hln : ls.length = n := by
    rcases h.tab.2 with ⟨h1, _⟩ | ⟨g', cap, cur, h1, _⟩
    · cases h1
    · cases h1; rfl
  have htab : w'.ownsRow base 42 1 (.slice (some ⟨A, 0, none⟩) n c') ls.length xs := own_grown h.tab hg fun q hq he => by
    obtain ⟨cs, fr, h4⟩ := own_ty h.tab he
    obtain ⟨cs', fr', h5⟩ := own_ty hrow hq
    rw [h4] at h5
    cases h5
  subst hln
  have hset : ∀ {v : Value} {m : Nat} {ys : List Value}, w'.ownsRow base 3 1 v m ys → (w'.setCell ⟨A, i, none⟩ (.slice (some ⟨g, 0, none⟩) (l.length + 1) c)).ownsRow base 3 1 v m ys := fun {v m ys} h1 =>
    ownsRow_setCell_other h1 (fun e => by
      obtain ⟨cs, fr, h4⟩ := own_ty h1 e
      obtain ⟨cs', fr', h5⟩ := own_ty htab (q := A) rfl
      rw [h4] at h5
      cases h5) _
  refine ⟨by rw [List.length_set]; exact (htab.stored i _).1, fun j y m h1 h2 => ?_, fun a b y z h1 h2 hab q hy => ?_⟩
  · by_cases e : i = j
    · subst e
      rw [List.getElem?_set_self hil] at h1
      rw [List.getElem?_set_self (by omega)] at h2
      cases h1
      cases h2
      have e2 : int1 (castN (l ++ [k])) = int1 (castN l) ++ [.int .i64 (k : Int)] := by simp [castN, int1]
      rw [List.length_append, List.length_singleton, e2]
      exact hset hown
    · rw [List.getElem?_set_ne e] at h1 h2
      have h3 := h.row j y m h1 h2
      exact hset (own_grown h3 hg fun q hq => h.apart i j x y hx h1 e q hq)
  · have hlt : ∀ (j : Nat) (y : Value), xs[j]? = some y → ∀ q, y.ownBlock = some q → q < w.heap.size := fun j y hj q hq => by
      have hjl : j < ls.length := by have := (List.getElem?_eq_some_iff.1 hj).1; omega
      exact ((h.row j y _ hj (List.getElem?_eq_getElem hjl)).lt q hq).2
    by_cases ea : i = a
    · subst ea
      rw [List.getElem?_set_self hil] at h1
      cases h1
      cases hy
      rw [List.getElem?_set_ne hab] at h2
      rcases hlies with h5 | h5
      · exact h.apart i b x z hx h2 hab _ h5
      · intro h6
        have : g < w.heap.size := hlt b z h2 _ h6
        omega
    · rw [List.getElem?_set_ne ea] at h1
      by_cases eb : i = b
      · subst eb
        rw [List.getElem?_set_self hil] at h2
        cases h2
        intro h6
        cases h6
        rcases hlies with h5 | h5
        · exact h.apart a i y x h1 hx (fun e => ea e.symm) _ hy h5
        · have : g < w.heap.size := hlt a y h1 _ hy
          omega
      · rw [List.getElem?_set_ne eb] at h2
        exact h.apart a b y z h1 h2 hab q hy
end
theorem own_sl {w : World} {base : Nat} {e : TypeId} {size n : Nat} {v : Value} {xs : List Value} (h : w.ownsRow base e size v n xs) : ∃ A c, v = .slice A n c := by
  rcases h.2 with ⟨rfl, rfl⟩ | ⟨g, cap, cur, rfl, _⟩
  · exact ⟨_, _, rfl⟩
  · exact ⟨_, _, rfl⟩
theorem newV {w : World} {x : Value} {ty : TypeId} : ∀ j u, [x][j]? = some u → (w.alloc (.cells #[x] ty)).cell? ((⟨w.heap.size, 0, none⟩ : Addr).add j) = some u := newI rfl
theorem KS.filt {w : World} : ∀ (xs : List Value) (ls : List (List Nat)), KS w xs ls → (∀ (i : Nat) (x : Value) (l : List Nat), xs[i]? = some x → ls[i]? = some l → lnV x = l.length) → KS w (xs.filter kpV) (ls.filter fun l => decide (2 ≤ l.length))
  | [], [], h, _ => h
  | [], _ :: _, h, _ => absurd h.1 (by simp)
  | _ :: _, [], h, _ => absurd h.1 (by simp)
  | x :: xs, l :: ls, h, hl => by
    have hx := hl 0 x l rfl rfl
    have ht : KS w xs ls := ⟨by have := h.1; simpa using this, fun j m y h1 h2 => h.2 (j + 1) m y (by simpa using h1) (by simpa using h2)⟩
    have ih := KS.filt xs ls ht fun i y m h1 h2 => hl (i + 1) y m (by simpa using h1) (by simpa using h2)
    have hk : kpV x = decide (2 ≤ l.length) := by unfold kpV; rw [hx]
    rw [List.filter_cons, List.filter_cons, hk]
    by_cases h2 : 2 ≤ l.length
    · rw [decide_eq_true h2, if_pos rfl, if_pos rfl]
      refine ⟨by simp [ih.1], fun j m y h3 h4 => ?_⟩
      cases j with
      | zero =>
        simp at h3 h4
        subst h3 h4
        exact h.2 0 _ _ rfl rfl
      | succ j => exact ih.2 j m y (by simpa using h3) (by simpa using h4)
    · rw [decide_eq_false h2]
      exact ih
theorem TS.ks {w : World} {base : Nat} {u : Value} {xs : List Value} {ls : List (List Nat)} (h : TS w base u xs ls) (hl : ∀ l ∈ ls, 0 < l.length) : KS w xs ls :=
  ⟨h.len, fun j l x h1 h2 => KR.of_own (h.row j x l h2 h1) (hl l (List.mem_of_getElem? h1))⟩
theorem stL_mem {P : Nat → Nat → Bool} (E : EqP P) {k : Nat} {l : List Nat} (h : l ∈ stL P k) : 0 < l.length ∧ l.length ≤ k := by
  unfold stL at h
  obtain ⟨u, hu, rfl⟩ := List.mem_map.1 h
  have h1 := (fsL_mem.1 hu).1
  refine ⟨List.length_pos_iff.2 fun e => ?_, mem1_len _ _ _⟩
  have h2 : u ∈ mem1 P u k := List.mem_filter.2 ⟨List.mem_range.2 h1, E.refl u⟩
  rw [e] at h2
  cases h2
theorem map_ne {w : World} {H : Type} {P : Program} {k t : TypeId} {R : Value → Option (DataW H × List MemPlace)} {b m base size n : Nat} {D : DataW H} {v : Value} {xs : List Value} (h : w.ownsMap P k R b m D) (ho : w.ownsRow base t size v n xs) : some b ≠ v.ownBlock := fun e => by
  obtain ⟨es, cl, h1, _⟩ := h
  obtain ⟨cs, fr, h2⟩ := own_ty ho e.symm
  rw [h1] at h2
  cases h2
theorem esC_len9 {n : Nat} {cs : List LCn} (hcs : ∀ c ∈ cs, Con n c) : ∀ k, (esC n cs k).length ≤ 9 * k
  | 0 => by simp [esC]
  | k + 1 => by
    have h1 := esC_len9 hcs k
    have h2 : (foC n cs k).length ≤ 9 := by
      cases h : cs[k]? with
      | none => simp [foC, h]
      | some c => rw [foC_at h]; exact edgC_len (hcs c (List.mem_of_getElem? h))
    rw [esC, List.length_append]
    omega
theorem esA_len9 {n : Nat} {cs : List LCn} (hcs : ∀ c ∈ cs, Con n c) : (esA n cs).length ≤ 9 * cs.length + n := by
  have := esC_len9 hcs cs.length
  unfold esA
  rw [List.length_append]
  have h2 : (zeC n cs.length n).length = n := by simp [zeC]
  omega
theorem filt_succ (E : List Edg) (N : Nat) : (E.filter fun e => decide (e.f < N + 1)).length = (E.filter fun e => decide (e.f < N)).length + (E.filter fun e => e.f == N).length := by
  induction E with
  | nil => rfl
  | cons e E ih =>
    simp only [List.filter_cons]
    by_cases h1 : e.f < N
    · have h2 : e.f < N + 1 := by omega
      have h3 : (e.f == N) = false := by rw [beq_eq_false_iff_ne]; omega
      simp only [decide_eq_true h1, decide_eq_true h2, h3, if_true, List.length_cons]
      simp only [Bool.false_eq_true, if_false]
      omega
    · by_cases h4 : e.f = N
      · have h2 : e.f < N + 1 := by omega
        have h3 : (e.f == N) = true := by rw [beq_iff_eq]; exact h4
        simp only [decide_eq_false h1, decide_eq_true h2, h3, if_true, List.length_cons]
        simp only [Bool.false_eq_true, if_false]
        omega
      · have h2 : ¬ e.f < N + 1 := by omega
        have h3 : (e.f == N) = false := by rw [beq_eq_false_iff_ne]; exact h4
        simp only [decide_eq_false h1, decide_eq_false h2, h3]
        simp only [Bool.false_eq_true, if_false]
        exact ih
theorem dn_len (E : List Edg) : ∀ N, (dnE (outE E) N).length = (E.filter fun e => decide (e.f < N)).length
  | 0 => by rw [List.filter_eq_nil_iff.2 (fun e _ => by simp)]; rfl
  | N + 1 => by
    rw [dnE_succ, List.length_append, dn_len E N, filt_succ]
    rfl
theorem dn_le (E : List Edg) (N : Nat) : (dnE (outE E) N).length ≤ E.length := by
  rw [dn_len]
  exact List.length_filter_le _ _
theorem dn_mem {E : List Edg} {N : Nat} {e : Edg} (h : ∀ e ∈ E, e.f < N) : e ∈ dnE (outE E) N ↔ e ∈ E := by
  constructor
  · intro he
    obtain ⟨v, _, h2⟩ := dnE_mem he
    exact (outE_mem.1 h2).1
  · intro he
    unfold dnE
    rw [List.mem_flatMap]
    exact ⟨e.f, List.mem_range.2 (h e he), outE_mem.2 ⟨he, rfl⟩⟩
/-- equal in all solutions: one group and one value -/
theorem grp_eqN {n N : Nat} {E : List Edg} {gs xs : List Int} (hN : n ≤ N) (hf : ∀ e ∈ E, e.f < N) (hV : ∀ e ∈ E, hol (gx xs) e) (hg : ∀ x y, x < N → y < N → (gx gs x = gx gs y ↔ Mut (tnb xs (dnE (outE E) N) true) x y)) :
    ∀ v x, v < n → x < n → grP gs xs v x = eqN E v x := fun v x hv hx => by
  have hk : ∀ a b, Rch (tnb xs (dnE (outE E) N) true) a b ↔ Rch (tn xs E) a b := fun a b => by
    have hm : ∀ p q, q ∈ tnb xs (dnE (outE E) N) true p ↔ q ∈ tn xs E p := fun p q => by
      show q ∈ tn xs (dnE (outE E) N) p ↔ _
      rw [tn_mem, tn_mem]
      constructor
      · rintro ⟨e, h1, h2⟩; exact ⟨e, (dn_mem hf).1 h1, h2⟩
      · rintro ⟨e, h1, h2⟩; exact ⟨e, (dn_mem hf).2 h1, h2⟩
    unfold Rch
    constructor
    · intro h
      induction h with
      | refl h1 => exact .refl h1
      | step h1 h2 h3 ih => exact .step ih ((hm _ _).1 h2) h3
    · intro h
      induction h with
      | refl h1 => exact .refl h1
      | step h1 h2 h3 ih => exact .step ih ((hm _ _).2 h2) h3
  have h1 := hg v x (by omega) (by omega)
  have h2 : eqN E v x = true ↔ grP gs xs v x = true := by
    rw [eqN_iff, grP_iff, eqS_iff (V := xs) hV, h1]
    unfold Mut
    rw [hk, hk]
    constructor
    · rintro ⟨h3, h4⟩; exact ⟨h3, h4.symm⟩
    · rintro ⟨h3, h4⟩; exact ⟨h3, h4.symm⟩
  cases h3 : eqN E v x with
  | true => exact h2.1 h3
  | false =>
    cases h4 : grP gs xs v x with
    | false => rfl
    | true => rw [h2.2 h4] at h3; cases h3

set_option maxRecDepth 100000 in
set_option maxHeartbeats 8000000 in
theorem classes_any (v : Int) (A : Option Addr) (K cap : Nat) (cs : List LCn) (w : World) (h : CL w w.heap.size A K cs) (hK : K ≤ 9223372036854775807) :
    Calls Try.prog 10 #[.int .i64 v, .slice A K cap] w (RClsPost v cs w) := by
  have hva := gvalid_any v A K cap cs w h hK
  cases hg : gvld v cs
  · rw [hg] at hva
    have Hva := Lib.hid hva
    clear hva
    go_enter Try.func10, Try.ntmps10
    go_wp2_with fail
    refine Hva.out.mono ?_
    rintro e w1 ⟨rfl, hb1⟩
    go_wp2_with fail
    go_ret2
    exact ⟨hb1, .inl ⟨hg, rfl⟩⟩
  · rw [hg] at hva
    have Hva := Lib.hid hva
    clear hva
    obtain ⟨i0, hi, hz0, hz1, hz2⟩ := info_parts infoI
    obtain ⟨s0, hs, hs0, hs1, hs2⟩ := info_parts infoS
    obtain ⟨n, rfl, hn, hl3, hcs⟩ := gvld_parts hg
    have hl : cs.length = K := h.1
    have Hcs := Lib.hid hcs
    have Hl := Lib.hid hl
    have hK3 : K ≤ 3000 := by omega
    have Hdn : Hid ((dnE (outE (esA n cs)) (n + 1)).length ≤ 100000) := by
      have h1 := dn_le (esA n cs) (n + 1)
      have h2 := esA_len9 hcs
      rw [Hid]
      omega
    clear hcs hl hl3
    go_enter Try.func10, Try.ntmps10
    go_wp2_with fail
    refine Hva.out.mono ?_
    rintro e w1 ⟨rfl, hb1⟩
    have Hbe := Lib.hid (begin_any A K cap n cs w1 ((h.below hb1).more hb1.size) hK3 hn Hcs.out)
    go_wp2_with fail
    refine Hbe.out.mono ?_
    intro e w2 hpost
    obtain ⟨S, OF, OU, ON, V, rfl, hS1, hO1, hb2, hse, hvs⟩ := beg_is hpost Hl.out hK3 hn Hcs.out
    clear hpost Hbe
    have hb12 : Below w.heap.size w w2 := hb1.trans (hb2.mono hb1.size)
    have hGE := ge_of Hcs.out
    have hL0 := lst_zero Hcs.out
    rw [Hl.out] at hGE hL0
    have had := addAll_any w.heap.size S OF OU ON (n + 1) K V (n + 1) (foC n cs) (outE (esA n cs)) _ _ 0 K w2 hse hvs hGE (Nat.zero_le _) (Nat.le_refl _) (by omega) (by omega) hL0 ⟨by have := hb1.size; omega, by have := hb1.size; omega, hb12.size⟩
    have Had := Lib.hid had
    have HGE := Lib.hid hGE
    have HonA := Lib.hid (onA Hcs.out)
    rw [Hl.out] at HonA
    clear had hGE hL0 hse hvs
    go_wp2_with fail
    refine Had.out.mono ?_
    clear Had
    rintro e w3 ⟨r, rfl, hb3, hr⟩
    have hb13 := hb12.trans hb3
    rcases hr with ⟨rfl, hse, V1, c1, xs, hvs, hL⟩ | ⟨rfl, hno⟩
    · have Hbd := Lib.hid (HGE.out.bound hvs.len hL (by omega))
      have HL := Lib.hid hL
      have Hgr := Lib.hid (groups_any S OF OU ON (n + 1) K V1 c1 (foC n cs) (outE (esA n cs)) _ xs w3 hse hvs HGE.out (fun v => ⟨HL.out.nn v, Hbd.out v⟩) (by omega) Hdn.out (Nat.succ_pos n))
      have hSlt := hse.lt.1
      have hs3 := hvs.s3
      have hvown := hvs.own
      have hvlen := hvs.len
      clear hse hvs hL
      go_wp2_with fail
      refine Hgr.out.mono ?_
      clear Hgr
      rintro e w4 ⟨gb, gs, rfl, hgl, hgown, hgrp, hb4, hrg⟩
      have hS4 := (hb4.cell (p := ⟨S, 3, none⟩) hSlt).trans hs3
      have hv4 := own_below hvown hb4
      have hb14 := hb13.trans (hb4.mono hb13.size)
      have hgl4 := own_lt hgown
      have hS4l : S < w4.heap.size := Nat.lt_of_lt_of_le hSlt hb4.size
      have Heq := Lib.hid (grp_eqN (gs := gs) (show n ≤ n + 1 by omega) (fun e he => (esA_ok Hcs.out he).1) (fun e he => HL.out.sat e ((HonA.out e).2 he)) hgrp)
      have Hsat : Hid (∃ y, Sat (fun e => e ∈ esA n cs) y) := ⟨gx xs, fun e he => HL.out.sat e ((HonA.out e).2 he)⟩
      have Hwf : Hid (∀ v, (Lit.int .i64 (gx xs v)).wf = true) := fun v => by
        have h1 := Hbd.out v
        have h2 := HL.out.nn v
        exact WalkArith.wf_i64 ⟨by omega, by omega⟩
      have Hgf : Hid (∀ v, v < n → (Lit.int .i64 (gx gs v)).wf = true) := fun v hv => by
        have h1 := hrg v (by omega)
        exact WalkArith.wf_i64 ⟨by omega, by omega⟩
      clear hgrp hs3 hvown Hbd HL HonA hrg
      have hmm := run_makeMap (P := Try.prog) 60 w4
      go_wp2_with fail
      clear hmm
      go_loopw [9, 30] (fun u9 i wr => ∃ k : Nat, k ≤ n ∧ i = .int .i64 k ∧ ∃ (vals : List Value) (D : DataW Unit), TS wr w4.heap.size u9 vals (stL (grP gs xs) k) ∧ wr.ownsMap Try.prog 66 (plainElem Try.prog 3) w4.heap.size k D ∧ MI gs xs k D ∧ Below w4.heap.size w4 wr) (fun _ i _ => n - (intOf i).toNat)
      case atStart => exact ⟨0, Nat.zero_le _, rfl, [], .map [], TS.begin _ _, World.ownsMap_made _ _ _ _, MI.begin _ _, (Below.refl _ w4).alloc (Nat.le_refl _) _⟩
      case round =>
        obtain ⟨k, hk, rfl, vals, D, hts, hmp, hmi, hbr⟩ := hrel
        by_cases hkn : k < n
        · have hki : (k : Int) < (n : Int) := by omega
          have hkj : (k : Int) < (n : Int) + 1 := by omega
          obtain ⟨y1, _⟩ := own_cell (own_below hgown hbr) (gx_some (xs := gs) (v := k) (by omega))
          obtain ⟨y2, _⟩ := own_cell (own_below hv4 hbr) (gx_some (xs := xs) (v := k) (by omega))
          have y3 := (hbr.cell (p := ⟨S, 3, none⟩) hS4l).trans hS4
          obtain ⟨l0, hkey⟩ := key_some (Hgf.out k hkn) (Hwf.out k)
          have HC : Hid (∀ wx : World, Below wr.heap.size wr wx → wx.cell? ⟨gb, k, none⟩ = some (.int .i64 (gx gs k)) ∧ wx.cell? ⟨S, 3, none⟩ = some (.slice (some ⟨V1, 0, none⟩) (n + 1) c1) ∧ wx.cell? ⟨V1, k, none⟩ = some (.int .i64 (gx xs k))) := by
            have l1 := hbr.size
            have l2 := (own_lt hv4).2
            have l3 := (own_lt hgown).2
            intro wx hx
            exact ⟨(hx.cell (p := ⟨gb, k, none⟩) (show gb < _ by omega)).trans y1, (hx.cell (p := ⟨S, 3, none⟩) (show S < _ by omega)).trans y3, (hx.cell (p := ⟨V1, k, none⟩) (show V1 < _ by omega)).trans y2⟩
          clear y1 y2 y3
          go_wp2_with fail
          go_region_held3 (fun wx => wx.cell? ⟨gb, k, none⟩ = some (.int .i64 (gx gs k)) ∧ wx.cell? ⟨S, 3, none⟩ = some (.slice (some ⟨V1, 0, none⟩) (n + 1) c1) ∧ wx.cell? ⟨V1, k, none⟩ = some (.int .i64 (gx xs k)))
            (first | exact HC.out _ (Below.refl _ _) | exact HC.out _ (Below.refl _ _).drew | exact HC.out _ ((Below.refl _ _).drew.alloc (Nat.le_refl _) _) | exact HC.out _ ((Below.refl _ _).alloc (Nat.le_refl _) _) | exact HC.out _ (((Below.refl _ _).alloc (Nat.le_refl _) _).setCell (Nat.le_refl _) _) | exact HC.out _ (((Below.refl _ _).drew.alloc (Nat.le_refl _) _).setCell (Nat.le_refl _) _)) (fail)
          obtain ⟨w5, hw5⟩ : ∃ w5, w5 = (wr.alloc (.cells #[.int .i64 (gx gs k), .int .i64 (gx xs k)] 66)).drew := ⟨_, rfl⟩
          rw [← hw5]
          have hb5 : Below wr.heap.size wr w5 := by rw [hw5]; exact ((Below.refl _ wr).alloc (Nat.le_refl _) _).drew
          have z0 : w5.cell? ⟨wr.heap.size, 0, none⟩ = some (.int .i64 (gx gs k)) := by rw [hw5]; simp
          have z1 : w5.cell? ⟨wr.heap.size, 1, none⟩ = some (.int .i64 (gx xs k)) := by rw [hw5]; simp
          have hs5 : w5.heap.size = wr.heap.size + 1 := by rw [hw5]; simp
          have hts5 := hts.kc (KC.below hb5)
          have hmp5 : w5.ownsMap Try.prog 66 (plainElem Try.prog 3) w4.heap.size k D := by rw [hw5]; exact (hmp.alloc _).drew
          have hbr5 : Below w4.heap.size w4 w5 := hbr.trans (hb5.mono hbr.size)
          clear hw5 hts hmp hb5 hbr
          obtain ⟨bq, hbq⟩ : ∃ bq, Maps.has D l0 = bq := ⟨_, rfl⟩
          go_upto_if 52 with (at_lookup; refine wpList_lookup_own_ok_int _ rfl _ _ 60 rfl 66 3 .i64 keyK Try.underlying60 Try.underlying3 (Try.zeroValue3 _) w4.heap.size k D rfl hmp5 (plV (gx gs k) (gx xs k)) l0 rfl hkey ?_; intro cv hat hwc; rw [hbq])
          go_cut [9, 12] (fun q9 q12 wx => ∃ (vals' : List Value) (D' : DataW Unit) (ls : List (List Nat)) (i : Nat) (l : List Nat), q12 = .int .i64 i ∧ TS wx w4.heap.size q9 vals' ls ∧ ls[i]? = some l ∧ ls.set i (l ++ [k]) = stL (grP gs xs) (k + 1) ∧ l.length ≤ k ∧ ls.length ≤ k + 1 ∧ wx.ownsMap Try.prog 66 (plainElem Try.prog 3) w4.heap.size (k + 1) D' ∧ MI gs xs (k + 1) D' ∧ Below w4.heap.size w4 wx)
          case first =>
            by_cases hf : fst1 (grP gs xs) k = true
            · have hh : bq = false := hbq.symm.trans (hmi.miss k l0 hkey (fst1_iff.1 hf))
              clear hbq hat hwc
              subst hh
              have hmi2 := hmi.new hkey hf
              rw [← stL_len] at hmi2
              have hset := stL_new (grP_eq gs xs) hf
              have hml : (stL (grP gs xs) k).length ≤ k := by rw [stL_len]; exact fsL_len _ _
              generalize stL (grP gs xs) k = sk at *
              obtain ⟨A9, c9, rfl⟩ := own_sl hts5.tab
              generalize hmq : sk.length = m at *
              go_upto_region 17 with (at_mapUpdate; refine wpList_mapUpdate_own _ rfl _ _ _ 60 rfl 66 3 keyK Try.underlying60 (plainElem Try.prog 3) w4.heap.size k D rfl hmp5 (by unfold maxLen; omega) (plV (gx gs k) (gx xs k)) (.int .i64 m) l0 rfl rfl hkey (.lit (.int .i64 m)) [] (plainElem_int Try.underlying3 (WalkArith.wf_i64 ⟨by omega, by omega⟩)) ?_; intro w6 hmp6 hg6)
              have hkc6 : KC w5 w6 := KC.grown hg6 (by obtain ⟨es, cl, h9, _⟩ := hmp5; exact ⟨es, cl, h9⟩)
              have hts6 := hts5.kc hkc6
              have hb6 : Below w4.heap.size w4 w6 := hbr5.grown hg6 hbr5.size (fun j hj => by cases hj; exact Nat.le_refl _)
              have hxA : Below w6.heap.size w6 (w6.alloc (.cells #[.slice none 0 0] 42)) := (Below.refl _ w6).alloc (Nat.le_refl _) _
              have hts7 := hts6.kc (KC.below hxA)
              have hb7 := hb6.trans (hxA.mono hb6.size)
              have hmp7 := hmp6.alloc (.cells #[.slice none 0 0] 42)
              have hss : (w6.alloc (.cells #[.slice none 0 0] 42)).heap.size = w6.heap.size + 1 := by simp
              have htab := hts7.tab
              rw [hmq] at htab
              have h46 := hb6.size
              go_wp2_with (at_builtin; refine wpList_append_lies _ rfl _ _ 25 rfl w4.heap.size 42 s0 (.slice none 0 0) 1 24 Try.underlying25 hs hs0 hs1 hs2 rfl (by decide) _ m vals rfl htab ⟨w6.heap.size, 0, none⟩ 1 1 [.slice none 0 0] rfl rfl newV one_slice (by decide) (by unfold maxLen; omega) (by omega) (by rw [hss]; omega) (w6.heap.size + 1) hss ?_)
              intro g cap w7 hown7 hgrow7 _ hgl7
              have hts8 := hts7.snoc hgrow7 (by rw [hmq]; exact hown7)
              have hmp8 := hmp7.kept hgrow7 (map_ne hmp7 htab)
              have hb8 := hb7.grown hgrow7 (by rw [hss]; omega) (fun j hj => (htab.lt j hj).1)
              have hi2 : (sk ++ [[]])[m]? = some ([] : List Nat) := by rw [← hmq, List.getElem?_append_right (Nat.le_refl _), Nat.sub_self]; rfl
              have hs9 : (sk ++ [[]]).set m ([] ++ [k]) = stL (grP gs xs) (k + 1) := by rw [hset, ← hmq, List.set_append_right _ _ (Nat.le_refl _)]; simp
              have Hts := Lib.hid hts8
              have Hs9 := Lib.hid hs9
              have Hi2 := Lib.hid hi2
              have hlen : (sk ++ [[]]).length ≤ k + 1 := by rw [List.length_append, List.length_singleton]; omega
              clear hts8 hs9 hi2 hts7 htab hts6 hts5 hset
              go_wp2_with fail
              go_meet
              exact ⟨_, _, _, m, [], rfl, Hts.out, Hi2.out, Hs9.out, Nat.zero_le _, hlen, hmp8.mono (by omega), hmi2, hb8⟩
            · obtain ⟨hmi2, hh, i, u, hat2, hfi, hPu⟩ := hmi.old hf hkey
              rw [hbq] at hh
              clear hbq
              subst hh
              rw [hat2] at hat
              obtain rfl : (i : Int) = cv := by injection hat with h1; injection h1 with _ h1
              go_wp2_with fail
              go_meet
              exact ⟨vals, D, _, i, _, rfl, hts5, stL_at hfi, (stL_old (grP_eq gs xs) hf hfi hPu).symm, mem1_len _ _ _, by rw [stL_len]; have := fsL_len (grP gs xs) k; omega, hmp5.mono (Nat.le_succ k), hmi2, hbr5⟩
          case rest =>
            obtain ⟨vals', D', ls, i, l, rfl, hts6, hli, hset, hlk, hlsl, hmp6, hmi6, hbr6⟩ := hcut
            have hil : i < ls.length := (List.getElem?_eq_some_iff.1 hli).1
            obtain ⟨Ag, cg, rfl⟩ := own_some hts6.tab (by omega)
            obtain ⟨x, hx⟩ : ∃ x, vals'[i]? = some x := ⟨_, List.getElem?_eq_getElem (by rw [hts6.len]; exact hil)⟩
            have hrow := hts6.row i x l hx hli
            obtain ⟨B, d, rfl⟩ := own_sl hrow
            have hii : (i : Int) < (ls.length : Int) := by omega
            have hc1 := (hts6.tab.cellAt i (by omega)).trans hx
            have hxA : Below wc.heap.size wc (wc.alloc (.cells #[.int .i64 (k : Int)] 3)) := (Below.refl _ wc).alloc (Nat.le_refl _) _
            have hts7 := hts6.kc (KC.below hxA)
            have hrow7 := own_kc hrow (KC.below hxA)
            have hb7 := hbr6.trans (hxA.mono hbr6.size)
            have hmp7 := hmp6.alloc (.cells #[.int .i64 (k : Int)] 3)
            have hss : (wc.alloc (.cells #[.int .i64 (k : Int)] 3)).heap.size = wc.heap.size + 1 := by simp
            have h46 := hbr6.size
            have Hts7 := Lib.hid hts7
            have Hset := Lib.hid hset
            have Hli := Lib.hid hli
            have Hx := Lib.hid hx
            clear hts7 hset hli hx hts6 hrow hil
            generalize hml : ls.length = m at *
            generalize hll : l.length = q at *
            go_wp2_with (at_builtin; refine wpList_append_lies _ rfl _ _ 42 rfl w4.heap.size 3 i0 (.int .i64 0) 1 8 Try.underlying42 hi hz0 hz1 hz2 rfl (by decide) _ q (int1 (castN l)) rfl hrow7 ⟨wc.heap.size, 0, none⟩ 1 1 [.int .i64 (k : Int)] rfl rfl newV newI_one (by decide) (by unfold maxLen; omega) (by omega) (by rw [hss]; omega) (wc.heap.size + 1) hss ?_)
            intro g cap w7 hown7 hgrow7 hlies hgl7
            have hmp8 := hmp7.kept hgrow7 (map_ne hmp7 hrow7)
            have hb8 := hb7.grown hgrow7 (by rw [hss]; omega) (fun j hj => (hrow7.lt j hj).1)
            have htab8 := own_grown Hts7.out.tab hgrow7 fun r hr he => by
              obtain ⟨cs1, fr1, h4⟩ := own_ty Hts7.out.tab he
              obtain ⟨cs2, fr2, h5⟩ := own_ty hrow7 hr
              rw [h4] at h5
              cases h5
            rw [hml] at htab8
            have hc8 := (htab8.cellAt i (by omega)).trans Hx.out
            have hf8 := htab8.frozenAt i
            have hput := TS.put (k := k) (g := g) (c := cap) Hts7.out Hx.out Hli.out hgrow7 rfl (by rw [hll]; exact hown7) (hlies.imp id fun e => e.trans hss.symm)
            rw [Hset.out, hll] at hput
            have Hput := Lib.hid hput
            have hAg := (own_lt htab8).1
            have Hmp9 := Lib.hid (hmp8.setCell (a := ⟨Ag, i, none⟩) (fun e => map_ne hmp8 htab8 (by rw [e]; rfl)) (.slice (some ⟨g, 0, none⟩) (q + 1) cap))
            have Hb9 := Lib.hid (hb8.setCell (show w4.heap.size ≤ (⟨Ag, i, none⟩ : Addr).block from hAg) (.slice (some ⟨g, 0, none⟩) (q + 1) cap))
            clear hput htab8 hown7 hrow7 hmp8 hmp7 hmp6 hb8 hb7
            go_wp2_with fail
            go_roundw
            case rel => exact ⟨k + 1, by omega, by go_num, _, D', Hput.out, Hmp9.out, hmi6, Hb9.out⟩
            case measure => simp [intOf]; omega
        · obtain rfl : k = n := by omega
          have hki : ¬ (k : Int) < (k : Int) := by omega
          have hE := grP_eq gs xs
          have hlen : (stL (grP gs xs) k).length ≤ k := by rw [stL_len]; exact fsL_len _ _
          have hks := hts.ks fun l hl => (stL_mem hE hl).1
          have hfl := KS.filt vals (stL (grP gs xs) k) hks fun i x l h1 h2 => by
            obtain ⟨A5, c5, rfl⟩ := own_sl (hts.row i x l h1 h2)
            rfl
          rw [stL_cls, cls_congr Heq.out] at hfl
          have hsl : Sls vals := fun x hx => by
            obtain ⟨i, hi⟩ := List.mem_iff_getElem?.1 hx
            have hil : i < (stL (grP gs xs) k).length := by rw [← hts.len]; exact (List.getElem?_eq_some_iff.1 hi).1
            have hl := List.getElem?_eq_getElem hil
            obtain ⟨A5, c5, rfl⟩ := own_sl (hts.row i x _ hi hl)
            exact ⟨_, _, _, rfl, by have := (stL_mem hE (List.mem_of_getElem? hl)).2; omega⟩
          obtain ⟨A9, c9, rfl⟩ := own_sl hts.tab
          have Hde := Lib.hid (delete_any w4.heap.size A9 _ c9 vals wr hts.tab hsl (by omega) hbr.size)
          have Hfl := Lib.hid hfl
          clear hfl hks hsl hts hmi hmp
          generalize (stL (grP gs xs) k).length = m at *
          go_wp2_with fail
          refine Hde.out.mono ?_
          rintro e w9 ⟨u, rfl, hown9, hb9, hki9⟩
          have hb19 : Below w.heap.size w w9 := hb14.trans ((hbr.trans hb9).mono hb14.size)
          have hown9' := own_more hown9 hb14.size
          go_wp2_with fail
          go_ret2
          exact ⟨hb19, .inr ⟨hg, k, rfl, .inr ⟨u, _, rfl, hown9', Hfl.out.keep hki9, Hsat.out⟩⟩⟩
    · go_wp2_with fail
      go_ret2
      exact ⟨hb13, .inr ⟨hg, n, rfl, .inl ⟨rfl, fun y hy => hno y fun e he => hy e ((HonA.out e).1 he)⟩⟩⟩
end Go.Proofs.Ytfaebmpdianniaa
