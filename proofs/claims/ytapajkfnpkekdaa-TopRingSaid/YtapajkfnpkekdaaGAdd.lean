/-
  'add' and 'addAll' of package graph: constraints are turned on, one after another.
-/
import Derived.Test.YtapajkfnpkekdaaGWith
namespace Go.Proofs.Ytapajkfnpkekdaa
open Go Go.RowKit

/-- the rows of edges and the marks of a search; its numbers are told beside it -/
structure SE (w : World) (S OF OU ON N K : Nat) (fo out : Nat → List Edg) (on : Nat → Bool) : Prop where
  s0 : w.cell? ⟨S, 0, none⟩ = some (.slice (some ⟨OF, 0, none⟩) K K)
  s1 : w.cell? ⟨S, 1, none⟩ = some (.slice (some ⟨OU, 0, none⟩) N N)
  s2 : w.cell? ⟨S, 2, none⟩ = some (.slice (some ⟨ON, 0, none⟩) (K + 1) (K + 1))
  f : ∀ k, k < K → ∃ A m c, w.cell? ⟨OF, k, none⟩ = some (.slice A m c) ∧ EL w w.heap.size A m (fo k) ∧ (0 < m ∧ m ≤ 1000) ∧ ∀ b off, A = some ⟨b, off, none⟩ → b ≠ S ∧ b ≠ ON ∧ b < w.heap.size
  o : ∀ v, v < N → ∃ A m c, w.cell? ⟨OU, v, none⟩ = some (.slice A m c) ∧ EL w w.heap.size A m (out v) ∧ m ≤ 9223372036854775807 ∧ ∀ b off, A = some ⟨b, off, none⟩ → b ≠ S ∧ b ≠ ON ∧ b < w.heap.size
  k : ∀ k, k < K + 1 → w.cell? ⟨ON, k, none⟩ = some (.bool (on k))
  fr : w.frozen? ⟨S, 3, none⟩ = false ∧ ∀ k, w.frozen? ⟨ON, k, none⟩ = false
  ne : S ≠ OF ∧ S ≠ OU ∧ S ≠ ON ∧ OF ≠ ON ∧ OU ≠ ON
  lt : S < w.heap.size ∧ OF < w.heap.size ∧ OU < w.heap.size ∧ ON < w.heap.size
section
variable {w w' : World} {S OF OU ON N K : Nat} {fo out : Nat → List Edg} {on : Nat → Bool}
theorem SE.sr (h : SE w S OF OU ON N K fo out on) (V : Nat) (hV : w.heap.size ≤ V) : SR w S OU ON N (K + 1) out on V := by
  obtain ⟨l1, l2, l3, l4⟩ := h.lt
  refine ⟨h.s1, h.s2, fun v hv => ?_, h.k, ⟨by omega, by omega, by omega⟩, ⟨l1, l3, l4⟩⟩
  obtain ⟨A, m, c, h1, h2, h3, h4⟩ := h.o v hv
  exact ⟨A, m, c, h1, h2, h3, fun b off e => by have := (h4 b off e).2.2; omega⟩
/-- what keeps every cell of other blocks than S and ON -/
theorem SE.keep {on' : Nat → Bool} (h : SE w S OF OU ON N K fo out on) (hs : w.heap.size ≤ w'.heap.size) (hc : ∀ b i, b < w.heap.size → b ≠ S → b ≠ ON → w'.cell? ⟨b, i, none⟩ = w.cell? ⟨b, i, none⟩) (h3 : ∀ i, i < 3 → w'.cell? ⟨S, i, none⟩ = w.cell? ⟨S, i, none⟩)
    (hk : ∀ k, k < K + 1 → w'.cell? ⟨ON, k, none⟩ = some (.bool (on' k))) (hf : w'.frozen? ⟨S, 3, none⟩ = false ∧ ∀ k, w'.frozen? ⟨ON, k, none⟩ = false) : SE w' S OF OU ON N K fo out on' := by
  obtain ⟨l1, l2, l3, l4⟩ := h.lt
  obtain ⟨n1, n2, n3, n4, n5⟩ := h.ne
  refine ⟨(h3 0 (by omega)).trans h.s0, (h3 1 (by omega)).trans h.s1, (h3 2 (by omega)).trans h.s2, fun k hkk => ?_, fun v hv => ?_, hk, hf, h.ne, ⟨by omega, by omega, by omega, by omega⟩⟩
  · obtain ⟨A, m, c, h1, h2, h5, h4⟩ := h.f k hkk
    exact ⟨A, m, c, (hc OF k l2 (Ne.symm n1) n4).trans h1, (h2.keep fun b off e hb i => hc b i hb (h4 b off e).1 (h4 b off e).2.1).more hs, h5, fun b off e => ⟨(h4 b off e).1, (h4 b off e).2.1, by have := (h4 b off e).2.2; omega⟩⟩
  · obtain ⟨A, m, c, h1, h2, h5, h4⟩ := h.o v hv
    exact ⟨A, m, c, (hc OU v l3 (Ne.symm n2) n5).trans h1, (h2.keep fun b off e hb i => hc b i hb (h4 b off e).1 (h4 b off e).2.1).more hs, h5, fun b off e => ⟨(h4 b off e).1, (h4 b off e).2.1, by have := (h4 b off e).2.2; omega⟩⟩
theorem SE.below (h : SE w S OF OU ON N K fo out on) (hb : Below w.heap.size w w') : SE w' S OF OU ON N K fo out on :=
  h.keep hb.size (fun b i hl _ _ => hb.cell (p := ⟨b, i, none⟩) hl) (fun i _ => hb.cell (p := ⟨S, i, none⟩) h.lt.1) (fun k hk => (hb.cell (p := ⟨ON, k, none⟩) h.lt.2.2.2).trans (h.k k hk))
    ⟨(hb.frozen (p := ⟨S, 3, none⟩) h.lt.1).trans h.fr.1, fun k => (hb.frozen (p := ⟨ON, k, none⟩) h.lt.2.2.2).trans (h.fr.2 k)⟩
theorem SE.put (h : SE w S OF OU ON N K fo out on) (u : Value) : SE (w.setCell ⟨S, 3, none⟩ u) S OF OU ON N K fo out on :=
  h.keep (by rw [World.size_setCell]; exact Nat.le_refl _) (fun b i _ h1 _ => World.cell?_setCell_other w ⟨S, 3, none⟩ ⟨b, i, none⟩ u (fun e => h1 (by injection e with e1; exact e1.symm))) (fun i hi => World.cell?_setCell_other w ⟨S, 3, none⟩ ⟨S, i, none⟩ u (fun e => by injection e with _ e2; omega))
    (fun k hk => (World.cell?_setCell_other w ⟨S, 3, none⟩ ⟨ON, k, none⟩ u (fun e => h.ne.2.2.1 (by injection e))).trans (h.k k hk)) ⟨by rw [World.frozen?_setCell]; exact h.fr.1, fun k => by rw [World.frozen?_setCell]; exact h.fr.2 k⟩
theorem SE.turn (h : SE w S OF OU ON N K fo out on) {k : Nat} (hk : k < K + 1) : SE (w.setCell ⟨ON, k, none⟩ (.bool true)) S OF OU ON N K fo out (fun i => if i = k then true else on i) :=
  h.keep (by rw [World.size_setCell]; exact Nat.le_refl _) (fun b i _ _ h1 => World.cell?_setCell_other w ⟨ON, k, none⟩ ⟨b, i, none⟩ _ (fun e => h1 (by injection e with e1; exact e1.symm))) (fun i _ => World.cell?_setCell_other w ⟨ON, k, none⟩ ⟨S, i, none⟩ _ (fun e => h.ne.2.2.1 (by injection e with e1; exact e1.symm)))
    (fun i hi => by
      by_cases hik : i = k
      · subst hik; rw [if_pos rfl]; exact World.cell?_setCell_same w ⟨ON, i, none⟩ _ (h.k i hi)
      · rw [if_neg hik]; exact (World.cell?_setCell_other w ⟨ON, k, none⟩ ⟨ON, i, none⟩ _ (fun e => hik (by injection e with _ e2; exact e2.symm))).trans (h.k i hi)) ⟨by rw [World.frozen?_setCell]; exact h.fr.1, fun k => by rw [World.frozen?_setCell]; exact h.fr.2 k⟩
end
/-- the numbers of a search -/
structure VS (w : World) (S ON N V c : Nat) (xs : List Int) : Prop where
  s3 : w.cell? ⟨S, 3, none⟩ = some (.slice (some ⟨V, 0, none⟩) N c)
  own : w.ownsRow 0 3 1 (.slice (some ⟨V, 0, none⟩) N c) N (int1 xs)
  len : xs.length = N
  ne : V ≠ S ∧ V ≠ ON
theorem VS.below {w w' : World} {S ON N V c : Nat} {xs : List Int} (h : VS w S ON N V c xs) (hS : S < w.heap.size) (hb : Below w.heap.size w w') : VS w' S ON N V c xs :=
  ⟨(hb.cell (p := ⟨S, 3, none⟩) hS).trans h.s3, own_below h.own hb, h.len, h.ne⟩

/-- what the edges of the search are -/
structure GE (N K : Nat) (fo out : Nat → List Edg) : Prop where
  ok : OkG N (K + 1) out
  of : ∀ k, k < K → ∀ e, e ∈ fo k ↔ e ∈ out e.f ∧ e.k = k
  one : ∀ k, k < K → ∃ t, t < N ∧ ∀ e ∈ fo k, e.t = t
theorem GE.bound {N K : Nat} {fo out : Nat → List Edg} (h : GE N K fo out) {on : Nat → Bool} {xs : List Int} (hl : xs.length = N) (hL : Lst (OnG out on) (gx xs)) (hN : N ≤ 2000) (v : Nat) : gx xs v ≤ 2000000 := by
  have h1 := hL.bound (N := N) (fun e he => by
    have h2 := h.ok.ok e.f e he.1
    refine ⟨Classical.byContradiction fun h3 => ?_, h2.2.1, h2.2.2.2.2⟩
    have h4 := h.ok.hi e.f (by omega)
    have h5 := he.1
    rw [h4] at h5
    cases h5) (fun u hu => by unfold gx; rw [List.getD_eq_getElem?_getD, List.getElem?_eq_none (by omega)]; rfl) v
  omega

/-- what add and addAll say -/
def AddPost (B0 S OF OU ON N K : Nat) (fo out : Nat → List Edg) (on' : Nat → Bool) (w : World) (e : Ending) (w' : World) : Prop :=
  ∃ r : Int, e = .returned (.int .i64 r) ∧ Below B0 w w' ∧ (r = 0 ∧ SE w' S OF OU ON N K fo out on' ∧ (∃ V c xs, VS w' S ON N V c xs ∧ Lst (OnG out on') (gx xs)) ∨ r = 1 ∧ ∀ y, Sat (OnG out on') y → False)

set_option maxRecDepth 100000 in
set_option maxHeartbeats 2000000 in
theorem add_any (B0 S OF OU ON N K V c : Nat) (fo out : Nat → List Edg) (on : Nat → Bool) (xs : List Int) (k : Nat) (w : World) (hE : SE w S OF OU ON N K fo out on) (hV : VS w S ON N V c xs) (hG : GE N K fo out) (hk : k < K) (hN : N ≤ 2000)
    (hL : Lst (OnG out on) (gx xs)) (hB : B0 ≤ S ∧ B0 ≤ ON ∧ B0 ≤ w.heap.size) :
    Calls Try.prog 18 #[.pointer (some ⟨S, 0, none⟩), .int .i64 k] w (AddPost B0 S OF OU ON N K fo out (fun i => if i = k then true else on i) w) := by
  obtain ⟨B1, B2, B3⟩ := hB
  obtain ⟨A, m, cf, hc, hel, hm, hblk⟩ := hE.f k hk
  obtain ⟨t, ht, hto⟩ := hG.one k hk
  have hon : ∀ e, OnG out (fun i => if i = k then true else on i) e → OnG out on e ∨ e ∈ fo k := fun e he => by
    by_cases h1 : e.k = k
    · exact .inr ((hG.of k hk e).2 ⟨he.1, h1⟩)
    · have h2 := he.2; dsimp only at h2; rw [if_neg h1] at h2; exact .inl ⟨he.1, h2⟩
  have hon2 : ∀ e, OnG out on e ∨ e ∈ fo k → OnG out (fun i => if i = k then true else on i) e := fun e he => by
    rcases he with he | he
    · refine ⟨he.1, ?_⟩
      by_cases h1 : e.k = k
      · simp [h1]
      · simp [h1, he.2]
    · have h1 := (hG.of k hk e).1 he
      exact ⟨h1.1, by simp [h1.2]⟩
  have hwi := with_any S OU ON N (K + 1) V c out on A m cf (fo k) t xs w hE.sr hG.ok hV.s3 hV.own hel hm.1 hm.2 (fun e he => by
    have h1 := (hG.of k hk e).1 he
    have h2 := hG.ok.ok e.f e h1.1
    refine ⟨Classical.byContradiction fun h3 => ?_, hto e he, by have := h2.2.2.2.1; omega, by have := h2.2.2.2.2; omega⟩
    have h4 := hG.ok.hi e.f (by omega)
    have h5 := h1.1
    rw [h4] at h5
    cases h5) ht hN hL (hG.bound hV.len hL hN)
  have Hwi := Lib.hid hwi
  have Hon := Lib.hid hon
  have Hon2 := Lib.hid hon2
  have s0 := hE.s0
  have hki : (k : Int) < (K : Int) := by omega
  have HE := Lib.hid hE
  have HV := Lib.hid hV
  clear hwi hon hon2 hE hV hel hto
  go_enter Try.func18, Try.ntmps18
  go_wp2_with fail
  refine Hwi.out.mono ?_
  rintro e w1 ⟨r, V1, c1, xs1, rfl, hl1, ho1, hv1, hb1, hr⟩
  have hE1 := HE.out.below hb1
  have hV1 := HV.out.below HE.out.lt.1 hb1
  obtain ⟨l1, l2, l3, l4⟩ := HE.out.lt
  have hVne : V1 ≠ S ∧ V1 ≠ ON := by
    rcases hv1 with rfl | h
    · exact HV.out.ne
    · omega
  rcases hr with ⟨rfl, hL1⟩ | ⟨rfl, hno⟩
  · have t2 := hE1.s2
    have t3 := hV1.s3
    have t4 := hE1.k k (by omega)
    have t5 := hE1.fr.1
    have t6 := hE1.fr.2 k
    have hki2 : (k : Int) < (K : Int) + 1 := by omega
    have t7 := (World.cell?_setCell_other w1 ⟨S, 3, none⟩ ⟨ON, k, none⟩ (.slice (some ⟨V1, 0, none⟩) N c1) (fun e => hE1.ne.2.2.1 (by injection e))).trans t4
    have hE2 := (hE1.put (.slice (some ⟨V1, 0, none⟩) N c1)).turn (k := k) (by omega)
    have hs3 := World.cell?_setCell_same w1 ⟨S, 3, none⟩ (.slice (some ⟨V1, 0, none⟩) N c1) t3
    have hV2 : VS ((w1.setCell ⟨S, 3, none⟩ (.slice (some ⟨V1, 0, none⟩) N c1)).setCell ⟨ON, k, none⟩ (.bool true)) S ON N V1 c1 xs1 :=
      ⟨(World.cell?_setCell_other _ ⟨ON, k, none⟩ ⟨S, 3, none⟩ _ (fun e => hE1.ne.2.2.1 (by injection e with e1; exact e1.symm))).trans hs3, own_other (own_other ho1 (by simp [Value.ownBlock]; omega) _ _) (by simp [Value.ownBlock]; omega) _ _, hl1, hVne⟩
    have HE2 := Lib.hid hE2
    have HV2 := Lib.hid hV2
    have hbel : Below B0 w ((w1.setCell ⟨S, 3, none⟩ (.slice (some ⟨V1, 0, none⟩) N c1)).setCell ⟨ON, k, none⟩ (.bool true)) := ((hb1.mono B3).setCell B1 _).setCell B2 _
    have Hbel := Lib.hid hbel
    clear hE2 hV2 hbel hs3 t4
    go_wp2_with fail
    go_ret
    exact ⟨0, rfl, Hbel.out, .inl ⟨rfl, HE2.out, V1, c1, xs1, HV2.out, ⟨fun e he => hL1.sat e (Hon.out e he), hL1.nn, fun y hy hn => hL1.least y (fun e he => hy e (Hon2.out e he)) hn⟩⟩⟩
  · go_wp2_with fail
    go_ret
    exact ⟨1, rfl, hb1.mono B3, .inr ⟨rfl, fun y hy => hno y (fun e he => hy e (Hon2.out e (.inl he))) fun e he => hy e (Hon2.out e (.inr he))⟩⟩

/-- the marks when those from a up to b have been turned on too -/
def onr (a b : Nat) (on : Nat → Bool) : Nat → Bool := fun i => on i || (decide (a ≤ i) && decide (i < b))
theorem onr_same (a : Nat) (on : Nat → Bool) : onr a a on = on := by
  funext i
  unfold onr
  by_cases h : a ≤ i
  · rw [decide_eq_false (show ¬ i < a by omega)]; simp
  · rw [decide_eq_false h]; simp
theorem onr_next {a b : Nat} (h : a ≤ b) (on : Nat → Bool) : (fun i => if i = b then true else onr a b on i) = onr a (b + 1) on := by
  funext i
  unfold onr
  by_cases hi : i = b
  · rw [if_pos hi, hi, decide_eq_true h, decide_eq_true (show b < b + 1 by omega)]; simp
  · rw [if_neg hi]
    by_cases h2 : i < b
    · rw [decide_eq_true h2, decide_eq_true (show i < b + 1 by omega)]
    · rw [decide_eq_false h2, decide_eq_false (show ¬ i < b + 1 by omega)]
theorem onr_mono {a b b' : Nat} (h : b ≤ b') {on : Nat → Bool} {i : Nat} (hi : onr a b on i = true) : onr a b' on i = true := by
  unfold onr at hi ⊢
  simp only [Bool.or_eq_true, Bool.and_eq_true, decide_eq_true_eq] at hi ⊢
  rcases hi with hi | hi
  · exact .inl hi
  · exact .inr ⟨hi.1, by omega⟩

set_option maxRecDepth 100000 in
set_option maxHeartbeats 2000000 in
theorem addAll_any (B0 S OF OU ON N K V c : Nat) (fo out : Nat → List Edg) (on : Nat → Bool) (xs : List Int) (a b : Nat) (w : World) (hE : SE w S OF OU ON N K fo out on) (hV : VS w S ON N V c xs) (hG : GE N K fo out) (hab : a ≤ b) (hb : b ≤ K) (hK : K ≤ 100000) (hN : N ≤ 2000)
    (hL : Lst (OnG out on) (gx xs)) (hB : B0 ≤ S ∧ B0 ≤ ON ∧ B0 ≤ w.heap.size) :
    Calls Try.prog 13 #[.pointer (some ⟨S, 0, none⟩), .int .i64 a, .int .i64 b] w (AddPost B0 S OF OU ON N K fo out (onr a b on) w) := by
  have HE := Lib.hid hE
  have HV := Lib.hid hV
  have HL := Lib.hid hL
  have HG := Lib.hid hG
  clear hE hV hL hG
  go_enter Try.func13, Try.ntmps13
  go_wp2_with fail
  go_loopw [7] (fun i wr => ∃ j : Nat, a ≤ j ∧ j ≤ b ∧ i = .int .i64 j ∧ Below B0 w wr ∧ Hid (SE wr S OF OU ON N K fo out (onr a j on) ∧ ∃ V c xs, VS wr S ON N V c xs ∧ Lst (OnG out (onr a j on)) (gx xs))) (fun i _ => b - (intOf i).toNat)
  case atStart => exact ⟨a, Nat.le_refl _, hab, rfl, Below.refl _ _, by rw [Hid, onr_same]; exact ⟨HE.out, V, c, xs, HV.out, HL.out⟩⟩
  case round =>
    obtain ⟨j, hj1, hj2, rfl, hbr, hst⟩ := hrel
    by_cases hlt : j < b
    · have hlt2 : (j : Int) < (b : Int) := by omega
      obtain ⟨hE1, V1, c1, xs1, hV1, hL1⟩ := hst.out
      have had := add_any B0 S OF OU ON N K V1 c1 fo out (onr a j on) xs1 j wr hE1 hV1 HG.out (by omega) hN hL1 ⟨hB.1, hB.2.1, Nat.le_trans hB.2.2 hbr.size⟩
      rw [onr_next hj1] at had
      have Had := Lib.hid had
      clear had hE1 hV1 hL1 hst
      go_wp2_with fail
      refine Had.out.mono ?_
      rintro e w1 ⟨r, rfl, hb1, hr⟩
      rcases hr with ⟨rfl, hE2, hV2⟩ | ⟨rfl, hno⟩
      · have Hst := Lib.hid (And.intro hE2 hV2)
        clear hE2 hV2
        go_wp2_with fail
        go_roundw
        case rel => exact ⟨j + 1, by omega, by omega, by go_num, hbr.trans hb1, Hst.out⟩
        case measure => simp [intOf]; omega
      · go_wp2_with fail
        go_ret
        exact ⟨1, rfl, hbr.trans hb1, .inr ⟨rfl, fun y hy => hno y fun e he => hy e ⟨he.1, onr_mono (by omega) he.2⟩⟩⟩
    · have hjb : j = b := by omega
      subst hjb
      have hlt2 : ¬ (j : Int) < (j : Int) := by omega
      go_wp2_with fail
      go_ret
      exact ⟨0, rfl, hbr, .inl ⟨rfl, hst.out.1, hst.out.2⟩⟩
end Go.Proofs.Ytapajkfnpkekdaa
