/-
  'Minimal' of package graph, and slices.Reverse.
-/
import Derived.Test.YtolilmodihgaiaaGMinM
import Derived.Test.YtolilmodihgaiaaGSFol2
namespace Go.Proofs.Ytolilmodihgaiaa
open Go Go.RowKit

/-- a list whose first and last i places have been exchanged -/
structure Rv (l q : List Int) (n i : Nat) : Prop where
  len : q.length = n
  at_ : ∀ k, k < n → q[k]? = if k < i ∨ n - i ≤ k then l[n - 1 - k]? else l[k]?
theorem Rv.begin {l : List Int} {n : Nat} (h : l.length = n) : Rv l l n 0 := ⟨h, fun k hk => by rw [if_neg (by omega)]⟩
theorem Rv.next {l q : List Int} {n i : Nat} {x y : Int} (h : Rv l q n i) (hi : i + i + 1 < n) (hx : q[i]? = some x) (hy : q[n - 1 - i]? = some y) : Rv l ((q.set i y).set (n - 1 - i) x) n (i + 1) := by
  have h1 := h.at_ i (by omega)
  have h2 := h.at_ (n - 1 - i) (by omega)
  rw [if_neg (by omega)] at h1 h2
  refine ⟨by simpa using h.len, fun k hk => ?_⟩
  have hl := h.len
  by_cases hk1 : k = n - 1 - i
  · subst hk1
    rw [List.getElem?_set_self (by simp; omega), if_pos (by omega), show n - 1 - (n - 1 - i) = i by omega, ← h1, hx]
  · rw [List.getElem?_set_ne (by omega)]
    by_cases hk2 : k = i
    · subst hk2
      rw [List.getElem?_set_self (by omega), if_pos (by omega), ← h2, hy]
    · rw [List.getElem?_set_ne (by omega), h.at_ k hk]
      by_cases hc : k < i ∨ n - i ≤ k
      · rw [if_pos hc, if_pos (by omega)]
      · rw [if_neg hc, if_neg (by omega)]
theorem Rv.done {l q : List Int} {n i : Nat} (h : Rv l q n i) (hl : l.length = n) (hi : ¬ i + i + 1 < n) : q = l.reverse := by
  refine List.ext_getElem? fun k => ?_
  by_cases hk : k < n
  · rw [h.at_ k hk, List.getElem?_reverse (by omega), hl]
    by_cases hc : k < i ∨ n - i ≤ k
    · rw [if_pos hc]
    · rw [if_neg hc, show n - 1 - k = k by omega]
  · rw [List.getElem?_eq_none (by have := h.len; omega), List.getElem?_eq_none (by simp; omega)]

set_option maxRecDepth 100000 in
set_option maxHeartbeats 2000000 in
theorem reverse_any (base : Nat) (g n c : Nat) (l : List Int) (w : World) (h : w.ownsRow base 3 1 (.slice (some ⟨g, 0, none⟩) n c) n (int1 l)) (hn : n ≤ 100000) :
    Calls Try.prog 48 #[.slice (some ⟨g, 0, none⟩) n c] w fun e w' => e = .returned (.tuple #[]) ∧ w'.ownsRow base 3 1 (.slice (some ⟨g, 0, none⟩) n c) n (int1 l.reverse) ∧ Below base w w' := by
  have hll : l.length = n := by have := h.1; rw [int1_len] at this; omega
  have Hl := Lib.hid hll
  have hgb := (own_lt h).1
  clear hll
  go_enter Try.func48, Try.ntmps48
  go_wp2_with fail
  go_loopw [2, 3] (fun s t wr => ∃ i : Nat, i ≤ n ∧ s = .int .i64 i ∧ t = .int .i64 ((n : Int) - 1 - i) ∧ ∃ q, Rv l q n i ∧ wr.ownsRow base 3 1 (.slice (some ⟨g, 0, none⟩) n c) n (int1 q) ∧ Below base w wr) (fun s _ _ => n - (intOf s).toNat)
  case atStart => exact ⟨0, Nat.zero_le _, rfl, by simp, l, Rv.begin Hl.out, h, Below.refl _ _⟩
  case round =>
    obtain ⟨i, hi, rfl, rfl, q, hrv, hown, hbr⟩ := hrel
    by_cases hlt : i + i + 1 < n
    · have hlt1 : (i : Int) < (n : Int) - 1 - i := by omega
      obtain ⟨x, hx⟩ : ∃ x, q[i]? = some x := ⟨_, List.getElem?_eq_getElem (by have := hrv.len; omega)⟩
      obtain ⟨y, hy⟩ : ∃ y, q[n - 1 - i]? = some y := ⟨_, List.getElem?_eq_getElem (by have := hrv.len; omega)⟩
      obtain ⟨u0, u1⟩ := own_cell hown hx
      obtain ⟨v0, v1⟩ := own_cell hown hy
      have hidx : ((n : Int) - 1 - i).toNat = n - 1 - i := by omega
      have i1 : (n : Int) - 1 - i < n := by omega
      have i2 : 0 ≤ (n : Int) - 1 - i := by omega
      have i3 : (i : Int) < n := by omega
      have Hnx := Lib.hid (hrv.next hlt hx hy)
      have hne : n - 1 - i ≠ i := by omega
      clear hx hy hrv
      have i4 : (i : Int) ≤ (n : Int) - 1 := by omega
      go_wp2_with fail
      have hset : ((wr.setCell ⟨g, i, none⟩ (.int .i64 y)).setCell ⟨g, n - 1 - i, none⟩ (.int .i64 x)).ownsRow base 3 1 (.slice (some ⟨g, 0, none⟩) n c) n (int1 ((q.set i y).set (n - 1 - i) x)) := own_store (own_store hown i y) (n - 1 - i) x
      have hbs : Below base w ((wr.setCell ⟨g, i, none⟩ (.int .i64 y)).setCell ⟨g, n - 1 - i, none⟩ (.int .i64 x)) := (hbr.setCell hgb _).setCell hgb _
      go_region_law (fail)
      all_goals
        generalize (wr.setCell ⟨g, i, none⟩ (.int .i64 y)).setCell ⟨g, n - 1 - i, none⟩ (.int .i64 x) = W at hset hbs ⊢
        go_wp2_with fail
        go_roundw
        case rel => exact ⟨i + 1, by omega, by go_num, by first | (congr 1; omega) | (simp; omega), _, Hnx.out, own_below hset (Below.refl _ _).drew, hbs.drew⟩
        case measure => simp [intOf]; omega
    · have hlt1 : ¬ (i : Int) < (n : Int) - 1 - i := by omega
      have hdone := hrv.done Hl.out hlt
      rw [hdone] at hown
      clear hdone hrv
      go_wp2_with fail
      refine bodyPost_end (v := .tuple #[]) (by simp [results, Try.results48]) rfl ?_
      exact ⟨rfl, hown, hbr⟩
set_option maxRecDepth 100000 in
set_option maxHeartbeats 2000000 in
theorem reverse_none (w : World) : Calls Try.prog 48 #[.slice none 0 0] w fun e w' => e = .returned (.tuple #[]) ∧ w' = w := by
  go_enter Try.func48, Try.ntmps48
  go_wp2_with fail
  go_loopw [2, 3] (fun s t wr => s = .int .i64 0 ∧ t = .int .i64 (-1) ∧ wr = w) (fun s _ _ => 0)
  case atStart => exact ⟨rfl, rfl, rfl⟩
  case round =>
    obtain ⟨rfl, rfl, rfl⟩ := hrel
    go_wp2_with fail
    refine bodyPost_end (v := .tuple #[]) (by simp [results, Try.results48]) rfl ?_
    exact ⟨rfl, rfl⟩

theorem SE.on_congr {w : World} {S OF OU ON N K : Nat} {fo out : Nat → List Edg} {on on' : Nat → Bool} (h : SE w S OF OU ON N K fo out on) (ho : ∀ k, k < K + 1 → on k = on' k) : SE w S OF OU ON N K fo out on' :=
  h.keep (Nat.le_refl _) (fun _ _ _ _ _ => rfl) (fun _ _ => rfl) (fun k hk => by rw [h.k k hk, ho k hk]) h.fr
/-- the marks when these numbers are on -/
def onL (K : Nat) (l : List Nat) : Nat → Bool := fun i => if i = K then true else decide (i ∈ l)
theorem onL_set {K k : Nat} {l l' : List Nat} {x : Bool} (hk : k < K) (hx : x = decide (k ∈ l')) (h : ∀ i, i ≠ k → (i ∈ l ↔ i ∈ l')) (i : Nat) : onL K l' i = if i = k then x else onL K l i := by
  unfold onL
  by_cases hik : i = k
  · subst hik
    rw [if_neg (by omega), if_pos rfl, hx]
  · rw [if_neg hik]
    split
    · rfl
    · exact decide_eq_decide.2 (h i hik).symm
/-- the search while constraints are left out: only its marks have changed since world w3 -/
structure MI (w3 wr : World) (S OF OU ON N K V c : Nat) (fo out : Nat → List Edg) (on : Nat → Bool) (xs : List Int) : Prop where
  bb : BB w3.heap.size ON w3 wr
  k : ∀ k, k < K + 1 → wr.cell? ⟨ON, k, none⟩ = some (.bool (on k))
  fr : ∀ k, wr.frozen? ⟨ON, k, none⟩ = false
section
variable {w3 wr w' : World} {S OF OU ON N K V c : Nat} {fo out : Nat → List Edg} {on on' on0 : Nat → Bool} {xs : List Int}
theorem MI.se (h : MI w3 wr S OF OU ON N K V c fo out on xs) (h3 : SE w3 S OF OU ON N K fo out on0) : SE wr S OF OU ON N K fo out on := by
  obtain ⟨l1, l2, l3, l4⟩ := h3.lt
  obtain ⟨n1, n2, n3, n4, n5⟩ := h3.ne
  refine h3.keep h.bb.size (fun b i hb hS hO => h.bb.cell (p := ⟨b, i, none⟩) hb hO) (fun i _ => h.bb.cell (p := ⟨S, i, none⟩) l1 n3) h.k ⟨?_, h.fr⟩
  exact (World.frozen?_of_block (h.bb.block S l1 n3)).trans h3.fr.1
theorem MI.vs (h : MI w3 wr S OF OU ON N K V c fo out on xs) (h3 : SE w3 S OF OU ON N K fo out on0) (hv : VS w3 S ON N V c xs) : VS wr S ON N V c xs := by
  obtain ⟨l1, l2, l3, l4⟩ := h3.lt
  refine ⟨(h.bb.cell (p := ⟨S, 3, none⟩) l1 h3.ne.2.2.1).trans hv.s3, ⟨hv.own.1, hv.own.2.imp id fun ⟨g, cap, cur, e1, e2, e3, e4⟩ => ⟨g, cap, cur, e1, e2, ?_, e4⟩⟩, hv.len, hv.ne⟩
  have hg : g = V := by cases e1; rfl
  exact (h.bb.block g (Array.getElem?_eq_some_iff.1 e3).1 (by rw [hg]; exact hv.ne.2)).trans e3
theorem MI.begin (h3 : SE w3 S OF OU ON N K fo out on) : MI w3 w3 S OF OU ON N K V c fo out on xs := ⟨BB.of (Below.refl _ _), h3.k, h3.fr.2⟩
theorem MI.below (h : MI w3 wr S OF OU ON N K V c fo out on xs) (h3 : SE w3 S OF OU ON N K fo out on0) (hb : Below wr.heap.size wr w') : MI w3 w' S OF OU ON N K V c fo out on xs := by
  have hl : ON < wr.heap.size := Nat.lt_of_lt_of_le h3.lt.2.2.2 h.bb.size
  exact ⟨h.bb.then hb h.bb.size, fun k hk => (hb.cell (p := ⟨ON, k, none⟩) hl).trans (h.k k hk), fun k => (hb.frozen (p := ⟨ON, k, none⟩) hl).trans (h.fr k)⟩
theorem MI.grown {row : Option Nat} (h : MI w3 wr S OF OU ON N K V c fo out on xs) (h3 : SE w3 S OF OU ON N K fo out on0) (hg : wr.grownBy w' row) (hr : ∀ k, row = some k → w3.heap.size ≤ k) : MI w3 w' S OF OU ON N K V c fo out on xs := by
  have h9 := h3.lt.2.2.2
  have hl : ON < wr.heap.size := Nat.lt_of_lt_of_le h9 h.bb.size
  have hn : some ON ≠ row := fun e => by have := hr ON e.symm; omega
  exact ⟨h.bb.grown hg h.bb.size hr, fun k hk => (World.cell?_of_block (a := ⟨ON, k, none⟩) (hg.block ON hl hn)).trans (h.k k hk), fun k => (World.frozen?_of_block (a := ⟨ON, k, none⟩) (hg.block ON hl hn)).trans (h.fr k)⟩
theorem MI.set (h : MI w3 wr S OF OU ON N K V c fo out on xs) {k : Nat} (hk : k < K + 1) (x : Bool) (ho : ∀ i, on' i = if i = k then x else on i) : MI w3 (wr.setCell ⟨ON, k, none⟩ (.bool x)) S OF OU ON N K V c fo out on' xs := by
  refine ⟨h.bb.setT k _, fun i hi => ?_, fun i => by rw [World.frozen?_setCell]; exact h.fr i⟩
  rw [ho]
  by_cases hik : i = k
  · subst hik; rw [if_pos rfl]; exact World.cell?_setCell_same wr ⟨ON, i, none⟩ _ (h.k i hi)
  · rw [if_neg hik]; exact (World.cell?_setCell_other wr ⟨ON, k, none⟩ ⟨ON, i, none⟩ _ (fun e => hik (by injection e with _ e2; exact e2.symm))).trans (h.k i hi)
end
def castL (l : List Nat) : List Int := l.map fun i : Nat => (i : Int)
theorem mem_less {l : List Nat} {i k : Nat} (h : i ≠ k) : i ∈ List.range (k + 1) ++ l ↔ i ∈ List.range k ++ l := by
  rw [List.mem_append, List.mem_append, List.mem_range, List.mem_range]
  exact ⟨fun g => g.elim (fun g => .inl (by omega)) .inr, fun g => g.elim (fun g => .inl (by omega)) .inr⟩
theorem mem_back {l : List Nat} {i k : Nat} (h : i ≠ k) : i ∈ List.range k ++ l ↔ i ∈ List.range k ++ k :: l := by
  rw [List.mem_append, List.mem_append, List.mem_cons]
  exact ⟨fun g => g.elim .inl (fun g => .inr (.inr g)), fun g => g.elim .inl (fun g => g.elim (fun g => absurd g h) .inr)⟩
theorem castL_rev (l : List Nat) : (castL l.reverse).reverse = castL l := by simp [castL]
theorem castL_snoc (l : List Nat) (k : Nat) : castL (l ++ [k]) = castL l ++ [(k : Int)] := by simp [castL]
theorem castL_len (l : List Nat) : (castL l).length = l.length := by simp [castL]

set_option maxRecDepth 100000 in
set_option maxHeartbeats 4000000 in
theorem minimal_any (v : Int) (A : Option Addr) (K cap : Nat) (cs : List LCn) (w : World) (h : CL w w.heap.size A K cs) (hn : K ≤ 9223372036854775807) :
    Calls Try.prog 22 #[.int .i64 v, .slice A K cap] w (MinPost v cs w) := by
  have hva := gvalid_any v A K cap cs w h hn
  have hl : cs.length = K := h.1
  cases hg : gvld v cs
  · rw [hg] at hva
    have Hva := Lib.hid hva
    clear hva
    go_enter Try.func22, Try.ntmps22
    go_wp2_with fail
    refine Hva.out.mono ?_
    rintro e w1 ⟨rfl, hb1⟩
    go_wp2_with fail
    go_ret2
    exact ⟨hb1, .inl ⟨hg, rfl⟩⟩
  · rw [hg] at hva
    have Hva := Lib.hid hva
    have Hg := Lib.hid hg
    have Hl := Lib.hid hl
    clear hva
    by_cases h200 : 200 < K
    · have hi200 : (200 : Int) < (K : Int) := by omega
      clear hg hl
      go_enter Try.func22, Try.ntmps22
      go_wp2_with fail
      refine Hva.out.mono ?_
      rintro e w1 ⟨rfl, hb1⟩
      go_wp2_with fail
      go_ret2
      exact ⟨hb1, .inr (.inl ⟨Hg.out, by rw [Hl.out]; exact h200, rfl⟩)⟩
    · have hi200 : ¬ (200 : Int) < (K : Int) := by omega
      obtain ⟨n, rfl, f1, f2, f3⟩ := gvld_parts hg
      have Hcs := Lib.hid f3
      have hGE := ge_of f3
      have hL0 := lst_zero f3
      have hOn := Lib.hid (onA f3)
      rw [hl] at hGE hL0 hOn
      have HGE := Lib.hid hGE
      have HL0 := Lib.hid hL0
      clear hg hl f3 f2 hGE hL0
      go_enter Try.func22, Try.ntmps22
      go_wp2_with fail
      refine Hva.out.mono ?_
      rintro e w1 ⟨rfl, hb1⟩
      have Hbe := Lib.hid (begin_any A K cap n cs w1 ((h.below hb1).more hb1.size) (by omega) (by omega) Hcs.out)
      go_wp2_with fail
      refine Hbe.out.mono ?_
      intro e w2 hpost
      obtain ⟨S, OF, OU, ON, V, rfl, hS1, hO1, hb2, hse, hvs⟩ := beg_is hpost Hl.out (by omega) (by omega) Hcs.out
      clear hpost
      have hX2 : Below w.heap.size w w2 := hb1.trans (hb2.mono hb1.size)
      have had := addAll_any w.heap.size S OF OU ON (n + 1) K V (n + 1) (foC n cs) (outE (esA n cs)) _ _ 0 K w2 hse hvs HGE.out (Nat.zero_le _) (Nat.le_refl _) (by omega) (by omega) HL0.out ⟨by have := hb1.size; omega, by have := hb1.size; omega, hX2.size⟩
      have Had := Lib.hid had
      clear had hse hvs
      go_wp2_with fail
      refine Had.out.mono ?_
      rintro e w3 ⟨r, rfl, hb3, hr⟩
      have hX3 := hX2.trans hb3
      rcases hr with ⟨rfl, hse, V1, c1, xs, hvs, hL⟩ | ⟨rfl, hno⟩
      · have hsat : Hid (Sat (fun e => e ∈ esA n cs) (gx xs)) := fun e he => hL.sat e ((hOn.out e).2 he)
        have hLs : Hid (∀ on : Nat → Bool, Lsw False (OnG (outE (esA n cs)) on) (gx xs)) := fun on => ⟨fun e he => hsat.out e (outE_mem.1 he.1).1, hL.nn, fun hF => hF.elim⟩
        have hub := Lib.hid (HGE.out.bound hvs.len hL (by omega))
        have hse0 : SE w3 S OF OU ON (n + 1) K (foC n cs) (outE (esA n cs)) (onL K (List.range (K - 0) ++ mLeft n cs 0)) := hse.on_congr fun k hk => by
          unfold onr onL
          by_cases hkK : k = K
          · simp [hkK]
          · have : k < K := by omega
            simp [hkK, this, mLeft]
        have HSE := Lib.hid hse0
        have HVS := Lib.hid hvs
        have hMI0 : MI w3 w3 S OF OU ON (n + 1) K V1 c1 (foC n cs) (outE (esA n cs)) (onL K (List.range (K - 0) ++ mLeft n cs 0)) xs := MI.begin hse0
        obtain ⟨i0, hi, hz0, hz1, hz2⟩ := info_parts infoI
        have hlS := hse.lt.1
        have hlO := hse.lt.2.2.2
        clear hse hvs hL hse0
        have hBS : w.heap.size ≤ ON := by have := hb1.size; omega
        go_wp2_with fail
        go_loopw [7, 8] (fun t s wr => ∃ m : Nat, m ≤ K ∧ s = .int .i64 ((K : Int) - 1 - m) ∧ ∃ (A' : Option Addr) (n' c' : Nat), t = .slice A' n' c' ∧ wr.ownsRow w3.heap.size 3 1 (.slice A' n' c') (mLeft n cs m).reverse.length (int1 (castL (mLeft n cs m).reverse)) ∧ MI w3 wr S OF OU ON (n + 1) K V1 c1 (foC n cs) (outE (esA n cs)) (onL K (List.range (K - m) ++ mLeft n cs m)) xs ∧ Below w.heap.size w wr) (fun _ s _ => ((intOf s) + 1).toNat)
        case atStart => exact ⟨0, Nat.zero_le _, by simp, none, 0, 0, rfl, World.ownsRow_nil _ _ _ _, hMI0, hX3⟩
        case round =>
          clear hMI0 hX3
          obtain ⟨m, hm, rfl, A', n', c', rfl, hown, hMI, hbr⟩ := hrel
          by_cases hlt : m < K
          · obtain ⟨k, hk⟩ : ∃ k, K = k + 1 + m := ⟨K - 1 - m, by omega⟩
            have hs : (K : Int) - 1 - (m : Int) = (k : Int) := by omega
            have hKm : K - m = k + 1 := by omega
            have hKm1 : K - (m + 1) = k := by omega
            have hlen : cs.length = k + 1 + m := by rw [Hl.out]; exact hk
            have Hidx : Hid (Value.int .i64 ((k : Int) - 1) = Value.int .i64 ((K : Int) - 1 - ((m + 1 : Nat) : Int))) := by rw [Hid]; congr 1; omega
            have hin : Hid (∀ i ∈ mLeft n cs m, k < i ∧ i < K) := fun i hi => by have := mLeft_in (n := n) (cs := cs) (m := m) (by omega) i hi; have := Hl.out; omega
            rw [hKm] at hMI
            rw [hs]
            have s2 := (hMI.se HSE.out).s2
            have c0 := hMI.k k (by omega)
            have c1' := hMI.fr k
            have hMI1 : MI w3 (wr.setCell ⟨ON, k, none⟩ (.bool false)) S OF OU ON (n + 1) K V1 c1 (foC n cs) (outE (esA n cs)) (onL K (List.range k ++ mLeft n cs m)) xs := hMI.set (by omega) false fun i => onL_set (by omega) (by
              refine (decide_eq_false fun h9 => ?_).symm
              rcases List.mem_append.1 h9 with h9 | h9
              · have := List.mem_range.1 h9; omega
              · have := hin.out k h9; omega) (fun i hi => mem_less hi) i
            have hrow : ∀ (A' : Option Addr) (n' c' : Nat) (W : World) (q : List Value) (z : Nat), W.ownsRow w3.heap.size 3 1 (.slice A' n' c') z q → (Value.slice A' n' c').ownBlock ≠ some ON := fun _ _ _ _ _ _ h9 e9 => by have := (h9.lt ON e9).1; omega
            have hown1 := own_other hown (hrow _ _ _ _ _ _ hown) k (.bool false)
            have hbr1 : Below w.heap.size w (wr.setCell ⟨ON, k, none⟩ (.bool false)) := hbr.setCell hBS _
            have hki : (k : Int) < (K : Int) + 1 := by omega
            have Hrow := Lib.hid hrow
            generalize hW1 : wr.setCell ⟨ON, k, none⟩ (.bool false) = W1 at hMI1 hown1 hbr1
            have hSl := Nat.lt_of_lt_of_le hlS hMI1.bb.size
            have hsf := sfollows2_any S OF OU ON (n + 1) K V1 c1 (foC n cs) (outE (esA n cs)) (onL K (List.range k ++ mLeft n cs m)) xs k W1 (hMI1.se HSE.out) (hMI1.vs HSE.out HVS.out) HGE.out (by omega) (by omega) (hLs.out _) hub.out
            have hfe : folB (Sat (OnG (outE (esA n cs)) (onL K (List.range k ++ mLeft n cs m)))) (foC n cs k) = mFol n cs k (mLeft n cs m) := by
              refine folB_congr (fun y => ?_) (fun y => Iff.rfl)
              rw [← Hl.out]
              exact sat_on fun i hi => by
                rcases List.mem_append.1 hi with h9 | h9
                · have := List.mem_range.1 h9; omega
                · have := (hin.out i h9).2; omega
            rw [hfe] at hsf
            clear hs hk hKm hMI hrow hfe
            cases hf : mFol n cs k (mLeft n cs m)
            · rw [hf] at hsf
              have Hsf := Lib.hid hsf
              have hno := mLeft_no hlen hf
              have Hst : Hid ((mLeft n cs (m + 1)).reverse = (mLeft n cs m).reverse ++ [k]) := by rw [Hid, hno]; simp
              have hset : Hid (∀ i, onL K (List.range (K - (m + 1)) ++ mLeft n cs (m + 1)) i = if i = k then true else onL K (List.range k ++ mLeft n cs m) i) := fun i => by
                rw [hno, hKm1]
                exact onL_set (by omega) (by simp) (fun i hi => mem_back hi) i
              have hql : (mLeft n cs m).reverse.length ≤ 200 := by
                have := mLeft_len (n := n) (cs := cs) (m := m)
                simp; omega
              clear hsf hf hno hlen
              generalize (mLeft n cs m).reverse = q at hown1 Hst hql hown
              go_wp2_with fail
              refine Hsf.out.mono ?_
              rintro e w4 ⟨rfl, hb4⟩
              have hMI4 := hMI1.below HSE.out hb4
              have t2 := (hMI4.se HSE.out).s2
              have d0 := hMI4.k k (by omega)
              have d1 := hMI4.fr k
              have hown4 := own_below hown1 hb4
              have hbr4 := hbr1.trans (hb4.mono hbr1.size)
              have hMI5 := hMI4.set (k := k) (by omega) true hset.out
              have hown5 := own_other hown4 (Hrow.out _ _ _ _ _ _ hown4) k (.bool true)
              have hbr5 : Below w.heap.size w (w4.setCell ⟨ON, k, none⟩ (.bool true)) := hbr4.setCell hBS _
              have hs5 := hMI5.bb.size
              generalize hW5 : w4.setCell ⟨ON, k, none⟩ (.bool true) = W5 at hMI5 hown5 hbr5 hs5
              have hownX : ∀ W, Below W5.heap.size W5 W → W.ownsRow w3.heap.size 3 1 (.slice A' n' c') q.length (int1 (castL q)) := fun W hW => own_below hown5 hW
              go_wp2_with (at_builtin; refine wpList_append_own _ rfl _ _ 25 rfl w3.heap.size 3 i0 (.int .i64 0) 1 8 Try.underlying25 hi hz0 hz1 hz2 rfl (by decide) (.slice A' n' c') q.length (int1 (castL q)) rfl (hownX _ ((Below.refl _ W5).alloc (Nat.le_refl _) _)) _ 1 1 [.int .i64 k] rfl rfl (newI rfl) newI_one (by unfold maxLen; omega) (by omega) (by simp; omega) ?_)
              intro v6 w6 hown6 hgrow6 _
              have hMI6 := (hMI5.below HSE.out ((Below.refl _ W5).alloc (Nat.le_refl _) (.cells #[.int .i64 k] 3))).grown HSE.out hgrow6 (fun j hj => (hown5.lt j hj).1)
              have hbr6 : Below w.heap.size w w6 := (hbr5.alloc hbr5.size (.cells #[.int .i64 k] 3)).grown hgrow6 (by have := hbr5.size; simp; omega) (fun j hj => by have := (hown5.lt j hj).1; omega)
              have hown7 : w6.ownsRow w3.heap.size 3 1 v6 (q ++ [k]).length (int1 (castL (q ++ [k]))) := by
                rw [castL_snoc, int1_app, List.length_append]
                exact hown6
              obtain ⟨A7, n7, c7, rfl⟩ : ∃ A n c, v6 = Value.slice A n c := by
                obtain ⟨A, c, h, _⟩ := il_own (l := castL (q ++ [k])) hown7
                exact ⟨_, _, _, h⟩
              clear hown6 hgrow6 hownX
              go_wp2_with fail
              go_roundw
              case rel => exact ⟨m + 1, by omega, Hidx.out, A7, n7, c7, rfl, by rw [Hst.out]; exact hown7, hMI6, hbr6⟩
              case measure => simp [intOf] <;> omega
            · rw [hf] at hsf
              have Hsf := Lib.hid hsf
              have hyes := Lib.hid (mLeft_yes hlen hf)
              clear hsf hf hlen
              go_wp2_with fail
              refine Hsf.out.mono ?_
              rintro e w4 ⟨rfl, hb4⟩
              have hMI4 := hMI1.below HSE.out hb4
              have hown4 := own_below hown1 hb4
              have hbr4 := hbr1.trans (hb4.mono hbr1.size)
              go_wp2_with fail
              go_roundw
              case rel => exact ⟨m + 1, by omega, Hidx.out, A', n', c', rfl, by rw [hyes.out]; exact hown4, by rw [hyes.out, hKm1]; exact hMI4, hbr4⟩
              case measure => simp [intOf] <;> omega
          · have hmK : m = K := by omega
            have hs : ¬ (0 : Int) ≤ (K : Int) - 1 - (m : Int) := by omega
            rw [hmK] at hown
            have hcs : mLeft n cs K = mLeft n cs cs.length := by rw [Hl.out]
            have hmin : Hid (castL (mLeft n cs K) = minL n cs) := by rw [Hid, hcs]; rfl
            have hml : Hid ((minL n cs).length = (mLeft n cs K).length) := by rw [Hid, ← hmin.out, castL_len]
            have hll : (mLeft n cs K).length ≤ 200 := by have := mLeft_len (n := n) (cs := cs) (m := K); omega
            have hrevl : (mLeft n cs K).reverse.length = (mLeft n cs K).length := by simp
            have hrv := Lib.hid (castL_rev (mLeft n cs K))
            rw [hrevl] at hown
            have hex : Hid (∃ y, Sat (fun e => e ∈ esA n cs) y) := ⟨_, hsat.out⟩
            have hl200 : Hid (cs.length ≤ 200) := by rw [Hid, Hl.out]; omega
            have hown0 := hown
            have hw3 : w.heap.size ≤ w3.heap.size := by have := hX2.size; have := hb3.size; omega
            clear hmK hcs hrevl hMI
            generalize (mLeft n cs K).length = z at hown hown0 hml hll
            generalize castL (mLeft n cs K).reverse = q at hown hown0 hrv
            rcases hown0.2 with ⟨he, hz⟩ | ⟨g, cp, cur, he, hg1, hg2, _⟩
            · cases he
              subst hz
              have hq : q = [] := by
                have := hown.1
                rw [int1_len] at this
                exact List.eq_nil_of_length_eq_zero (by omega)
              rw [hq] at hrv
              have hm0 : minL n cs = [] := by rw [← hmin.out, ← hrv.out]; rfl
              have Hm0 := Lib.hid hm0
              clear hm0 hq
              go_wp2_with fail
              refine (reverse_none _).mono ?_
              rintro e w5 ⟨rfl, rfl⟩
              go_wp2_with fail
              go_ret2
              exact ⟨hbr, .inr (.inr ⟨Hg.out, hl200.out, n, rfl, .inr ⟨hex.out, _, rfl, by rw [Hm0.out]; exact World.ownsRow_nil _ _ _ _⟩⟩)⟩
            · obtain ⟨rfl, rfl, rfl⟩ : A' = some ⟨g, 0, none⟩ ∧ n' = z ∧ c' = cp := by cases he; exact ⟨rfl, rfl, rfl⟩
              have hR := Lib.hid (reverse_any w3.heap.size g n' c' q wr hown (by omega))
              clear hown0 he hg2
              go_wp2_with fail
              with_reducible refine hR.out.mono ?_
              rintro e w5 ⟨rfl, hown5, hb5⟩
              go_wp2_with fail
              go_ret2
              rw [hrv.out, hmin.out] at hown5
              exact ⟨hbr.trans (hb5.mono hw3), .inr (.inr ⟨Hg.out, hl200.out, n, rfl, .inr ⟨hex.out, _, rfl, by rw [hml.out]; exact own_lower hown5 hw3⟩⟩)⟩
      · have Hno : Hid (∀ y, Sat (fun e => e ∈ esA n cs) y → False) := fun y hy => hno y fun e he => hy e ((hOn.out e).1 he)
        clear hno
        go_wp2_with fail
        go_ret2
        exact ⟨hX3, .inr (.inr ⟨Hg.out, by rw [Hl.out]; omega, n, rfl, .inl ⟨rfl, Hno.out⟩⟩)⟩
end Go.Proofs.Ytolilmodihgaiaa
