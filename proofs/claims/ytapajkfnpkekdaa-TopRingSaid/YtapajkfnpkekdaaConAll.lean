/-
  ConAll: the texts GCons, GSFol, GSFol2, GMin, one behind another.
-/
import Derived.Test.YtapajkfnpkekdaaGWith
import Derived.Test.YtapajkfnpkekdaaGFolM
import Derived.Test.YtapajkfnpkekdaaWitAll
import Derived.Test.YtapajkfnpkekdaaGMinM
/-
  Rows of constraints that a call has made itself: cloned, appended to.
-/
namespace Go.Proofs.Ytapajkfnpkekdaa
open Go Go.RowKit

/-- these cells are those of the constraints -/
def CV (w : World) (B : Nat) (xs : List Value) (cs : List LCn) : Prop :=
  xs.length = cs.length * 4 ∧ ∀ j c, cs[j]? = some c → ∃ v1 v2, xs[j * 4]? = some (.int .i64 c.1.1) ∧ xs[j * 4 + 1]? = some v1 ∧ xs[j * 4 + 2]? = some (.int .i64 c.2.1) ∧ xs[j * 4 + 3]? = some v2 ∧ LvOk w B v1 c.1.2 ∧ LvOk w B v2 c.2.2
theorem CV.nil (w : World) (B : Nat) : CV w B [] [] := ⟨rfl, fun j c h => by simp at h⟩
theorem CV.below {w w' : World} {B : Nat} {xs : List Value} {cs : List LCn} (h : CV w B xs cs) (hb : Below B w w') : CV w' B xs cs :=
  ⟨h.1, fun j c hj => by
    obtain ⟨v1, v2, h0, h1, h2, h3, h4, h5⟩ := h.2 j c hj
    exact ⟨v1, v2, h0, h1, h2, h3, h4.below hb, h5.below hb⟩⟩
theorem LvOk.more' {w : World} {B B' : Nat} {v : Value} {l : List (Int × Int)} (h : LvOk w B v l) (hB : B ≤ B') : LvOk w B' v l := by
  obtain ⟨A, n, c, e, p, q, r⟩ := h
  exact ⟨A, n, c, e, p.more hB, q, r⟩
theorem CV.more {w : World} {B B' : Nat} {xs : List Value} {cs : List LCn} (h : CV w B xs cs) (hB : B ≤ B') : CV w B' xs cs :=
  ⟨h.1, fun j c hj => by
    obtain ⟨v1, v2, h0, h1, h2, h3, h4, h5⟩ := h.2 j c hj
    exact ⟨v1, v2, h0, h1, h2, h3, h4.more' hB, h5.more' hB⟩⟩
theorem CV.one {w : World} {B : Nat} {c : LCn} {v1 v2 : Value} (h1 : LvOk w B v1 c.1.2) (h2 : LvOk w B v2 c.2.2) : CV w B [.int .i64 c.1.1, v1, .int .i64 c.2.1, v2] [c] :=
  ⟨rfl, fun j d hj => by
    match j, hj with
    | 0, hj => simp at hj; subst hj; exact ⟨v1, v2, rfl, rfl, rfl, rfl, h1, h2⟩
    | j + 1, hj => simp at hj⟩
theorem CV.append {w : World} {B : Nat} {xs ys : List Value} {cs ds : List LCn} (h : CV w B xs cs) (g : CV w B ys ds) : CV w B (xs ++ ys) (cs ++ ds) := by
  refine ⟨by rw [List.length_append, List.length_append, h.1, g.1]; omega, fun j c hj => ?_⟩
  have hl := h.1
  by_cases hlt : j < cs.length
  · rw [List.getElem?_append_left hlt] at hj
    obtain ⟨v1, v2, h0, h1, h2, h3, h4, h5⟩ := h.2 j c hj
    exact ⟨v1, v2, by rw [List.getElem?_append_left (by omega)]; exact h0, by rw [List.getElem?_append_left (by omega)]; exact h1, by rw [List.getElem?_append_left (by omega)]; exact h2, by rw [List.getElem?_append_left (by omega)]; exact h3, h4, h5⟩
  · rw [List.getElem?_append_right (by omega)] at hj
    obtain ⟨v1, v2, h0, h1, h2, h3, h4, h5⟩ := g.2 _ c hj
    refine ⟨v1, v2, ?_, ?_, ?_, ?_, h4, h5⟩
    · rw [List.getElem?_append_right (by omega), show j * 4 - xs.length = (j - cs.length) * 4 by omega]; exact h0
    · rw [List.getElem?_append_right (by omega), show j * 4 + 1 - xs.length = (j - cs.length) * 4 + 1 by omega]; exact h1
    · rw [List.getElem?_append_right (by omega), show j * 4 + 2 - xs.length = (j - cs.length) * 4 + 2 by omega]; exact h2
    · rw [List.getElem?_append_right (by omega), show j * 4 + 3 - xs.length = (j - cs.length) * 4 + 3 by omega]; exact h3
theorem four_of {j : Nat} : ∃ k i, j = k * 4 + i ∧ i < 4 := ⟨j / 4, j % 4, by omega, Nat.mod_lt _ (by omega)⟩
theorem CV.oneCell {w : World} {B : Nat} {xs : List Value} {cs : List LCn} (h : CV w B xs cs) : ∀ u ∈ xs, u.oneCell' = true := by
  intro u hu
  obtain ⟨j, hg⟩ := List.mem_iff_getElem?.1 hu
  have hj := (List.getElem?_eq_some_iff.1 hg).1
  have hl := h.1
  obtain ⟨k, i, rfl, hi⟩ := four_of (j := j)
  have hk : k < cs.length := by omega
  obtain ⟨v1, v2, h0, h1, h2, h3, ⟨_, _, _, rfl, _⟩, ⟨_, _, _, rfl, _⟩⟩ := h.2 k _ (List.getElem?_eq_getElem hk)
  clear hj
  match i, hi, hg with
  | 0, _, hg => rw [Nat.add_zero] at hg; rw [h0] at hg; rw [← Option.some.inj hg]; rfl
  | 1, _, hg => rw [h1] at hg; rw [← Option.some.inj hg]; rfl
  | 2, _, hg => rw [h2] at hg; rw [← Option.some.inj hg]; rfl
  | 3, _, hg => rw [h3] at hg; rw [← Option.some.inj hg]; rfl
/-- the cells of constraints that can be read -/
theorem CV.of_cl {w : World} {B n b off : Nat} {cs : List LCn} (h : CL w B (some ⟨b, off, none⟩) n cs) : ∃ xs, CV w B xs cs ∧ ∀ j u, xs[j]? = some u → w.cell? ⟨b, off + j, none⟩ = some u := by
  have hl := h.1
  have hk : ∀ k, k ≤ n → ∃ xs, CV w B xs (cs.take k) ∧ ∀ j u, xs[j]? = some u → w.cell? ⟨b, off + j, none⟩ = some u := by
    intro k
    induction k with
    | zero => intro _; exact ⟨[], CV.nil w B, fun j u hj => by simp at hj⟩
    | succ k ih =>
      intro hkn
      obtain ⟨xs, hx, hc⟩ := ih (by omega)
      obtain ⟨b', off', e, hb, hcc⟩ := h.2 (by omega)
      cases e
      have hck : cs[k]? = some cs[k] := List.getElem?_eq_getElem (by omega)
      obtain ⟨v1, v2, h0, h1, h2, h3, h4, h5⟩ := hcc k _ hck
      refine ⟨xs ++ [.int .i64 cs[k].1.1, v1, .int .i64 cs[k].2.1, v2], ?_, fun j u hj => ?_⟩
      · rw [take_snoc hck]; exact hx.append (CV.one h4 h5)
      · have hxl : xs.length = k * 4 := by rw [hx.1, List.length_take]; omega
        by_cases hj4 : j < k * 4
        · rw [List.getElem?_append_left (by omega)] at hj; exact hc j u hj
        · rw [List.getElem?_append_right (by omega), hxl] at hj
          obtain ⟨i, rfl⟩ : ∃ i, j = k * 4 + i := ⟨j - k * 4, by omega⟩
          rw [show k * 4 + i - k * 4 = i by omega] at hj
          match i, hj with
          | 0, hj => simp at hj; rw [← hj]; exact h0
          | 1, hj => simp at hj; rw [← hj]; exact h1
          | 2, hj => simp at hj; rw [← hj]; exact h2
          | 3, hj => simp at hj; rw [← hj]; exact h3
          | i + 4, hj => simp at hj
  obtain ⟨xs, h1, h2⟩ := hk n (Nat.le_refl _)
  rw [List.take_of_length_le (by omega)] at h1
  exact ⟨xs, h1, h2⟩
/-- such a row reads as its constraints -/
theorem CL.of_own {w : World} {base B n : Nat} {e : TypeId} {v : Value} {xs : List Value} {cs : List LCn} (h : w.ownsRow base e 4 v n xs) (hc : CV w B xs cs) (hB : B ≤ w.heap.size) :
    ∃ A c, v = .slice A n c ∧ CL w w.heap.size A n cs ∧ n ≤ c ∧ c ≤ maxLen := by
  have h0 := h
  have hl := h.1
  have hl2 := hc.1
  have hn : cs.length = n := by omega
  rcases h.2 with ⟨rfl, rfl⟩ | ⟨g, cap, cur, rfl, hb, hg, hcp, hm, hs, ht⟩
  · exact ⟨none, 0, rfl, ⟨hn, fun h => by omega⟩, Nat.le_refl _, Nat.zero_le _⟩
  · have hlt : g < w.heap.size := (Array.getElem?_eq_some_iff.1 hg).1
    refine ⟨_, cap, rfl, ⟨hn, fun _ => ⟨g, 0, rfl, hlt, fun j c hj => ?_⟩⟩, hcp, hm⟩
    have hjl : j < cs.length := (List.getElem?_eq_some_iff.1 hj).1
    obtain ⟨v1, v2, h1, h2, h3, h4, h5, h6⟩ := hc.2 j c hj
    rw [Nat.zero_add]
    exact ⟨v1, v2, (h0.cellAt (j * 4) (by omega)).trans h1, (h0.cellAt (j * 4 + 1) (by omega)).trans h2, (h0.cellAt (j * 4 + 2) (by omega)).trans h3, (h0.cellAt (j * 4 + 3) (by omega)).trans h4, h5.more' hB, h6.more' hB⟩
theorem infoC : (Try.prog.info? 32).map (fun i => (i.zero, i.size, i.bytes)) = some (some (.agg #[.int .i64 0, .slice none 0 0, .int .i64 0, .slice none 0 0]), 4, 64) := by kernel_rfl
/-- a constraint's value -/
def conV (c : LCn) (A1 : Option Addr) (n1 c1 : Nat) (A2 : Option Addr) (n2 c2 : Nat) : List Value := [.int .i64 c.1.1, .slice A1 n1 c1, .int .i64 c.2.1, .slice A2 n2 c2]
theorem news4c {w : World} {a b c d : Value} {ty : TypeId} {q : Nat} (hq : q = w.heap.size) : ∀ j u, [a, b, c, d][j]? = some u → (w.alloc (.cells #[a, b, c, d] ty)).cell? ((⟨q, 0, none⟩ : Addr).add j) = some u := by
  subst hq
  intro j u hj
  match j, hj with
  | 0, hj => simp at hj; subst hj; simp [Addr.add]
  | 1, hj => simp at hj; subst hj; simp [Addr.add]
  | 2, hj => simp at hj; subst hj; simp [Addr.add]
  | 3, hj => simp at hj; subst hj; simp [Addr.add]
  | j + 4, hj => simp at hj

end Go.Proofs.Ytapajkfnpkekdaa

/-
  'follows' of the search of package graph: does a constraint that is off hold in all solutions of those that are on?
-/
namespace Go.Proofs.Ytapajkfnpkekdaa
open Go Go.RowKit

theorem el_one (w : World) (f t : Nat) (b : Int) (ty : TypeId) : EL (w.alloc (.cells #[.int .i64 f, .int .i64 t, .int .i64 b, .int .i64 0] ty)) (w.alloc (.cells #[.int .i64 f, .int .i64 t, .int .i64 b, .int .i64 0] ty)).heap.size (some ⟨w.heap.size, 0, none⟩) 1 [⟨f, t, b, 0⟩] := by
  refine ⟨rfl, fun _ => ⟨w.heap.size, 0, rfl, by simp, fun j e he => ?_⟩⟩
  match j, he with
  | 0, he => simp at he; subst he; simp
  | j + 1, he => simp at he

end Go.Proofs.Ytapajkfnpkekdaa

/-
  'follows' of the search of package graph, from numbers that hold but need not be the least.
-/
namespace Go.Proofs.Ytapajkfnpkekdaa
open Go Go.RowKit

end Go.Proofs.Ytapajkfnpkekdaa

/-
  'Minimal' of package graph, and slices.Reverse.
-/
namespace Go.Proofs.Ytapajkfnpkekdaa
open Go Go.RowKit

/-- a list whose first and last i places have been exchanged -/
structure Rv (l q : List Int) (n i : Nat) : Prop where
  len : q.length = n
  at_ : ∀ k, k < n → q[k]? = if k < i ∨ n - i ≤ k then l[n - 1 - k]? else l[k]?
theorem Rv.begin {l : List Int} {n : Nat} (h : l.length = n) : Rv l l n 0 := ⟨h, fun k hk => by rw [if_neg (by omega)]⟩
theorem Rv.next {l q : List Int} {n i : Nat} {x y : Int} (h : Rv l q n i) (hi : i + i + 1 < n) (hx : q[i]? = some x) (hy : q[n - 1 - i]? = some y) : Rv l ((q.set i y).set (n - 1 - i) x) n (i + 1) := by
  have h1 := h.at_ i (by omega)
  have h2 := h.at_ (n - 1 - i) (by omega)
  rw [if_neg (by omega)] at h1 h2
  refine ⟨by simpa using h.len, fun k hk => ?_⟩
  have hl := h.len
  by_cases hk1 : k = n - 1 - i
  · subst hk1
    rw [List.getElem?_set_self (by simp; omega), if_pos (by omega), show n - 1 - (n - 1 - i) = i by omega, ← h1, hx]
  · rw [List.getElem?_set_ne (by omega)]
    by_cases hk2 : k = i
    · subst hk2
      rw [List.getElem?_set_self (by omega), if_pos (by omega), ← h2, hy]
    · rw [List.getElem?_set_ne (by omega), h.at_ k hk]
      by_cases hc : k < i ∨ n - i ≤ k
      · rw [if_pos hc, if_pos (by omega)]
      · rw [if_neg hc, if_neg (by omega)]
theorem Rv.done {l q : List Int} {n i : Nat} (h : Rv l q n i) (hl : l.length = n) (hi : ¬ i + i + 1 < n) : q = l.reverse := by
  refine List.ext_getElem? fun k => ?_
  by_cases hk : k < n
  · rw [h.at_ k hk, List.getElem?_reverse (by omega), hl]
    by_cases hc : k < i ∨ n - i ≤ k
    · rw [if_pos hc]
    · rw [if_neg hc, show n - 1 - k = k by omega]
  · rw [List.getElem?_eq_none (by have := h.len; omega), List.getElem?_eq_none (by simp; omega)]

theorem SE.on_congr {w : World} {S OF OU ON N K : Nat} {fo out : Nat → List Edg} {on on' : Nat → Bool} (h : SE w S OF OU ON N K fo out on) (ho : ∀ k, k < K + 1 → on k = on' k) : SE w S OF OU ON N K fo out on' :=
  h.keep (Nat.le_refl _) (fun _ _ _ _ _ => rfl) (fun _ _ => rfl) (fun k hk => by rw [h.k k hk, ho k hk]) h.fr
/-- the marks when these numbers are on -/
def onL (K : Nat) (l : List Nat) : Nat → Bool := fun i => if i = K then true else decide (i ∈ l)
theorem onL_set {K k : Nat} {l l' : List Nat} {x : Bool} (hk : k < K) (hx : x = decide (k ∈ l')) (h : ∀ i, i ≠ k → (i ∈ l ↔ i ∈ l')) (i : Nat) : onL K l' i = if i = k then x else onL K l i := by
  unfold onL
  by_cases hik : i = k
  · subst hik
    rw [if_neg (by omega), if_pos rfl, hx]
  · rw [if_neg hik]
    split
    · rfl
    · exact decide_eq_decide.2 (h i hik).symm
/-- the search while constraints are left out: only its marks have changed since world w3 -/
structure MI (w3 wr : World) (S OF OU ON N K V c : Nat) (fo out : Nat → List Edg) (on : Nat → Bool) (xs : List Int) : Prop where
  bb : BB w3.heap.size ON w3 wr
  k : ∀ k, k < K + 1 → wr.cell? ⟨ON, k, none⟩ = some (.bool (on k))
  fr : ∀ k, wr.frozen? ⟨ON, k, none⟩ = false
section
variable {w3 wr w' : World} {S OF OU ON N K V c : Nat} {fo out : Nat → List Edg} {on on' on0 : Nat → Bool} {xs : List Int}
theorem MI.se (h : MI w3 wr S OF OU ON N K V c fo out on xs) (h3 : SE w3 S OF OU ON N K fo out on0) : SE wr S OF OU ON N K fo out on := by
  obtain ⟨l1, l2, l3, l4⟩ := h3.lt
  obtain ⟨n1, n2, n3, n4, n5⟩ := h3.ne
  refine h3.keep h.bb.size (fun b i hb hS hO => h.bb.cell (p := ⟨b, i, none⟩) hb hO) (fun i _ => h.bb.cell (p := ⟨S, i, none⟩) l1 n3) h.k ⟨?_, h.fr⟩
  exact (World.frozen?_of_block (h.bb.block S l1 n3)).trans h3.fr.1
theorem MI.vs (h : MI w3 wr S OF OU ON N K V c fo out on xs) (h3 : SE w3 S OF OU ON N K fo out on0) (hv : VS w3 S ON N V c xs) : VS wr S ON N V c xs := by
  obtain ⟨l1, l2, l3, l4⟩ := h3.lt
  refine ⟨(h.bb.cell (p := ⟨S, 3, none⟩) l1 h3.ne.2.2.1).trans hv.s3, ⟨hv.own.1, hv.own.2.imp id fun ⟨g, cap, cur, e1, e2, e3, e4⟩ => ⟨g, cap, cur, e1, e2, ?_, e4⟩⟩, hv.len, hv.ne⟩
  have hg : g = V := by cases e1; rfl
  exact (h.bb.block g (Array.getElem?_eq_some_iff.1 e3).1 (by rw [hg]; exact hv.ne.2)).trans e3
theorem MI.begin (h3 : SE w3 S OF OU ON N K fo out on) : MI w3 w3 S OF OU ON N K V c fo out on xs := ⟨BB.of (Below.refl _ _), h3.k, h3.fr.2⟩
theorem MI.below (h : MI w3 wr S OF OU ON N K V c fo out on xs) (h3 : SE w3 S OF OU ON N K fo out on0) (hb : Below wr.heap.size wr w') : MI w3 w' S OF OU ON N K V c fo out on xs := by
  have hl : ON < wr.heap.size := Nat.lt_of_lt_of_le h3.lt.2.2.2 h.bb.size
  exact ⟨h.bb.then hb h.bb.size, fun k hk => (hb.cell (p := ⟨ON, k, none⟩) hl).trans (h.k k hk), fun k => (hb.frozen (p := ⟨ON, k, none⟩) hl).trans (h.fr k)⟩
theorem MI.grown {row : Option Nat} (h : MI w3 wr S OF OU ON N K V c fo out on xs) (h3 : SE w3 S OF OU ON N K fo out on0) (hg : wr.grownBy w' row) (hr : ∀ k, row = some k → w3.heap.size ≤ k) : MI w3 w' S OF OU ON N K V c fo out on xs := by
  have h9 := h3.lt.2.2.2
  have hl : ON < wr.heap.size := Nat.lt_of_lt_of_le h9 h.bb.size
  have hn : some ON ≠ row := fun e => by have := hr ON e.symm; omega
  exact ⟨h.bb.grown hg h.bb.size hr, fun k hk => (World.cell?_of_block (a := ⟨ON, k, none⟩) (hg.block ON hl hn)).trans (h.k k hk), fun k => (World.frozen?_of_block (a := ⟨ON, k, none⟩) (hg.block ON hl hn)).trans (h.fr k)⟩
theorem MI.set (h : MI w3 wr S OF OU ON N K V c fo out on xs) {k : Nat} (hk : k < K + 1) (x : Bool) (ho : ∀ i, on' i = if i = k then x else on i) : MI w3 (wr.setCell ⟨ON, k, none⟩ (.bool x)) S OF OU ON N K V c fo out on' xs := by
  refine ⟨h.bb.setT k _, fun i hi => ?_, fun i => by rw [World.frozen?_setCell]; exact h.fr i⟩
  rw [ho]
  by_cases hik : i = k
  · subst hik; rw [if_pos rfl]; exact World.cell?_setCell_same wr ⟨ON, i, none⟩ _ (h.k i hi)
  · rw [if_neg hik]; exact (World.cell?_setCell_other wr ⟨ON, k, none⟩ ⟨ON, i, none⟩ _ (fun e => hik (by injection e with _ e2; exact e2.symm))).trans (h.k i hi)
end
def castL (l : List Nat) : List Int := l.map fun i : Nat => (i : Int)
theorem mem_less {l : List Nat} {i k : Nat} (h : i ≠ k) : i ∈ List.range (k + 1) ++ l ↔ i ∈ List.range k ++ l := by
  rw [List.mem_append, List.mem_append, List.mem_range, List.mem_range]
  exact ⟨fun g => g.elim (fun g => .inl (by omega)) .inr, fun g => g.elim (fun g => .inl (by omega)) .inr⟩
theorem mem_back {l : List Nat} {i k : Nat} (h : i ≠ k) : i ∈ List.range k ++ l ↔ i ∈ List.range k ++ k :: l := by
  rw [List.mem_append, List.mem_append, List.mem_cons]
  exact ⟨fun g => g.elim .inl (fun g => .inr (.inr g)), fun g => g.elim .inl (fun g => g.elim (fun g => absurd g h) .inr)⟩
theorem castL_rev (l : List Nat) : (castL l.reverse).reverse = castL l := by simp [castL]
theorem castL_snoc (l : List Nat) (k : Nat) : castL (l ++ [k]) = castL l ++ [(k : Int)] := by simp [castL]
theorem castL_len (l : List Nat) : (castL l).length = l.length := by simp [castL]

end Go.Proofs.Ytapajkfnpkekdaa
