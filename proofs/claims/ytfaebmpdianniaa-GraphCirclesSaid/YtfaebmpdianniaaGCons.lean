/-
  Rows of constraints that a call has made itself: cloned, appended to.
-/
import Derived.Test.YtfaebmpdianniaaGWith
namespace Go.Proofs.Ytfaebmpdianniaa
open Go Go.RowKit

/-- these cells are those of the constraints -/
def CV (w : World) (B : Nat) (xs : List Value) (cs : List LCn) : Prop :=
  xs.length = cs.length * 4 ∧ ∀ j c, cs[j]? = some c → ∃ v1 v2, xs[j * 4]? = some (.int .i64 c.1.1) ∧ xs[j * 4 + 1]? = some v1 ∧ xs[j * 4 + 2]? = some (.int .i64 c.2.1) ∧ xs[j * 4 + 3]? = some v2 ∧ LvOk w B v1 c.1.2 ∧ LvOk w B v2 c.2.2
theorem CV.nil (w : World) (B : Nat) : CV w B [] [] := ⟨rfl, fun j c h => by simp at h⟩
theorem CV.below {w w' : World} {B : Nat} {xs : List Value} {cs : List LCn} (h : CV w B xs cs) (hb : Below B w w') : CV w' B xs cs :=
  ⟨h.1, fun j c hj => by
    obtain ⟨v1, v2, h0, h1, h2, h3, h4, h5⟩ := h.2 j c hj
    exact ⟨v1, v2, h0, h1, h2, h3, h4.below hb, h5.below hb⟩⟩
theorem LvOk.more' {w : World} {B B' : Nat} {v : Value} {l : List (Int × Int)} (h : LvOk w B v l) (hB : B ≤ B') : LvOk w B' v l := by
  obtain ⟨A, n, c, e, p, q, r⟩ := h
  exact ⟨A, n, c, e, p.more hB, q, r⟩
theorem CV.more {w : World} {B B' : Nat} {xs : List Value} {cs : List LCn} (h : CV w B xs cs) (hB : B ≤ B') : CV w B' xs cs :=
  ⟨h.1, fun j c hj => by
    obtain ⟨v1, v2, h0, h1, h2, h3, h4, h5⟩ := h.2 j c hj
    exact ⟨v1, v2, h0, h1, h2, h3, h4.more' hB, h5.more' hB⟩⟩
theorem CV.one {w : World} {B : Nat} {c : LCn} {v1 v2 : Value} (h1 : LvOk w B v1 c.1.2) (h2 : LvOk w B v2 c.2.2) : CV w B [.int .i64 c.1.1, v1, .int .i64 c.2.1, v2] [c] :=
  ⟨rfl, fun j d hj => by
    match j, hj with
    | 0, hj => simp at hj; subst hj; exact ⟨v1, v2, rfl, rfl, rfl, rfl, h1, h2⟩
    | j + 1, hj => simp at hj⟩
theorem CV.append {w : World} {B : Nat} {xs ys : List Value} {cs ds : List LCn} (h : CV w B xs cs) (g : CV w B ys ds) : CV w B (xs ++ ys) (cs ++ ds) := by
  refine ⟨by rw [List.length_append, List.length_append, h.1, g.1]; omega, fun j c hj => ?_⟩
  have hl := h.1
  by_cases hlt : j < cs.length
  · rw [List.getElem?_append_left hlt] at hj
    obtain ⟨v1, v2, h0, h1, h2, h3, h4, h5⟩ := h.2 j c hj
    exact ⟨v1, v2, by rw [List.getElem?_append_left (by omega)]; exact h0, by rw [List.getElem?_append_left (by omega)]; exact h1, by rw [List.getElem?_append_left (by omega)]; exact h2, by rw [List.getElem?_append_left (by omega)]; exact h3, h4, h5⟩
  · rw [List.getElem?_append_right (by omega)] at hj
    obtain ⟨v1, v2, h0, h1, h2, h3, h4, h5⟩ := g.2 _ c hj
    refine ⟨v1, v2, ?_, ?_, ?_, ?_, h4, h5⟩
    · rw [List.getElem?_append_right (by omega), show j * 4 - xs.length = (j - cs.length) * 4 by omega]; exact h0
    · rw [List.getElem?_append_right (by omega), show j * 4 + 1 - xs.length = (j - cs.length) * 4 + 1 by omega]; exact h1
    · rw [List.getElem?_append_right (by omega), show j * 4 + 2 - xs.length = (j - cs.length) * 4 + 2 by omega]; exact h2
    · rw [List.getElem?_append_right (by omega), show j * 4 + 3 - xs.length = (j - cs.length) * 4 + 3 by omega]; exact h3
theorem four_of {j : Nat} : ∃ k i, j = k * 4 + i ∧ i < 4 := ⟨j / 4, j % 4, by omega, Nat.mod_lt _ (by omega)⟩
theorem CV.oneCell {w : World} {B : Nat} {xs : List Value} {cs : List LCn} (h : CV w B xs cs) : ∀ u ∈ xs, u.oneCell' = true := by
  intro u hu
  obtain ⟨j, hg⟩ := List.mem_iff_getElem?.1 hu
  have hj := (List.getElem?_eq_some_iff.1 hg).1
  have hl := h.1
  obtain ⟨k, i, rfl, hi⟩ := four_of (j := j)
  have hk : k < cs.length := by omega
  obtain ⟨v1, v2, h0, h1, h2, h3, ⟨_, _, _, rfl, _⟩, ⟨_, _, _, rfl, _⟩⟩ := h.2 k _ (List.getElem?_eq_getElem hk)
  clear hj
  match i, hi, hg with
  | 0, _, hg => rw [Nat.add_zero] at hg; rw [h0] at hg; rw [← Option.some.inj hg]; rfl
  | 1, _, hg => rw [h1] at hg; rw [← Option.some.inj hg]; rfl
  | 2, _, hg => rw [h2] at hg; rw [← Option.some.inj hg]; rfl
  | 3, _, hg => rw [h3] at hg; rw [← Option.some.inj hg]; rfl
/-- the cells of constraints that can be read -/
theorem CV.of_cl {w : World} {B n b off : Nat} {cs : List LCn} (h : CL w B (some ⟨b, off, none⟩) n cs) : ∃ xs, CV w B xs cs ∧ ∀ j u, xs[j]? = some u → w.cell? ⟨b, off + j, none⟩ = some u := by
  have hl := h.1
  have hk : ∀ k, k ≤ n → ∃ xs, CV w B xs (cs.take k) ∧ ∀ j u, xs[j]? = some u → w.cell? ⟨b, off + j, none⟩ = some u := by
    intro k
    induction k with
    | zero => intro _; exact ⟨[], CV.nil w B, fun j u hj => by simp at hj⟩
    | succ k ih =>
      intro hkn
      obtain ⟨xs, hx, hc⟩ := ih (by omega)
      obtain ⟨b', off', e, hb, hcc⟩ := h.2 (by omega)
      cases e
      have hck : cs[k]? = some cs[k] := List.getElem?_eq_getElem (by omega)
      obtain ⟨v1, v2, h0, h1, h2, h3, h4, h5⟩ := hcc k _ hck
      refine ⟨xs ++ [.int .i64 cs[k].1.1, v1, .int .i64 cs[k].2.1, v2], ?_, fun j u hj => ?_⟩
      · rw [take_snoc hck]; exact hx.append (CV.one h4 h5)
      · have hxl : xs.length = k * 4 := by rw [hx.1, List.length_take]; omega
        by_cases hj4 : j < k * 4
        · rw [List.getElem?_append_left (by omega)] at hj; exact hc j u hj
        · rw [List.getElem?_append_right (by omega), hxl] at hj
          obtain ⟨i, rfl⟩ : ∃ i, j = k * 4 + i := ⟨j - k * 4, by omega⟩
          rw [show k * 4 + i - k * 4 = i by omega] at hj
          match i, hj with
          | 0, hj => simp at hj; rw [← hj]; exact h0
          | 1, hj => simp at hj; rw [← hj]; exact h1
          | 2, hj => simp at hj; rw [← hj]; exact h2
          | 3, hj => simp at hj; rw [← hj]; exact h3
          | i + 4, hj => simp at hj
  obtain ⟨xs, h1, h2⟩ := hk n (Nat.le_refl _)
  rw [List.take_of_length_le (by omega)] at h1
  exact ⟨xs, h1, h2⟩
/-- such a row reads as its constraints -/
theorem CL.of_own {w : World} {base B n : Nat} {e : TypeId} {v : Value} {xs : List Value} {cs : List LCn} (h : w.ownsRow base e 4 v n xs) (hc : CV w B xs cs) (hB : B ≤ w.heap.size) :
    ∃ A c, v = .slice A n c ∧ CL w w.heap.size A n cs ∧ n ≤ c ∧ c ≤ maxLen := by
  have h0 := h
  have hl := h.1
  have hl2 := hc.1
  have hn : cs.length = n := by omega
  rcases h.2 with ⟨rfl, rfl⟩ | ⟨g, cap, cur, rfl, hb, hg, hcp, hm, hs, ht⟩
  · exact ⟨none, 0, rfl, ⟨hn, fun h => by omega⟩, Nat.le_refl _, Nat.zero_le _⟩
  · have hlt : g < w.heap.size := (Array.getElem?_eq_some_iff.1 hg).1
    refine ⟨_, cap, rfl, ⟨hn, fun _ => ⟨g, 0, rfl, hlt, fun j c hj => ?_⟩⟩, hcp, hm⟩
    have hjl : j < cs.length := (List.getElem?_eq_some_iff.1 hj).1
    obtain ⟨v1, v2, h1, h2, h3, h4, h5, h6⟩ := hc.2 j c hj
    rw [Nat.zero_add]
    exact ⟨v1, v2, (h0.cellAt (j * 4) (by omega)).trans h1, (h0.cellAt (j * 4 + 1) (by omega)).trans h2, (h0.cellAt (j * 4 + 2) (by omega)).trans h3, (h0.cellAt (j * 4 + 3) (by omega)).trans h4, h5.more' hB, h6.more' hB⟩
theorem infoC : (Try.prog.info? 40).map (fun i => (i.zero, i.size, i.bytes)) = some (some (.agg #[.int .i64 0, .slice none 0 0, .int .i64 0, .slice none 0 0]), 4, 64) := by kernel_rfl
/-- a constraint's value -/
def conV (c : LCn) (A1 : Option Addr) (n1 c1 : Nat) (A2 : Option Addr) (n2 c2 : Nat) : List Value := [.int .i64 c.1.1, .slice A1 n1 c1, .int .i64 c.2.1, .slice A2 n2 c2]
theorem news4c {w : World} {a b c d : Value} {ty : TypeId} {q : Nat} (hq : q = w.heap.size) : ∀ j u, [a, b, c, d][j]? = some u → (w.alloc (.cells #[a, b, c, d] ty)).cell? ((⟨q, 0, none⟩ : Addr).add j) = some u := by
  subst hq
  intro j u hj
  match j, hj with
  | 0, hj => simp at hj; subst hj; simp [Addr.add]
  | 1, hj => simp at hj; subst hj; simp [Addr.add]
  | 2, hj => simp at hj; subst hj; simp [Addr.add]
  | 3, hj => simp at hj; subst hj; simp [Addr.add]
  | j + 4, hj => simp at hj

set_option maxRecDepth 100000 in
set_option maxHeartbeats 2000000 in
theorem cloneC_any (A : Option Addr) (n c : Nat) (cs : List LCn) (w : World) (B : Nat) (h : CL w B A n cs) (hB : B ≤ w.heap.size) (hn : n ≤ 1000000) :
    Calls Try.prog 32 #[.slice A n c] w fun e w' => ∃ v xs, e = .returned v ∧ w'.ownsRow w.heap.size 40 4 v n xs ∧ CV w' B xs cs ∧ Below w.heap.size w w' := by
  obtain ⟨i0, hi, hz0, hz1, hz2⟩ := info_parts infoC
  have q22 : ∀ (w : World) (a : Option Addr) (n c n' c' : Nat), (binOp .eql 22 (.slice a n c) (.slice none n' c')).run Try.prog w = .ok (.bool a.isNone) w := fun w a n c n' c' => Lib.run_eql_slice_nil w _ _ a n c n' c' Try.underlying22
  have hl : cs.length = n := h.1
  cases A with
  | none =>
    have hn0 : n = 0 := Classical.byContradiction fun h9 => by
      obtain ⟨b, off, e, _⟩ := h.2 (by omega)
      cases e
    have hcs : cs = [] := List.eq_nil_of_length_eq_zero (by omega)
    subst hcs
    subst hn0
    clear hl h
    go_enter Try.func32, Try.ntmps32
    go_wp2_with fail
    go_ret
    exact ⟨_, [], rfl, World.ownsRow_nil _ _ _ _, CV.nil _ _, Below.refl _ _⟩
  | some ad =>
    have hx : ∃ xs, CV w B xs cs ∧ ∀ j u, xs[j]? = some u → w.cell? (ad.add j) = some u := by
      by_cases h0 : 0 < n
      · obtain ⟨b, off, e, _⟩ := h.2 h0
        cases e
        obtain ⟨xs, h1, h2⟩ := CV.of_cl h
        exact ⟨xs, h1, fun j u hj => by rw [Addr.add_lit]; exact h2 j u hj⟩
      · have hcs : cs = [] := List.eq_nil_of_length_eq_zero (by omega)
        subst hcs
        exact ⟨[], CV.nil _ _, fun j u hj => by simp at hj⟩
    obtain ⟨xs, hcv, hcell⟩ := hx
    have hxl : xs.length = n * 4 := by rw [hcv.1, hl]
    have hone := hcv.oneCell
    have Hcell := Lib.hid hcell
    clear hcell
    go_enter Try.func32, Try.ntmps32
    go_wp2_with (at_builtin; refine wpList_append_own _ rfl _ _ 22 rfl w.heap.size 40 i0 (.agg #[.int .i64 0, .slice none 0 0, .int .i64 0, .slice none 0 0]) 4 64 Try.underlying22 hi hz0 hz1 hz2 rfl (by decide) _ _ _ rfl (World.ownsRow_made w #[] 0 (Nat.le_refl _) (Nat.zero_le _) rfl) ad n c xs rfl ?qc1 ?qc2 hone ?qc4 ?qc5 ?qc6 ?_)
    case qc1 => exact hxl
    case qc2 =>
      intro j u hj
      have h1 := Hcell.out j u hj
      exact (World.cell?_alloc_lt w _ _ (World.block_lt_of_cell? w _ h1)).trans h1
    case qc4 => unfold maxLen; omega
    case qc5 => omega
    case qc6 => simp
    intro v' w1 hown hgrow hnil
    go_wp2
    go_ret
    have hown2 : w1.ownsRow w.heap.size 40 4 v' n xs := by simpa using hown
    have hb1 : Below w.heap.size w w1 := ((Go.RowKit.Below.refl _ w).alloc (Nat.le_refl _) _).grown hgrow (by simp) (by intro k hk; simp [Value.ownBlock] at hk; omega)
    exact ⟨v', xs, rfl, hown2, hcv.below (hb1.mono hB), hb1⟩
end Go.Proofs.Ytfaebmpdianniaa
