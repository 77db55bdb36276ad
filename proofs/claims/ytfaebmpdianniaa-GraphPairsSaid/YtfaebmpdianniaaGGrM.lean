/-
  What the two passes of 'groups' find: the walks ahead leave each node behind those it reaches; the walks back from behind find the sets of nodes that are reached from each other.
-/
import Derived.Test.YtfaebmpdianniaaGBack
namespace Go.Proofs.Ytfaebmpdianniaa
open Go Go.RowKit

/-- what is so in the first pass -/
structure Ps (w0 w : World) (base Q N : Nat) (next : Nat → List Nat) (sl : List Bool) (O : List Nat) (u : Value) : Prop where
  ord : w.ownsRow base 3 1 u O.length (int1 (castN O))
  sll : sl.length = N
  seen : w.ownsRow 0 4 1 (.slice (some ⟨Q, 0, none⟩) N N) N (bool1 sl)
  iff : ∀ x, sset sl x ↔ x ∈ O
  wk : Wk next (sset sl) O
  lt : ∀ x ∈ O, x < N
  bb : BB base Q w0 w
theorem no_set (N x : Nat) : ¬ sset (List.replicate N false) x := by
  unfold sset
  rw [List.getElem?_replicate]
  split <;> simp
theorem wk_nil {next : Nat → List Nat} {S : Nat → Prop} : Wk next S [] :=
  ⟨fun x hx => (by cases hx), fun x hx => (by cases hx), List.nodup_nil, fun j v h => by simp at h⟩
theorem Ps.begin {w0 : World} {base Q N : Nat} {next : Nat → List Nat} (hs : w0.ownsRow 0 4 1 (.slice (some ⟨Q, 0, none⟩) N N) N (bool1 (List.replicate N false))) : Ps w0 w0 base Q N next (List.replicate N false) [] (.slice none 0 0) :=
  ⟨World.ownsRow_nil _ _ _ _, by simp, hs, fun x => ⟨fun h => absurd h (no_set N x), fun h => by cases h⟩, wk_nil, fun x hx => (by cases hx), BB.of (Below.refl _ _)⟩
theorem Ps.walk {w0 w w' : World} {base Q N v : Nat} {next : Nat → List Nat} {sl : List Bool} {O : List Nat} {u : Value} {e : Ending} (h : Ps w0 w base Q N next sl O u) (hp : WalkPost base Q N next v sl O w e w') :
    ∃ u' sl' O', e = .returned u' ∧ Ps w0 w' base Q N next sl' O' u' ∧ v ∈ O' ∧ ∀ x ∈ O, x ∈ O' := by
  obtain ⟨M, sl', u', rfl, h1, h2, h3, h4, h5, h6⟩ := hp
  have hiff : ∀ x, sset sl' x ↔ x ∈ O ++ M := fun x => by rw [h4.all, h.iff, List.mem_append]
  exact ⟨u', sl', O ++ M, rfl, ⟨h1, h2, h3, hiff, h4.wk, fun x hx => (List.mem_append.1 hx).elim (h.lt x) (h5 x), h.bb.trans h6⟩, (hiff v).1 h4.at_, fun x hx => List.mem_append_left _ hx⟩

/-- what is so in the second pass, when walks back have been made from the nodes of O from place j on: which are seen, and the number of each one's group -/
structure Qs (next : Nat → List Nat) (N : Nat) (O : List Nat) (j : Nat) (sl : List Bool) (gs : List Int) : Prop where
  sll : sl.length = N
  gl : gs.length = N
  done : ∀ i x, j ≤ i → O[i]? = some x → sset sl x
  cl : ∀ x y, sset sl x → Mut next x y → sset sl y
  root : ∀ x, sset sl x → ∃ r : Nat, gx gs x = (r : Int) ∧ Mut next r x
  same : ∀ x y, sset sl x → Mut next x y → gx gs x = gx gs y
theorem Qs.begin {next : Nat → List Nat} {N : Nat} {O : List Nat} {gs : List Int} (hg : gs.length = N) : Qs next N O O.length (List.replicate N false) gs :=
  ⟨by simp, hg, fun i x hi hx => (by rw [List.getElem?_eq_none hi] at hx; cases hx), fun x y hx => absurd hx (no_set N x), fun x hx => absurd hx (no_set N x), fun x y hx => absurd hx (no_set N x)⟩
/-- numbers written at some places -/
def setAll (gs : List Int) (M : List Nat) (v : Int) : List Int := M.foldl (fun l x => l.set x v) gs
theorem setAll_len (v : Int) : ∀ (M : List Nat) (gs : List Int), (setAll gs M v).length = gs.length
  | [], _ => rfl
  | x :: M, gs => (setAll_len v M (gs.set x v)).trans (by simp)
theorem setAll_snoc (gs : List Int) (M : List Nat) (x : Nat) (v : Int) : setAll gs (M ++ [x]) v = (setAll gs M v).set x v := by simp [setAll]
theorem setAll_gx (v : Int) (y : Nat) : ∀ (M : List Nat) (gs : List Int), (∀ x ∈ M, x < gs.length) → gx (setAll gs M v) y = if y ∈ M then v else gx gs y
  | [], _, _ => rfl
  | x :: M, gs, h => by
    have h1 := setAll_gx v y M (gs.set x v) fun z hz => by rw [List.length_set]; exact h z (by simp [hz])
    show gx (setAll (gs.set x v) M v) y = _
    rw [h1, gx_set _ _ _ (h x (by simp))]
    by_cases hM : y ∈ M
    · rw [if_pos hM, if_pos (by simp [hM])]
    · rw [if_neg hM]
      by_cases hx : y = x
      · rw [if_pos (by simp [hx])]; unfold upd; rw [if_pos hx]
      · rw [if_neg (by simp [hx, hM])]; unfold upd; rw [if_neg hx]
/-- one walk back -/
theorem Qs.step {next back : Nat → List Nat} (hb : ∀ a b, b ∈ next a ↔ a ∈ back b) {N j v : Nat} {O : List Nat} {sl sl' : List Bool} {gs : List Int} {M : List Nat} (hO : Ks next O) (hall : ∀ x, x < N → x ∈ O) (hbl : ∀ x, ∀ y ∈ back x, y < N)
    (h : Qs next N O (j + 1) sl gs) (hj : O[j]? = some v) (hl : sl'.length = N) (hM : ∀ x ∈ M, x < N) (hw : Wn back v (sset sl) (sset sl') [] M) : Qs next N O j sl' (setAll gs M (v : Int)) := by
  have hg : ∀ x ∈ M, x < gs.length := fun x hx => by rw [h.gl]; exact hM x hx
  by_cases hv : sset sl v
  · -- it is seen already: nothing is found
    have hMn : ∀ x, x ∉ M := fun x hx => by
      have h1 : Rc back (fun y => y ∈ M) v x := hw.rc x hx
      have h2 : v ∈ M := by
        clear hx
        induction h1 with
        | refl h => exact h
        | step _ _ _ ih => exact ih
      exact hw.new v h2 hv
    have hMe : M = [] := List.eq_nil_iff_forall_not_mem.2 hMn
    subst hMe
    have hsame : ∀ x, sset sl' x ↔ sset sl x := fun x => by rw [hw.all]; simp
    refine ⟨hl, h.gl, fun i x hi hx => (hsame x).2 ?_, fun x y hx hxy => (hsame y).2 (h.cl x y ((hsame x).1 hx) hxy), fun x hx => h.root x ((hsame x).1 hx), fun x y hx hxy => h.same x y ((hsame x).1 hx) hxy⟩
    by_cases hij : i = j
    · subst hij
      rw [hj] at hx
      obtain rfl := Option.some.inj hx
      exact hv
    · exact h.done i x (by omega) hx
  · have hMm : ∀ x, x ∈ M ↔ Mut next v x := back_mut hb hO hj (T := sset sl) (T' := sset sl') (fun i x hi hx => h.done i x (by omega) hx) (fun x y hx hxy => h.cl x y hx hxy) hv (fun x y hx hy => hall y (hbl x y hy)) hw
    refine ⟨hl, by rw [setAll_len]; exact h.gl, fun i x hi hx => ?_, fun x y hx hxy => ?_, fun x hx => ?_, fun x y hx hxy => ?_⟩
    · by_cases hij : i = j
      · subst hij
        rw [hj] at hx
        obtain rfl := Option.some.inj hx
        exact hw.at_
      · exact (hw.all x).2 (.inl (h.done i x (by omega) hx))
    · rcases (hw.all x).1 hx with h1 | h1
      · exact (hw.all y).2 (.inl (h.cl x y h1 hxy))
      · exact (hw.all y).2 (.inr ((hMm y).2 (((hMm x).1 h1).trans hxy)))
    · rw [setAll_gx _ _ _ _ hg]
      by_cases hxM : x ∈ M
      · rw [if_pos hxM]
        exact ⟨v, rfl, (hMm x).1 hxM⟩
      · rw [if_neg hxM]
        exact h.root x (((hw.all x).1 hx).resolve_right hxM)
    · rw [setAll_gx _ _ _ _ hg, setAll_gx _ _ _ _ hg]
      by_cases hxM : x ∈ M
      · rw [if_pos hxM, if_pos ((hMm y).2 (((hMm x).1 hxM).trans hxy))]
      · have hyM : y ∉ M := fun hy => hxM ((hMm x).2 (((hMm y).1 hy).trans hxy.symm))
        rw [if_neg hxM, if_neg hyM]
        exact h.same x y (((hw.all x).1 hx).resolve_right hxM) hxy
/-- in the end the numbers tell the groups -/
theorem Qs.fin {next : Nat → List Nat} {N : Nat} {O : List Nat} {sl : List Bool} {gs : List Int} (hall : ∀ x, x < N → x ∈ O) (h : Qs next N O 0 sl gs) : ∀ x y, x < N → y < N → (gx gs x = gx gs y ↔ Mut next x y) := by
  intro x y hx hy
  have hs : ∀ z, z < N → sset sl z := fun z hz => by
    obtain ⟨i, hi⟩ := List.mem_iff_getElem?.1 (hall z hz)
    exact h.done i z (Nat.zero_le _) hi
  constructor
  · intro he
    obtain ⟨r, h1, h2⟩ := h.root x (hs x hx)
    obtain ⟨s, h3, h4⟩ := h.root y (hs y hy)
    have : r = s := by rw [h1, h3] at he; omega
    subst this
    exact h2.symm.trans h4
  · exact fun hm => h.same x y (hs x hx) hm
end Go.Proofs.Ytfaebmpdianniaa
