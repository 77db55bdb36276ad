/-
  Canonical lists of parts: what both packages compute is one and the same list. Plain lemmas.
-/
import Derived.Test.YtgbbmcfhakliiaaGreatDoorMerged
namespace Go.Proofs.YtgbbmcfhakliiaaGreatDoor
open Go Go.RowKit

/-- r is the canonical list of the parts l -/
structure Canon (l r : List (Int × Int)) : Prop where
  asc : r.Pairwise fun x y => x.1 < y.1
  top : ∀ x ∈ r, x ∈ l ∧ ∀ y ∈ l, y.1 = x.1 → y.2 ≤ x.2
  all : ∀ y ∈ l, ∃ x ∈ r, x.1 = y.1

theorem Canon.mem {l r r' : List (Int × Int)} (h : Canon l r) (h' : Canon l r') {x : Int × Int} (hx : x ∈ r) : x ∈ r' := by
  obtain ⟨hl, hm⟩ := h.top x hx
  obtain ⟨z, hz, e⟩ := h'.all x hl
  obtain ⟨hl', hm'⟩ := h'.top z hz
  have h1 := hm z hl' e
  have h2 := hm' x hl e.symm
  have : x = z := by
    cases x; cases z; simp only at e h1 h2 ⊢
    rw [e, Int.le_antisymm h2 h1]
  rw [this]; exact hz
theorem asc_eq {r r' : List (Int × Int)} (h : r.Pairwise fun x y => x.1 < y.1) (h' : r'.Pairwise fun x y => x.1 < y.1) (hm : ∀ x, x ∈ r ↔ x ∈ r') : r = r' := by
  induction r generalizing r' with
  | nil =>
    cases r' with
    | nil => rfl
    | cons y t => exact absurd ((hm y).2 (by simp)) (by simp)
  | cons x s ih =>
    cases r' with
    | nil => exact absurd ((hm x).1 (by simp)) (by simp)
    | cons y t =>
      obtain ⟨hx, hs⟩ := List.pairwise_cons.1 h
      obtain ⟨hy, ht⟩ := List.pairwise_cons.1 h'
      have e : x = y := by
        rcases List.mem_cons.1 ((hm x).1 (by simp)) with e | e
        · exact e
        · rcases List.mem_cons.1 ((hm y).2 (by simp)) with e' | e'
          · exact e'.symm
          · have := hx y e'
            have := hy x e
            omega
      subst e
      congr 1
      refine ih hs ht fun z => ⟨fun hz => ?_, fun hz => ?_⟩
      · rcases List.mem_cons.1 ((hm z).1 (List.mem_cons_of_mem _ hz)) with e | e
        · subst e; have := hx z hz; omega
        · exact e
      · rcases List.mem_cons.1 ((hm z).2 (List.mem_cons_of_mem _ hz)) with e | e
        · subst e; have := hy z hz; omega
        · exact e
theorem Canon.unique {l r r' : List (Int × Int)} (h : Canon l r) (h' : Canon l r') : r = r' :=
  asc_eq h.asc h'.asc fun _ => ⟨h.mem h', h'.mem h⟩
theorem Canon.perm {l l' r : List (Int × Int)} (h : Canon l r) (hp : l.Perm l') : Canon l' r where
  asc := h.asc
  top x hx := ⟨hp.mem_iff.1 (h.top x hx).1, fun y hy => (h.top x hx).2 y (hp.mem_iff.2 hy)⟩
  all y hy := h.all y (hp.mem_iff.2 hy)
theorem Canon.nil : Canon [] [] := ⟨.nil, by simp, by simp⟩

theorem Canon.step {pre acc : List (Int × Int)} {x : Int × Int} (h : Canon pre acc) (hx : ∀ y ∈ pre, y.1 ≤ x.1) : Canon (pre ++ [x]) (mgStep acc x) := by
  rcases List.eq_nil_or_concat acc with rfl | ⟨a, y, rfl⟩
  · have hp : pre = [] := by
      cases pre with
      | nil => rfl
      | cons z t => obtain ⟨_, hz, _⟩ := h.all z (by simp); cases hz
    subst hp
    exact ⟨by simp [mgStep], by simp [mgStep], by simp [mgStep]⟩
  · rw [List.concat_eq_append] at h ⊢
    have hasc := h.asc
    rw [List.pairwise_append] at hasc
    obtain ⟨ha, _, hay⟩ := hasc
    have hay' : ∀ z ∈ a, z.1 < y.1 := fun z hz => hay z hz y (by simp)
    obtain ⟨hyl, hyt⟩ := h.top y (by simp)
    have hyx := hx y hyl
    by_cases e : y.1 = x.1
    · rw [mgStep_join e]
      refine ⟨?_, ?_, ?_⟩
      · rw [List.pairwise_append]
        exact ⟨ha, by simp, fun z hz t ht => by rw [List.mem_singleton.1 ht]; exact hay' z hz⟩
      · intro z hz
        rcases List.mem_append.1 hz with hz | hz
        · obtain ⟨h1, h2⟩ := h.top z (by simp [hz])
          refine ⟨by simp [h1], fun t ht he => ?_⟩
          rcases List.mem_append.1 ht with ht | ht
          · exact h2 t ht he
          · rw [List.mem_singleton.1 ht] at he
            have := hay' z hz; omega
        · rw [List.mem_singleton.1 hz]
          refine ⟨?_, fun t ht he => ?_⟩
          · by_cases hle : y.2 ≤ x.2
            · rw [Int.max_eq_right hle, e]; simp
            · rw [Int.max_eq_left (by omega)]; exact List.mem_append_left _ hyl
          · simp only at he ⊢
            rcases List.mem_append.1 ht with ht | ht
            · have := hyt t ht he; omega
            · rw [List.mem_singleton.1 ht]; omega
      · intro t ht
        rcases List.mem_append.1 ht with ht | ht
        · obtain ⟨z, hz, hzt⟩ := h.all t ht
          rcases List.mem_append.1 hz with hz | hz
          · exact ⟨z, by simp [hz], hzt⟩
          · rw [List.mem_singleton.1 hz] at hzt
            exact ⟨(y.1, max y.2 x.2), by simp, hzt⟩
        · rw [List.mem_singleton.1 ht]
          exact ⟨(y.1, max y.2 x.2), by simp, e⟩
    · rw [mgStep_push e]
      have hlt : y.1 < x.1 := by omega
      refine ⟨?_, ?_, ?_⟩
      · rw [List.pairwise_append]
        refine ⟨h.asc, by simp, fun z hz t ht => ?_⟩
        rw [List.mem_singleton.1 ht]
        rcases List.mem_append.1 hz with hz | hz
        · have := hay' z hz; omega
        · rw [List.mem_singleton.1 hz]; exact hlt
      · intro z hz
        rcases List.mem_append.1 hz with hz | hz
        · obtain ⟨h1, h2⟩ := h.top z hz
          refine ⟨by simp [h1], fun t ht he => ?_⟩
          rcases List.mem_append.1 ht with ht | ht
          · exact h2 t ht he
          · rw [List.mem_singleton.1 ht] at he
            rcases List.mem_append.1 hz with hz | hz
            · have := hay' z hz; omega
            · rw [List.mem_singleton.1 hz] at he; omega
        · rw [List.mem_singleton.1 hz]
          refine ⟨by simp, fun t ht he => ?_⟩
          rcases List.mem_append.1 ht with ht | ht
          · obtain ⟨z, hz, hzt⟩ := h.all t ht
            rcases List.mem_append.1 hz with hz | hz
            · have := hay' z hz; omega
            · rw [List.mem_singleton.1 hz] at hzt; omega
          · rw [List.mem_singleton.1 ht]; omega
      · intro t ht
        rcases List.mem_append.1 ht with ht | ht
        · obtain ⟨z, hz, hzt⟩ := h.all t ht
          exact ⟨z, List.mem_append_left _ hz, hzt⟩
        · rw [List.mem_singleton.1 ht]
          exact ⟨x, by simp, rfl⟩
theorem Canon.fold {s : List (Int × Int)} : ∀ {pre acc : List (Int × Int)}, Canon pre acc → (∀ y ∈ pre, ∀ x ∈ s, y.1 ≤ x.1) → (s.Pairwise fun x y => x.1 ≤ y.1) → Canon (pre ++ s) (s.foldl mgStep acc) := by
  induction s with
  | nil => intro pre acc h _ _; simpa using h
  | cons x r ih =>
    intro pre acc h hx hs
    obtain ⟨h1, h2⟩ := List.pairwise_cons.1 hs
    have := ih (h.step fun y hy => hx y hy x (by simp)) (fun y hy z hz => by
      rcases List.mem_append.1 hy with hy | hy
      · exact hx y hy z (by simp [hz])
      · rw [List.mem_singleton.1 hy]; exact h1 z hz) h2
    rw [List.append_assoc] at this
    exact this
/-- what 'merged' makes of any order of the parts is canonical -/
theorem Canon.mg {s l : List (Int × Int)} (hp : s.Perm l) (hs : s.Pairwise fun x y => x.1 ≤ y.1) : Canon l (mg s) :=
  ((Canon.fold Canon.nil (by simp) hs).perm (by simpa using hp))

/-- the canonical list, by the reference's insertion -/
def putP : List (Int × Int) → Int × Int → List (Int × Int)
  | [], x => [x]
  | y :: r, x => if x.1 < y.1 then x :: y :: r else if x.1 = y.1 then (y.1, max x.2 y.2) :: r else y :: putP r x
def canonV (l : List (Int × Int)) : List (Int × Int) := l.foldl putP []
theorem canonV_snoc (l : List (Int × Int)) (x : Int × Int) : canonV (l ++ [x]) = putP (canonV l) x := by unfold canonV; rw [List.foldl_append]; rfl
theorem putP_mem {r : List (Int × Int)} {x z : Int × Int} (ha : r.Pairwise fun x y => x.1 < y.1) (h : z ∈ putP r x) :
    (z ∈ r ∧ z.1 ≠ x.1) ∨ (z = x ∧ ∀ y ∈ r, y.1 ≠ x.1) ∨ (∃ y ∈ r, y.1 = x.1 ∧ z = (y.1, max x.2 y.2)) := by
  induction r with
  | nil => simp [putP] at h; subst h; exact .inr (.inl ⟨rfl, by simp⟩)
  | cons y r ih =>
    obtain ⟨h1, h2⟩ := List.pairwise_cons.1 ha
    unfold putP at h
    split at h
    · rename_i hlt
      have hall : ∀ t ∈ y :: r, t.1 ≠ x.1 := fun t ht => by
        rcases List.mem_cons.1 ht with rfl | ht
        · omega
        · have := h1 t ht; omega
      rcases List.mem_cons.1 h with rfl | h
      · exact .inr (.inl ⟨rfl, hall⟩)
      · exact .inl ⟨h, hall z h⟩
    · split at h
      · rename_i e
        rcases List.mem_cons.1 h with rfl | h
        · exact .inr (.inr ⟨y, by simp, e.symm, rfl⟩)
        · exact .inl ⟨List.mem_cons_of_mem _ h, by have := h1 z h; omega⟩
      · rename_i hne
        rcases List.mem_cons.1 h with rfl | h
        · exact .inl ⟨by simp, fun e => hne e.symm⟩
        · rcases ih h2 h with ⟨h3, h4⟩ | ⟨h3, h4⟩ | ⟨t, ht, h3, h4⟩
          · exact .inl ⟨List.mem_cons_of_mem _ h3, h4⟩
          · refine .inr (.inl ⟨h3, fun t ht => ?_⟩)
            rcases List.mem_cons.1 ht with rfl | ht
            · exact fun e => hne e.symm
            · exact h4 t ht
          · exact .inr (.inr ⟨t, List.mem_cons_of_mem _ ht, h3, h4⟩)
theorem putP_all {r : List (Int × Int)} {x y : Int × Int} (h : y ∈ r ∨ y = x) : ∃ z ∈ putP r x, z.1 = y.1 := by
  induction r with
  | nil =>
    rcases h with h | rfl
    · cases h
    · exact ⟨y, by simp [putP], rfl⟩
  | cons t r ih =>
    unfold putP
    split
    · rcases h with h | rfl
      · exact ⟨y, List.mem_cons_of_mem _ h, rfl⟩
      · exact ⟨y, by simp, rfl⟩
    · split
      · rename_i e
        rcases h with h | rfl
        · rcases List.mem_cons.1 h with rfl | h
          · exact ⟨(y.1, max x.2 y.2), by simp, rfl⟩
          · exact ⟨y, List.mem_cons_of_mem _ h, rfl⟩
        · exact ⟨(t.1, max y.2 t.2), by simp, e.symm⟩
      · rcases h with h | rfl
        · rcases List.mem_cons.1 h with rfl | h
          · exact ⟨y, by simp, rfl⟩
          · obtain ⟨z, hz, e⟩ := ih (.inl h)
            exact ⟨z, List.mem_cons_of_mem _ hz, e⟩
        · obtain ⟨z, hz, e⟩ := ih (.inr rfl)
          exact ⟨z, List.mem_cons_of_mem _ hz, e⟩
theorem putP_asc {r : List (Int × Int)} {x : Int × Int} (ha : r.Pairwise fun x y => x.1 < y.1) : (putP r x).Pairwise fun x y => x.1 < y.1 := by
  induction r with
  | nil => simp [putP]
  | cons y r ih =>
    obtain ⟨h1, h2⟩ := List.pairwise_cons.1 ha
    unfold putP
    split
    · refine List.pairwise_cons.2 ⟨fun z hz => ?_, ha⟩
      rcases List.mem_cons.1 hz with rfl | hz
      · assumption
      · have := h1 z hz; omega
    · split
      · exact List.pairwise_cons.2 ⟨fun z hz => h1 z hz, h2⟩
      · refine List.pairwise_cons.2 ⟨fun z hz => ?_, ih h2⟩
        rcases putP_mem h2 hz with ⟨h3, _⟩ | ⟨h3, _⟩ | ⟨t, ht, _, h4⟩
        · exact h1 z h3
        · subst h3; omega
        · rw [h4]; exact h1 t ht
theorem Canon.put {l r : List (Int × Int)} {x : Int × Int} (h : Canon l r) : Canon (l ++ [x]) (putP r x) where
  asc := putP_asc h.asc
  top z hz := by
    rcases putP_mem h.asc hz with ⟨h3, h4⟩ | ⟨h3, h4⟩ | ⟨t, ht, h3, h4⟩
    · obtain ⟨h5, h6⟩ := h.top z h3
      refine ⟨by simp [h5], fun y hy he => ?_⟩
      rcases List.mem_append.1 hy with hy | hy
      · exact h6 y hy he
      · rw [List.mem_singleton.1 hy] at he; exact absurd he.symm h4
    · subst h3
      refine ⟨by simp, fun y hy he => ?_⟩
      rcases List.mem_append.1 hy with hy | hy
      · obtain ⟨t, ht, hty⟩ := h.all y hy
        exact absurd (hty.trans he) (h4 t ht)
      · rw [List.mem_singleton.1 hy]; exact Int.le_refl _
    · subst h4
      obtain ⟨h5, h6⟩ := h.top t ht
      refine ⟨?_, fun y hy he => ?_⟩
      · by_cases hle : t.2 ≤ x.2
        · rw [Int.max_eq_left hle, h3]; simp
        · rw [Int.max_eq_right (by omega)]; exact List.mem_append_left _ h5
      · simp only at he ⊢
        rcases List.mem_append.1 hy with hy | hy
        · have := h6 y hy he; omega
        · rw [List.mem_singleton.1 hy]; omega
  all y hy := by
    rcases List.mem_append.1 hy with hy | hy
    · obtain ⟨t, ht, hty⟩ := h.all y hy
      obtain ⟨z, hz, e⟩ := putP_all (x := x) (.inl ht)
      exact ⟨z, hz, e.trans hty⟩
    · rw [List.mem_singleton.1 hy]
      exact putP_all (.inr rfl)
theorem canonV_canon (l : List (Int × Int)) : Canon l (canonV l) := by
  have : ∀ (s pre acc : List (Int × Int)), Canon pre acc → Canon (pre ++ s) (s.foldl putP acc) := by
    intro s
    induction s with
    | nil => intro pre acc h; simpa using h
    | cons x r ih =>
      intro pre acc h
      have := ih _ _ (h.put (x := x))
      rw [List.append_assoc] at this
      exact this
  have h := this l [] [] Canon.nil
  rw [List.nil_append] at h
  exact h
/-- BOTH PACKAGES' LISTS ARE ONE -/
theorem mg_eq {s l : List (Int × Int)} (hp : s.Perm l) (hs : s.Pairwise fun x y => x.1 ≤ y.1) : mg s = canonV l := (Canon.mg hp hs).unique (canonV_canon l)
theorem canonV_len (l : List (Int × Int)) : (canonV l).length ≤ l.length := by
  have h1 : ∀ (r : List (Int × Int)) x, (putP r x).length ≤ r.length + 1 := by
    intro r x
    induction r with
    | nil => simp [putP]
    | cons y r ih =>
      unfold putP
      split
      · simp
      · split
        · simp
        · simp only [List.length_cons]; omega
  have : ∀ (s acc : List (Int × Int)), (s.foldl putP acc).length ≤ acc.length + s.length := by
    intro s
    induction s with
    | nil => intro acc; simp
    | cons x r ih =>
      intro acc
      have := ih (putP acc x)
      have := h1 acc x
      simp only [List.foldl_cons, List.length_cons]
      omega
  have h := this l []
  rw [List.length_nil, Nat.zero_add] at h
  exact h
end Go.Proofs.YtgbbmcfhakliiaaGreatDoor
