/-
  Which constraints are left: one after another, from the last, is left out if it follows from the others. No walk in this text.
-/
import Derived.Test.YtapajkfnpkekdaaGFolM
namespace Go.Proofs.Ytapajkfnpkekdaa
open Go Go.RowKit

/-- the constraints with these numbers -/
def pick (cs : List LCn) (l : List Nat) : List LCn := l.filterMap fun i => cs[i]?
theorem pick_mem {cs : List LCn} {l : List Nat} {c : LCn} : c ∈ pick cs l ↔ ∃ i ∈ l, cs[i]? = some c := by simp [pick, List.mem_filterMap]
theorem pick_con {n : Nat} {cs : List LCn} (hcs : ∀ c ∈ cs, Con n c) (l : List Nat) : ∀ c ∈ pick cs l, Con n c := fun c hc => by
  obtain ⟨i, _, h⟩ := pick_mem.1 hc
  exact hcs c (List.mem_of_getElem? h)
theorem pick_app (cs : List LCn) (a b : List Nat) : pick cs (a ++ b) = pick cs a ++ pick cs b := by simp [pick]
theorem pick_one {cs : List LCn} {i : Nat} {c : LCn} (h : cs[i]? = some c) : pick cs [i] = [c] := by simp [pick, h]
theorem pick_len {cs : List LCn} {l : List Nat} (h : ∀ i ∈ l, i < cs.length) : (pick cs l).length = l.length := by
  induction l with
  | nil => rfl
  | cons i l ih =>
    have hi := h i (by simp)
    have := ih fun j hj => h j (List.mem_cons_of_mem _ hj)
    show (pick cs ([i] ++ l)).length = _
    rw [pick_app, pick_one (List.getElem?_eq_getElem hi), List.length_append, this]
    simp; omega
theorem sat_es {n : Nat} {cs : List LCn} {y : Nat → Int} : Sat (fun e => e ∈ esA n cs) y ↔ (∀ u, u < n → y n ≤ y u) ∧ ∀ c ∈ cs, ∀ e ∈ edgC n c 0, hol y e := by
  rw [← rE_iff]
  constructor
  · intro h
    refine ⟨fun u hu => ?_, fun c hc e he => h e (List.mem_append_right _ (List.mem_flatMap.2 ⟨c, by rw [List.take_length]; exact hc, he⟩))⟩
    have := h ⟨n, u, 0, 0⟩ (List.mem_append_left _ (List.mem_map.2 ⟨u, List.mem_range.2 hu, rfl⟩))
    unfold hol at this
    dsimp only at this
    omega
  · rintro ⟨h1, h2⟩ e he
    rcases List.mem_append.1 he with he | he
    · obtain ⟨u, hu, rfl⟩ := List.mem_map.1 he
      have := h1 u (List.mem_range.1 hu)
      unfold hol
      dsimp only
      omega
    · obtain ⟨c, hc, he⟩ := List.mem_flatMap.1 he
      rw [List.take_length] at hc
      exact h2 c hc e he
theorem foC_k {n i : Nat} {cs : List LCn} {e : Edg} (h : e ∈ foC n cs i) : ∃ c, cs[i]? = some c ∧ e ∈ edgC n c i ∧ e.k = i := by
  unfold foC at h
  cases hc : cs[i]? with
  | none => rw [hc] at h; cases h
  | some c =>
    rw [hc] at h
    have h : e ∈ edgC n c i := h
    refine ⟨c, rfl, h, ?_⟩
    rcases List.mem_cons.1 h with rfl | h1
    · rfl
    · obtain ⟨x, _, rfl⟩ := List.mem_map.1 h1; rfl
/-- some of the constraints are on -/
theorem sat_on {n : Nat} {cs : List LCn} {l : List Nat} {y : Nat → Int} (hl : ∀ i ∈ l, i < cs.length) : Sat (OnG (outE (esA n cs)) fun i => if i = cs.length then true else decide (i ∈ l)) y ↔ Sat (fun e => e ∈ esA n (pick cs l)) y := by
  rw [sat_es]
  constructor
  · intro h
    refine ⟨fun u hu => ?_, fun c hc => ?_⟩
    · have := h ⟨n, u, 0, cs.length⟩ ⟨outE_mem.2 ⟨List.mem_append_right _ (List.mem_map.2 ⟨u, List.mem_range.2 hu, rfl⟩), rfl⟩, by simp⟩
      unfold hol at this
      dsimp only at this
      omega
    · obtain ⟨i, hi, hci⟩ := pick_mem.1 hc
      refine (edgC_k (k := i)).1 fun e he => ?_
      have hk : e.k = i := by
        rcases List.mem_cons.1 he with rfl | h1
        · rfl
        · obtain ⟨x, _, rfl⟩ := List.mem_map.1 h1; rfl
      have hlt := hl i hi
      refine h e ⟨outE_mem.2 ⟨List.mem_append_left _ (esC_mem.2 ⟨i, hlt, by rw [foC_at hci]; exact he⟩), rfl⟩, ?_⟩
      rw [hk]
      show (if i = cs.length then true else decide (i ∈ l)) = true
      rw [if_neg (by omega)]
      simpa using hi
  · rintro ⟨h1, h2⟩ e ⟨he, hon⟩
    rcases List.mem_append.1 (outE_mem.1 he).1 with h3 | h3
    · obtain ⟨i, hi, h4⟩ := esC_mem.1 h3
      obtain ⟨c, hc, he2, hk⟩ := foC_k h4
      rw [hk] at hon
      have hon : (if i = cs.length then true else decide (i ∈ l)) = true := hon
      rw [if_neg (by omega)] at hon
      have hil : i ∈ l := by simpa using hon
      exact (edgC_k (k := i)).2 (h2 c (pick_mem.2 ⟨i, hil, hc⟩)) e he2
    · obtain ⟨u, hu, rfl⟩ := List.mem_map.1 h3
      have := h1 u (List.mem_range.1 hu)
      unfold hol
      dsimp only
      omega

/-- does the constraint k follow from those before it and these? -/
noncomputable def mFol (n : Nat) (cs : List LCn) (k : Nat) (l : List Nat) : Bool := folB (Sat fun e => e ∈ esA n (pick cs (List.range k ++ l))) (foC n cs k)
/-- what is left of the last m constraints -/
noncomputable def mLeft (n : Nat) (cs : List LCn) : Nat → List Nat
  | 0 => []
  | m + 1 => if mFol n cs (cs.length - 1 - m) (mLeft n cs m) then mLeft n cs m else (cs.length - 1 - m) :: mLeft n cs m
theorem mLeft_yes {n m : Nat} {cs : List LCn} {k : Nat} (hk : cs.length = k + 1 + m) (h : mFol n cs k (mLeft n cs m) = true) : mLeft n cs (m + 1) = mLeft n cs m := by
  rw [mLeft, show cs.length - 1 - m = k by omega, h]; rfl
theorem mLeft_no {n m : Nat} {cs : List LCn} {k : Nat} (hk : cs.length = k + 1 + m) (h : mFol n cs k (mLeft n cs m) = false) : mLeft n cs (m + 1) = k :: mLeft n cs m := by
  rw [mLeft, show cs.length - 1 - m = k by omega, h]; rfl
theorem mLeft_in {n : Nat} {cs : List LCn} : ∀ {m : Nat}, m ≤ cs.length → ∀ i ∈ mLeft n cs m, cs.length - m ≤ i ∧ i < cs.length
  | 0, _, i, h => by cases h
  | m + 1, hm, i, h => by
    have ih := mLeft_in (n := n) (cs := cs) (m := m) (by omega)
    cases hf : mFol n cs (cs.length - 1 - m) (mLeft n cs m) with
    | true =>
      rw [mLeft_yes (k := cs.length - 1 - m) (by omega) hf] at h
      have := ih i h; omega
    | false =>
      rw [mLeft_no (k := cs.length - 1 - m) (by omega) hf] at h
      rcases List.mem_cons.1 h with rfl | h
      · omega
      · have := ih i h; omega
theorem mLeft_sorted {n : Nat} {cs : List LCn} : ∀ {m : Nat}, m ≤ cs.length → (mLeft n cs m).Pairwise (· < ·)
  | 0, _ => List.Pairwise.nil
  | m + 1, hm => by
    have ih := mLeft_sorted (n := n) (cs := cs) (m := m) (by omega)
    have hin := mLeft_in (n := n) (cs := cs) (m := m) (by omega)
    cases hf : mFol n cs (cs.length - 1 - m) (mLeft n cs m) with
    | true => rw [mLeft_yes (k := cs.length - 1 - m) (by omega) hf]; exact ih
    | false =>
      rw [mLeft_no (k := cs.length - 1 - m) (by omega) hf]
      exact List.Pairwise.cons (fun i hi => by have := hin i hi; omega) ih
theorem mLeft_len {n : Nat} {cs : List LCn} : ∀ {m : Nat}, (mLeft n cs m).length ≤ m
  | 0 => Nat.le_refl _
  | m + 1 => by
    have ih := mLeft_len (n := n) (cs := cs) (m := m)
    rw [mLeft]
    split
    · omega
    · simp; exact ih
/-- what is left says the same as all -/
theorem mLeft_sat {n : Nat} {cs : List LCn} {y : Nat → Int} : ∀ {m : Nat}, m ≤ cs.length → (Sat (fun e => e ∈ esA n (pick cs (List.range (cs.length - m) ++ mLeft n cs m))) y ↔ Sat (fun e => e ∈ esA n cs) y)
  | 0, _ => by
    have : pick cs (List.range (cs.length - 0) ++ mLeft n cs 0) = cs := by
      rw [mLeft, List.append_nil, Nat.sub_zero]
      refine List.ext_getElem? fun i => ?_
      unfold pick
      have hr : ∀ k, k ≤ cs.length → (List.range k).filterMap (fun i => cs[i]?) = cs.take k := by
        intro k
        induction k with
        | zero => intro _; rfl
        | succ k ih =>
          intro hk
          rw [List.range_succ, List.filterMap_append, ih (by omega), take_snoc (List.getElem?_eq_getElem (by omega))]
          simp [List.getElem?_eq_getElem (show k < cs.length by omega)]
      rw [hr _ (Nat.le_refl _), List.take_length]
    rw [this]
  | m + 1, hm => by
    have ih := mLeft_sat (n := n) (cs := cs) (y := y) (m := m) (by omega)
    obtain ⟨k, hk⟩ : ∃ k, cs.length = k + 1 + m := ⟨cs.length - 1 - m, by omega⟩
    rw [show cs.length - m = k + 1 by omega] at ih
    rw [show cs.length - (m + 1) = k by omega]
    cases hf : mFol n cs k (mLeft n cs m) with
    | false =>
      rw [mLeft_no hk hf, ← ih, List.range_succ]
      simp
    | true =>
      rw [mLeft_yes hk hf, ← ih]
      rw [sat_es, sat_es]
      constructor
      · rintro ⟨h1, h2⟩
        refine ⟨h1, fun c hc => ?_⟩
        obtain ⟨i, hi, hci⟩ := pick_mem.1 hc
        rcases List.mem_append.1 hi with hi | hi
        · by_cases hik : i = k
          · subst hik
            have h3 := folB_iff.1 hf y (sat_es.2 ⟨h1, h2⟩)
            rw [foC_at hci] at h3
            exact edgC_k.1 h3
          · exact h2 c (pick_mem.2 ⟨i, List.mem_append_left _ (List.mem_range.2 (by have := List.mem_range.1 hi; omega)), hci⟩)
        · exact h2 c (pick_mem.2 ⟨i, List.mem_append_right _ hi, hci⟩)
      · rintro ⟨h1, h2⟩
        refine ⟨h1, fun c hc => ?_⟩
        obtain ⟨i, hi, hci⟩ := pick_mem.1 hc
        refine h2 c (pick_mem.2 ⟨i, ?_, hci⟩)
        rcases List.mem_append.1 hi with hi | hi
        · exact List.mem_append_left _ (List.mem_range.2 (by have := List.mem_range.1 hi; omega))
        · exact List.mem_append_right _ hi
/-- all that is left -/
noncomputable def minL (n : Nat) (cs : List LCn) : List Int := (mLeft n cs cs.length).map fun i : Nat => (i : Int)
/-- what Minimal says -/
def MinPost (v : Int) (cs : List LCn) (w : World) (e : Ending) (w' : World) : Prop :=
  Below w.heap.size w w' ∧ (gvld v cs = false ∧ e = .returned (.tuple #[.slice none 0 0, .int .i64 4]) ∨
    gvld v cs = true ∧ 200 < cs.length ∧ e = .returned (.tuple #[.slice none 0 0, .int .i64 2]) ∨
    gvld v cs = true ∧ cs.length ≤ 200 ∧ ∃ n : Nat, v = n ∧ (e = .returned (.tuple #[.slice none 0 0, .int .i64 20]) ∧ (∀ y, Sat (fun e => e ∈ esA n cs) y → False) ∨
      (∃ y, Sat (fun e => e ∈ esA n cs) y) ∧ ∃ u, e = .returned (.tuple #[u, .int .i64 0]) ∧ w'.ownsRow w.heap.size 3 1 u (minL n cs).length (int1 (minL n cs))))
end Go.Proofs.Ytapajkfnpkekdaa
