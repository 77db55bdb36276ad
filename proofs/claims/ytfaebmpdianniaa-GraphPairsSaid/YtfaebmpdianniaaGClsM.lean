/-
  The sets of equal variables while they are gathered. No walk in this text but the map's key.
-/
import Derived.Test.YtfaebmpdianniaaGDel
import Derived.Test.YtfaebmpdianniaaGEqC
import Derived.Maps.OwnSet
import Derived.DeepKeys4
namespace Go.Proofs.Ytfaebmpdianniaa
open Go Go.RowKit

/-- one group and one value -/
def grP (gs xs : List Int) (v x : Nat) : Bool := decide (gx gs v = gx gs x ∧ gx xs v = gx xs x)
theorem grP_iff {gs xs : List Int} {v x : Nat} : grP gs xs v x = true ↔ gx gs v = gx gs x ∧ gx xs v = gx xs x := decide_eq_true_iff
structure EqP (P : Nat → Nat → Bool) : Prop where
  refl : ∀ v, P v v = true
  symm : ∀ v x, P v x = true → P x v = true
  trans : ∀ v x y, P v x = true → P x y = true → P v y = true
theorem grP_eq (gs xs : List Int) : EqP (grP gs xs) :=
  ⟨fun _ => grP_iff.2 ⟨rfl, rfl⟩, fun _ _ h => grP_iff.2 ⟨(grP_iff.1 h).1.symm, (grP_iff.1 h).2.symm⟩, fun _ _ _ h g => grP_iff.2 ⟨(grP_iff.1 h).1.trans (grP_iff.1 g).1, (grP_iff.1 h).2.trans (grP_iff.1 g).2⟩⟩
/-- the first of each set, of those below k -/
def fsL (P : Nat → Nat → Bool) (k : Nat) : List Nat := (List.range k).filter (fst1 P)
/-- the sets, as far as those below k go -/
def stL (P : Nat → Nat → Bool) (k : Nat) : List (List Nat) := (fsL P k).map fun u => mem1 P u k
theorem fsL_succ (P : Nat → Nat → Bool) (k : Nat) : fsL P (k + 1) = if fst1 P k = true then fsL P k ++ [k] else fsL P k := by
  unfold fsL
  rw [List.range_succ, List.filter_append]
  by_cases h : fst1 P k = true
  · rw [if_pos h]; simp [h]
  · rw [if_neg h]; simp [h]
theorem fsL_mem {P : Nat → Nat → Bool} {k u : Nat} : u ∈ fsL P k ↔ u < k ∧ fst1 P u = true := by simp [fsL]
theorem stL_len (P : Nat → Nat → Bool) (k : Nat) : (stL P k).length = (fsL P k).length := by simp [stL]
theorem fsL_len (P : Nat → Nat → Bool) (k : Nat) : (fsL P k).length ≤ k := by
  have := List.length_filter_le (fst1 P) (List.range k)
  rwa [List.length_range] at this
theorem stL_at {P : Nat → Nat → Bool} {k i u : Nat} (h : (fsL P k)[i]? = some u) : (stL P k)[i]? = some (mem1 P u k) := by simp [stL, h]
/-- a new set -/
theorem stL_new {P : Nat → Nat → Bool} (E : EqP P) {k : Nat} (h : fst1 P k = true) : stL P (k + 1) = stL P k ++ [[k]] := by
  unfold stL
  rw [fsL_succ, if_pos h, List.map_append]
  congr 1
  · refine List.map_congr_left fun u hu => ?_
    have h1 := fst1_iff.1 h u (fsL_mem.1 hu).1
    rw [mem1_succ, if_neg (by rw [h1]; decide)]
  · rw [List.map_singleton, mem1_succ, if_pos (E.refl k)]
    have : mem1 P k k = [] := by
      unfold mem1
      rw [List.filter_eq_nil_iff]
      intro z hz h2
      have h1 := fst1_iff.1 h z (List.mem_range.1 hz)
      rw [E.symm _ _ h2] at h1
      cases h1
    rw [this]
    rfl
/-- one more in a set that is there -/
theorem stL_old {P : Nat → Nat → Bool} (E : EqP P) {k i u : Nat} (h : ¬ fst1 P k = true) (hi : (fsL P k)[i]? = some u) (hu : P u k = true) : stL P (k + 1) = (stL P k).set i (mem1 P u k ++ [k]) := by
  have hil : i < (fsL P k).length := (List.getElem?_eq_some_iff.1 hi).1
  have hpw : (fsL P k).Pairwise (· < ·) := List.pairwise_lt_range.filter _
  refine List.ext_getElem? fun j => ?_
  rw [List.getElem?_set]
  unfold stL
  rw [fsL_succ, if_neg h, List.getElem?_map, List.length_map]
  by_cases hj : i = j
  · subst hj
    rw [if_pos rfl, if_pos hil, hi, Option.map_some, mem1_succ, if_pos hu]
  · rw [if_neg hj, List.getElem?_map]
    cases hz : (fsL P k)[j]? with
    | none => rfl
    | some z =>
      have hjl : j < (fsL P k).length := (List.getElem?_eq_some_iff.1 hz).1
      have hzf := fsL_mem.1 (List.mem_of_getElem? hz)
      have huf := fsL_mem.1 (List.mem_of_getElem? hi)
      rw [Option.map_some, Option.map_some, mem1_succ]
      rw [if_neg]
      intro h2
      have h3 := E.trans _ _ _ h2 (E.symm _ _ hu)
      have e1 : (fsL P k)[j] = z := (List.getElem?_eq_some_iff.1 hz).2
      have e2 : (fsL P k)[i] = u := (List.getElem?_eq_some_iff.1 hi).2
      rcases Nat.lt_or_gt_of_ne hj with h4 | h4
      · have h5 := List.pairwise_iff_getElem.1 hpw i j hil hjl h4
        rw [e1, e2] at h5
        have h6 := fst1_iff.1 hzf.2 u h5
        rw [E.symm _ _ h3] at h6
        cases h6
      · have h5 := List.pairwise_iff_getElem.1 hpw j i hjl hil h4
        rw [e1, e2] at h5
        have h6 := fst1_iff.1 huf.2 z h5
        rw [h3] at h6
        cases h6
/-- those of two or more are the answer -/
theorem stL_cls (P : Nat → Nat → Bool) (n : Nat) : (stL P n).filter (fun l => decide (2 ≤ l.length)) = cls P n n := by
  unfold stL cls fsL
  rw [List.filter_map, List.filter_filter]
  congr 1
  refine List.filter_congr fun u _ => ?_
  show (decide (2 ≤ (mem1 P u n).length) && fst1 P u) = (fst1 P u && decide (1 < (mem1 P u n).length))
  exact Bool.and_comm _ _
theorem mem1_congr {P Q : Nat → Nat → Bool} {n u : Nat} (h : ∀ v x, v < n → x < n → P v x = Q v x) (hu : u < n) : mem1 P u n = mem1 Q u n :=
  List.filter_congr fun x hx => h u x hu (List.mem_range.1 hx)
theorem fst1_congr {P Q : Nat → Nat → Bool} {n u : Nat} (h : ∀ v x, v < n → x < n → P v x = Q v x) (hu : u < n) : fst1 P u = fst1 Q u := by
  cases h1 : fst1 Q u with
  | true => exact fst1_iff.2 fun z hz => by rw [h z u (by omega) hu]; exact fst1_iff.1 h1 z hz
  | false =>
    cases h2 : fst1 P u with
    | false => rfl
    | true => rw [fst1_iff.2 fun z hz => by rw [← h z u (by omega) hu]; exact fst1_iff.1 h2 z hz] at h1; cases h1
theorem cls_congr {P Q : Nat → Nat → Bool} {n : Nat} (h : ∀ v x, v < n → x < n → P v x = Q v x) : cls P n n = cls Q n n := by
  unfold cls
  have e : (List.range n).filter (fun u => fst1 P u && decide (1 < (mem1 P u n).length)) = (List.range n).filter (fun u => fst1 Q u && decide (1 < (mem1 Q u n).length)) :=
    List.filter_congr fun u hu => by rw [fst1_congr h (List.mem_range.1 hu), mem1_congr h (List.mem_range.1 hu)]
  rw [e]
  refine List.map_congr_left fun u hu => ?_
  rw [List.mem_filter] at hu
  exact mem1_congr h (List.mem_range.1 hu.1)

/-! ### the map -/
theorem laidG : laidOutB Try.prog = true := by kernel_rfl
theorem rowK : (66 : TypeId) < Try.prog.types.size := of_decide_eq_true (by kernel_rfl)
theorem wideK : (match Try.prog.underlying 66 with | some (.array _ _) | some (.struct _) => true | _ => false) = true := by rw [Try.underlying66]
set_option maxRecDepth 100000 in
theorem typK : Try.prog.keyTypeAt 2 66 = true := by kernel_rfl
set_option maxRecDepth 100000 in
theorem typK2 : Try.prog.keyType 66 = true := by kernel_rfl
set_option maxRecDepth 100000 in
theorem celK : Try.prog.cellsOf 66 = 2 := by kernel_rfl
set_option maxRecDepth 100000 in
theorem celI : Try.prog.cellsOf 3 = 1 := by kernel_rfl
set_option maxRecDepth 100000 in
theorem keyLaw : WideMaps.KeyLaw Try.prog 66 := deep_law_laid laidG (m := 2) (by omega) rowK typK wideK
theorem keyK : Maps.Keyed Try.prog 66 := Maps.Keyed.of_law keyLaw
/-- a place as a key -/
abbrev plV (a b : Int) : Value := .agg #[.int .i64 a, .int .i64 b]
set_option maxRecDepth 100000 in
theorem key_some {a b : Int} (ha : (Lit.int .i64 a).wf = true) (hb : (Lit.int .i64 b).wf = true) : ∃ l, keyOf Try.prog 66 (plV a b) = some l := by
  obtain ⟨m, hm⟩ : ∃ m, Try.prog.types.size = m + 1 := ⟨Try.prog.types.size - 1, (Nat.succ_pred_eq_of_pos (Nat.lt_of_le_of_lt (Nat.zero_le _) rowK)).symm⟩
  have hf : (plV a b).formed Try.prog 66 = true := by simp [Value.formed, Try.underlying66, celK]
  unfold keyOf
  rw [Try.underlying66]
  simp only [typK2, hf, Bool.and_self, if_true, hm]
  simp [Program.keyLits, Try.underlying66, Try.underlying3, celK, celI, Value.cells, ha, hb]
/-- what the map says when those below k have come -/
structure MI (gs xs : List Int) (k : Nat) (D : DataW Unit) : Prop where
  map : Maps.IsMap D
  hit : ∀ v l, v < k → keyOf Try.prog 66 (plV (gx gs v) (gx xs v)) = some l → Maps.has D l = true ∧ ∃ i u : Nat, D.atKey l (.lit (.int .i64 0)) = .lit (.int .i64 (i : Int)) ∧ (fsL (grP gs xs) k)[i]? = some u ∧ grP gs xs u v = true
  miss : ∀ z l, keyOf Try.prog 66 (plV (gx gs z) (gx xs z)) = some l → (∀ v, v < k → grP gs xs v z = false) → Maps.has D l = false
theorem pl_inj {a b c d : Int} (h : plV a b = plV c d) : a = c ∧ b = d := by
  injection h with h
  injection h with h
  injection h with h1 h
  injection h with h2 _
  injection h1 with _ h1
  injection h2 with _ h2
  exact ⟨h1, h2⟩
theorem MI.begin (gs xs : List Int) : MI gs xs 0 (.map []) := ⟨Maps.isMap_empty, fun v l h => by omega, fun z l _ _ => rfl⟩
theorem MI.new {gs xs : List Int} {k : Nat} {D : DataW Unit} (h : MI gs xs k D) {l0 : Lit} (hl : keyOf Try.prog 66 (plV (gx gs k) (gx xs k)) = some l0) (hf : fst1 (grP gs xs) k = true) : MI gs xs (k + 1) (D.put l0 (.lit (.int .i64 ((fsL (grP gs xs) k).length : Int)))) where
  map := h.map.put _ _
  hit := fun v l hv hk => by
    rw [fsL_succ, if_pos hf]
    by_cases e : l = l0
    · subst e
      obtain ⟨e1, e2⟩ := pl_inj (keyK.inj hk hl)
      exact ⟨Maps.has_put_same h.map (keyK.key hl) _, _, k, Maps.atKey_put_same h.map (keyK.key hl) _ _, by simp, grP_iff.2 ⟨e1.symm, e2.symm⟩⟩
    · have hvk : v < k := Nat.lt_of_le_of_ne (by omega) fun e2 => e (by subst e2; rw [hk] at hl; exact Option.some.inj hl)
      obtain ⟨h1, i, u, h2, h3, h4⟩ := h.hit v l hvk hk
      refine ⟨(Maps.has_put_other e _).trans h1, i, u, (Maps.atKey_put_other e _ _).trans h2, ?_, h4⟩
      rw [List.getElem?_append_left (List.getElem?_eq_some_iff.1 h3).1]
      exact h3
  miss := fun z l hk hz => by
    have e : l ≠ l0 := fun e => by
      subst e
      obtain ⟨e1, e2⟩ := pl_inj (keyK.inj hk hl)
      have := hz k (Nat.lt_succ_self k)
      rw [grP_iff.2 ⟨e1.symm, e2.symm⟩] at this
      cases this
    exact (Maps.has_put_other e _).trans (h.miss z l hk fun v hv => hz v (by omega))
theorem MI.old {gs xs : List Int} {k : Nat} {D : DataW Unit} (h : MI gs xs k D) (hf : ¬ fst1 (grP gs xs) k = true) {l0 : Lit} (hl : keyOf Try.prog 66 (plV (gx gs k) (gx xs k)) = some l0) :
    MI gs xs (k + 1) D ∧ Maps.has D l0 = true ∧ ∃ i u : Nat, D.atKey l0 (.lit (.int .i64 0)) = .lit (.int .i64 (i : Int)) ∧ (fsL (grP gs xs) k)[i]? = some u ∧ grP gs xs u k = true := by
  have E := grP_eq gs xs
  obtain ⟨z, hz, hP⟩ : ∃ z, z < k ∧ grP gs xs z k = true := Classical.byContradiction fun hn => hf (fst1_iff.2 fun z hz => by
    cases hb : grP gs xs z k with
    | false => rfl
    | true => exact absurd ⟨z, hz, hb⟩ hn)
  obtain ⟨g1, g2⟩ := grP_iff.1 hP
  have hk : ∃ i u : Nat, D.atKey l0 (.lit (.int .i64 0)) = .lit (.int .i64 (i : Int)) ∧ (fsL (grP gs xs) k)[i]? = some u ∧ grP gs xs u k = true := by
    obtain ⟨_, i, u, h2, h3, h4⟩ := h.hit z l0 hz (by rw [g1, g2]; exact hl)
    exact ⟨i, u, h2, h3, E.trans _ _ _ h4 hP⟩
  have hh : Maps.has D l0 = true := (h.hit z l0 hz (by rw [g1, g2]; exact hl)).1
  refine ⟨⟨h.map, fun v l hv hkv => ?_, fun z l hk hz => h.miss z l hk fun v hv => hz v (by omega)⟩, hh, hk⟩
  rw [fsL_succ, if_neg hf]
  by_cases e : v = k
  · subst e
    obtain rfl : l = l0 := by rw [hkv] at hl; exact Option.some.inj hl
    exact ⟨hh, hk⟩
  · exact h.hit v l (by omega) hkv
end Go.Proofs.Ytfaebmpdianniaa
