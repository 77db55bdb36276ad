/-
  The variables of levels, and the assignments that try them: plain lemmas.
-/
import Derived.Test.YtpahgbnfgnmlaaaDoorTelM
import Derived.Test.YtpahgbnfgnmlaaaDoorRVars
import Derived.Test.YtpahgbnfgnmlaaaDoorPutM
namespace Go.Proofs.YtpahgbnfgnmlaaaDoor
open Go Go.RowKit

theorem varsV_asc (l : List (Int × Int)) : (varsV l).Pairwise fun x y => x < y := by
  unfold varsV
  rw [List.pairwise_map]
  exact (canonV_canon _).asc
theorem varsV_mem {l : List (Int × Int)} {x : Int × Int} (h : x ∈ l) : x.1 ∈ varsV l := by
  obtain ⟨y, hy, e⟩ := (canonV_canon (l.map fun x => (x.1, 0))).all (x.1, 0) (List.mem_map.2 ⟨x, h, rfl⟩)
  exact List.mem_map.2 ⟨y, hy, e⟩
theorem varsV_of {l : List (Int × Int)} {v : Int} (h : v ∈ varsV l) : ∃ x ∈ l, x.1 = v := by
  obtain ⟨y, hy, rfl⟩ := List.mem_map.1 h
  obtain ⟨x, hx, rfl⟩ := List.mem_map.1 (canon_mem hy)
  exact ⟨x, hx, rfl⟩
theorem last_max {l : List Int} (h : l.Pairwise fun x y => x < y) {k : Nat} {x : Int} (hx : l[k]? = some x) (hk : l.length ≤ k + 1) : ∀ v ∈ l, v ≤ x := by
  intro v hv
  obtain ⟨j, hj⟩ := List.mem_iff_getElem?.1 hv
  obtain ⟨hjl, ej⟩ := List.getElem?_eq_some_iff.1 hj
  obtain ⟨hkl, ek⟩ := List.getElem?_eq_some_iff.1 hx
  rcases Nat.lt_or_ge j k with h' | h'
  · have := List.pairwise_iff_getElem.1 h j k hjl hkl h'
    rw [ej, ek] at this
    omega
  · obtain rfl : j = k := by omega
    rw [ej] at ek
    omega
theorem asc_inj {l : List Int} (h : l.Pairwise fun x y => x < y) {j k : Nat} {v : Int} (hj : l[j]? = some v) (hk : l[k]? = some v) : j = k := by
  obtain ⟨hjl, ej⟩ := List.getElem?_eq_some_iff.1 hj
  obtain ⟨hkl, ek⟩ := List.getElem?_eq_some_iff.1 hk
  rcases Nat.lt_trichotomy j k with h' | h' | h'
  · have := List.pairwise_iff_getElem.1 h j k hjl hkl h'
    rw [ej, ek] at this; omega
  · exact h'
  · have := List.pairwise_iff_getElem.1 h k j hkl hjl h'
    rw [ej, ek] at this; omega

/-- the bit number i of p -/
def bitv (p i : Nat) : Int := (((p >>> i) % 2 : Nat) : Int)
theorem bitv_cases (p i : Nat) : bitv p i = 0 ∨ bitv p i = 1 := by unfold bitv; omega
/-- whether a variable is one of the first k that p picks -/
def asgK (vv : List Int) (p k : Nat) (v : Int) : Bool := (List.range k).any fun j => (vv[j]? == some v) && decide (bitv p j = 1)
/-- the numbers of a pick: 1001 for the variables picked among the first k -/
def pkK (vv : List Int) (top p k : Nat) : List Int := (List.range top).map fun (u : Nat) => if asgK vv p k (u : Int) then 1001 else 0
theorem pkK_len (vv : List Int) (top p k : Nat) : (pkK vv top p k).length = top := by simp [pkK]
theorem pkK_get (vv : List Int) {top : Nat} (p k : Nat) {u : Nat} (hu : u < top) : (pkK vv top p k)[u]? = some (if asgK vv p k (u : Int) then 1001 else 0) := by
  unfold pkK
  rw [List.getElem?_map, List.getElem?_range hu]
  rfl
theorem pkK_hi (vv : List Int) (top p k : Nat) : ∀ z ∈ pkK vv top p k, 0 ≤ z ∧ z ≤ 1001 := by
  intro z hz
  obtain ⟨u, _, rfl⟩ := List.mem_map.1 hz
  split <;> decide
theorem pkK_zero (vv : List Int) (top p : Nat) : pkK vv top p 0 = List.replicate top 0 := by
  refine List.ext_getElem? fun j => ?_
  by_cases hj : j < top
  · rw [pkK_get vv p 0 hj]; simp [asgK, hj]
  · rw [List.getElem?_eq_none (by rw [pkK_len]; omega), List.getElem?_eq_none (by simp; omega)]
theorem asgK_succ (vv : List Int) (p k : Nat) (v : Int) : asgK vv p (k + 1) v = (asgK vv p k v || ((vv[k]? == some v) && decide (bitv p k = 1))) := by
  unfold asgK
  rw [List.range_succ, List.any_append]
  simp
theorem asgK_iff {vv : List Int} {p k : Nat} {v : Int} : asgK vv p k v = true ↔ ∃ j, j < k ∧ vv[j]? = some v ∧ bitv p j = 1 := by
  simp only [asgK, List.any_eq_true, List.mem_range, Bool.and_eq_true, beq_iff_eq, decide_eq_true_eq]
theorem pkK_step {vv : List Int} {top p k u : Nat} (h : vv.Pairwise fun x y => x < y) (hu : vv[k]? = some (u : Int)) (_hut : u < top) : (pkK vv top p k).set u (bitv p k * 1001) = pkK vv top p (k + 1) := by
  refine List.ext_getElem? fun j => ?_
  by_cases hj : j < top
  · rw [pkK_get vv p (k + 1) hj, List.getElem?_set]
    by_cases e : u = j
    · subst e
      have hn : asgK vv p k (u : Int) = false := by
        rw [← Bool.not_eq_true, asgK_iff]
        rintro ⟨i, hi, hiu, _⟩
        have := asc_inj h hiu hu
        omega
      rw [if_pos rfl, if_pos (by rw [pkK_len]; omega), asgK_succ, hn, hu]
      rcases bitv_cases p k with hb | hb <;> simp [hb]
    · have hne : (vv[k]? == some (j : Int)) = false := by
        rw [hu]; simp; omega
      rw [if_neg e, pkK_get vv p k hj, asgK_succ, hne]
      simp
  · rw [List.getElem?_eq_none (by simp [pkK_len]; omega), List.getElem?_eq_none (by rw [pkK_len]; omega)]
theorem asv_pkK {vv : List Int} {top p k : Nat} {v : Int} (h0 : 0 ≤ v) (h1 : v < top) : asv (pkK vv top p k) v = if asgK vv p k v then 1001 else 0 := by
  obtain ⟨u, rfl⟩ : ∃ u : Nat, v = u := ⟨v.toNat, by omega⟩
  rw [asv_some (pkK_get vv p k (show u < top by omega))]
  split
  · rfl
  · split <;> simp_all

/-- whether the one level has at most the other one's value at the first k picks -/
def allP (ca : Int) (la : List (Int × Int)) (cb : Int) (lb : List (Int × Int)) (vv : List Int) (top nv k : Nat) : Bool := (List.range k).all fun p => decide (evMax ca (pkK vv top p nv) la ≤ evMax cb (pkK vv top p nv) lb)
theorem allP_succ (ca : Int) (la : List (Int × Int)) (cb : Int) (lb : List (Int × Int)) (vv : List Int) (top nv k : Nat) : allP ca la cb lb vv top nv (k + 1) = (allP ca la cb lb vv top nv k && decide (evMax ca (pkK vv top k nv) la ≤ evMax cb (pkK vv top k nv) lb)) := by
  unfold allP
  rw [List.range_succ, List.all_append]
  simp
theorem allP_iff {ca : Int} {la : List (Int × Int)} {cb : Int} {lb : List (Int × Int)} {vv : List Int} {top nv k : Nat} : allP ca la cb lb vv top nv k = true ↔ ∀ p, p < k → evMax ca (pkK vv top p nv) la ≤ evMax cb (pkK vv top p nv) lb := by
  simp only [allP, List.all_eq_true, List.mem_range, decide_eq_true_eq]
theorem bit_form {k j : Nat} (hk : k < 32) (hj : j < 5) : IntKind.i64.wrap (bits BinOp.and IntKind.i64 ((k : Int) / 2 ^ j) 1 * 1001) = bitv k j * 1001 := by
  have : ∀ i : Fin 32, ∀ j : Fin 5, IntKind.i64.wrap (bits BinOp.and IntKind.i64 ((i.val : Int) / 2 ^ j.val) 1 * 1001) = bitv i.val j.val * 1001 := by decide +kernel
  exact this ⟨k, hk⟩ ⟨j, hj⟩
theorem bitv_zero (j : Nat) : bitv 0 j = 0 := by simp [bitv]
theorem bitv_pow {i j : Nat} (hi : i < 5) (hj : j < 5) : bitv (2 ^ j) i = if i = j then 1 else 0 := by
  have : ∀ i : Fin 5, ∀ j : Fin 5, bitv (2 ^ j.val) i.val = if i.val = j.val then 1 else 0 := by decide
  exact this ⟨i, hi⟩ ⟨j, hj⟩
/-- the picks tell the order -/
theorem allP_leq {ca : Int} {la : List (Int × Int)} {cb : Int} {lb : List (Int × Int)} {vv : List Int} {top nv : Nat} (ha : vld ca la = true) (hb : vld cb lb = true) (_hasc : vv.Pairwise fun x y => x < y) (hnv : vv.length = nv) (h5 : nv ≤ 5)
    (hmem : ∀ x ∈ la ++ lb, x.1 ∈ vv) (hvv : ∀ v ∈ vv, 0 ≤ v ∧ v < top) : allP ca la cb lb vv top nv (2 ^ nv) = leqv ca la cb lb := by
  cases hl : leqv ca la cb lb
  · rw [← Bool.not_eq_true]
    intro h
    rw [allP_iff] at h
    refine absurd (leqv_complete ha hb ⟨_, fun x hx => ?_, h 0 (Nat.two_pow_pos nv)⟩ fun x hx => ?_) (by rw [hl]; decide)
    · have := hvv _ (hmem x hx)
      rw [asv_pkK this.1 this.2]
      have : asgK vv 0 nv x.1 = false := by
        rw [← Bool.not_eq_true, asgK_iff]
        rintro ⟨j, _, _, hj⟩
        rw [bitv_zero] at hj; cases hj
      rw [this]; rfl
    · obtain ⟨j, hj⟩ := List.mem_iff_getElem?.1 (hmem x (List.mem_append_left _ hx))
      have hjl : j < nv := by have := (List.getElem?_eq_some_iff.1 hj).1; omega
      refine ⟨_, ?_, fun y hy hne => ?_, h (2 ^ j) (Nat.pow_lt_pow_right (by decide) hjl)⟩
      · have := hvv _ (hmem x (List.mem_append_left _ hx))
        rw [asv_pkK this.1 this.2, asgK_iff.2 ⟨j, hjl, hj, by rw [bitv_pow (by omega) (by omega)]; simp⟩]; rfl
      · have := hvv _ (hmem y (List.mem_append_right _ hy))
        rw [asv_pkK this.1 this.2]
        have : asgK vv (2 ^ j) nv y.1 = false := by
          rw [← Bool.not_eq_true, asgK_iff]
          rintro ⟨i, hi, hiy, hb⟩
          rw [bitv_pow (by omega) (by omega)] at hb
          by_cases e : i = j
          · subst e
            rw [hj] at hiy
            exact hne (Option.some.inj hiy).symm
          · rw [if_neg e] at hb; cases hb
        rw [this]; rfl
  · rw [allP_iff]
    exact fun p _ => leqv_sound hl _
end Go.Proofs.YtpahgbnfgnmlaaaDoor
