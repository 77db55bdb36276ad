/-
  'Valid' of package level and of its reference: both return one and the same Bool for every level, and leave the memory that was there alone.
-/
import Derived.Test.YtdhbfkbkgjmniaaGreatDoorBel
namespace Go.Proofs.YtdhbfkbkgjmniaaGreatDoor
open Go Go.RowKit

/-- a level's parts are valid up to k -/
def OkUp (l : List (Int × Int)) (k : Nat) : Prop :=
  ∀ i x, i < k → l[i]? = some x → (0 ≤ x.1 ∧ x.1 ≤ 1199) ∧ (0 ≤ x.2 ∧ x.2 ≤ 1000) ∧ hasv (l.take i) x.1 = false
/-- a level is valid -/
structure Vld (c : Int) (l : List (Int × Int)) : Prop where
  lo : 0 ≤ c
  hi : c ≤ 1000
  len : l.length ≤ 8
  ok : OkUp l l.length
open Classical in
noncomputable def vld (c : Int) (l : List (Int × Int)) : Bool := decide (Vld c l)
theorem vld_of {c : Int} {l : List (Int × Int)} (h : Vld c l) : vld c l = true := by simp [vld, h]
theorem vld_not {c : Int} {l : List (Int × Int)} (h : ¬ Vld c l) : vld c l = false := by simp [vld, h]
theorem vld_iff {c : Int} {l : List (Int × Int)} : vld c l = true ↔ Vld c l := by simp [vld]
theorem okUp_zero (l : List (Int × Int)) : OkUp l 0 := fun _ _ h => absurd h (by omega)
theorem okUp_succ {l : List (Int × Int)} {k : Nat} {x : Int × Int} (h : OkUp l k) (hx : l[k]? = some x) (h1 : 0 ≤ x.1 ∧ x.1 ≤ 1199) (h2 : 0 ≤ x.2 ∧ x.2 ≤ 1000) (h3 : hasv (l.take k) x.1 = false) : OkUp l (k + 1) := by
  intro i y hi hy
  rcases Nat.lt_or_ge i k with hlt | hge
  · exact h i y hlt hy
  · obtain rfl : i = k := by omega
    rw [hx] at hy; obtain rfl := Option.some.inj hy
    exact ⟨h1, h2, h3⟩
theorem not_ok {c : Int} {l : List (Int × Int)} {k : Nat} {x : Int × Int} (hx : l[k]? = some x) (hn : ¬ ((0 ≤ x.1 ∧ x.1 ≤ 1199) ∧ (0 ≤ x.2 ∧ x.2 ≤ 1000) ∧ hasv (l.take k) x.1 = false)) : vld c l = false :=
  vld_not fun h => hn (h.ok k x (List.getElem?_eq_some_iff.1 hx).1 hx)

theorem PL.take {w : World} {B n : Nat} {A : Option Addr} {l : List (Int × Int)} (h : PL w B A n l) {k : Nat} (hk : k ≤ n) : PL w B A k (l.take k) := by
  refine ⟨by rw [List.length_take, h.1]; omega, fun h0 => ?_⟩
  obtain ⟨b, off, e, hb, hc⟩ := h.2 (by omega)
  refine ⟨b, off, e, hb, fun j x hx => ?_⟩
  rw [List.getElem?_take] at hx
  split at hx
  · exact hc j x hx
  · cases hx

theorem wi_true {n g : Int} (h : wi n g = true) : 0 ≤ n ∧ n ≤ g := by simpa [wi] using h
theorem back0 {w wr : World} {o : Obj} (hb : Below (w.heap.size + 1) (w.alloc o) wr) : Below w.heap.size w wr :=
  ((Below.refl _ w).alloc (Nat.le_refl _) o).trans (hb.mono (by omega))
theorem back {w wr : World} {o : Obj} (hb : Below (w.heap.size + 1) (w.alloc o) wr) (o' : Obj) : Below w.heap.size w (wr.alloc o') :=
  (((Below.refl _ w).alloc (Nat.le_refl _) o).trans (hb.mono (by omega))).alloc (by have := hb.size; simp at this; omega) _

set_option maxRecDepth 100000 in
set_option maxHeartbeats 1000000 in
theorem valid_any (c : Int) (A : Option Addr) (n cap : Nat) (l : List (Int × Int)) (w : World) (h : PL w w.heap.size A n l) (hn : n ≤ cap) (hm : cap ≤ 9223372036854775807) :
    Calls Tryz.prog 104 #[.agg #[.int .i64 c, .slice A n cap]] w fun e w' => e = .returned (.bool (vld c l)) ∧ Below w.heap.size w w' := by
  by_cases h0 : wi c 1000 = true
  case neg =>
    have h0' : wi c 1000 = false := by simpa using h0
    have Hf : Hid (vld c l = false) := vld_not fun h => by have h1 := h.lo; have h2 := h.hi; simp [wi, h1, h2] at h0'
    clear h0
    go_enter Tryz.func104, Tryz.ntmps104
    go_wp2_with (go_at_call 153; refine (within_any _ _ _).mono ?_; rintro e w' ⟨rfl, rfl⟩)
    go_ret
    exact ⟨ret_bool Hf.out.symm, (Below.refl _ _).alloc (Nat.le_refl _) _⟩
  by_cases h8 : (n : Int) ≤ 8
  case neg =>
    have Hf : Hid (vld c l = false) := vld_not fun h' => by have h1 := h'.len; have := h.1; omega
    go_enter Tryz.func104, Tryz.ntmps104
    go_wp2_with (go_at_call 153; refine (within_any _ _ _).mono ?_; rintro e w' ⟨rfl, rfl⟩)
    go_ret
    exact ⟨ret_bool Hf.out.symm, (Below.refl _ _).alloc (Nat.le_refl _) _⟩
  go_enter Tryz.func104, Tryz.ntmps104
  go_wp2_with (go_at_call 153; refine (within_any _ _ _).mono ?_; rintro e w' ⟨rfl, rfl⟩)
  go_loopw [18] (fun i wr => ∃ k : Nat, k ≤ n ∧ i = .int .i64 k ∧ OkUp l k ∧ Below (w.heap.size + 1) (w.alloc (.cells #[.int .i64 c, .slice A n cap] 34)) wr) (fun i _ => n - (intOf i).toNat)
  case atStart => exact ⟨0, Nat.zero_le _, rfl, okUp_zero l, Below.refl _ _⟩
  case round =>
    obtain ⟨k, hk, rfl, hok, hb⟩ := hrel
    have hs : wr.cell? ⟨w.heap.size, 1, none⟩ = some (.slice A n cap) := (hb.cell (p := ⟨w.heap.size, 1, none⟩) (by simp)).trans (by simp)
    have hsz : w.heap.size + 1 ≤ wr.heap.size := by simpa using hb.size
    have h' : PL wr w.heap.size A n l := h.keep fun p hp => (hb.cell (p := p) (by omega)).trans (World.cell?_alloc_lt w _ p hp)
    have hne : w.heap.size ≠ wr.heap.size := by omega
    by_cases hlt : k < n
    · obtain ⟨b, off, x, rfl, hbl, hx, hx0, hx1⟩ := h'.at_ hlt
      by_cases a1 : wi x.1 1199 = true
      case neg =>
        have a1' : wi x.1 1199 = false := by simpa using a1
        clear a1
        have Hf : Hid (vld c l = false) := not_ok hx fun h => by simp [wi, h.1] at a1'
        go_wp2_with (first | (go_at_call 153; refine (within_any _ _ _).mono ?_; rintro e w' ⟨rfl, rfl⟩))
        go_ret
        exact ⟨ret_bool Hf.out.symm, back hb _⟩
      by_cases a2 : wi x.2 1000 = true
      case neg =>
        have a2' : wi x.2 1000 = false := by simpa using a2
        clear a2
        have Hf : Hid (vld c l = false) := not_ok hx fun h => by simp [wi, h.2.1] at a2'
        go_wp2_with (first | (go_at_call 153; refine (within_any _ _ _).mono ?_; rintro e w' ⟨rfl, rfl⟩))
        go_ret
        exact ⟨ret_bool Hf.out.symm, back hb _⟩
      have r1 : ∀ p : Bel (wr.heap.size + 1) (wr.alloc (.cells #[.int .i64 x.1, .int .i64 x.2] 66)), p.v.cell? ⟨w.heap.size, 1, none⟩ = some (.slice (some ⟨b, off, none⟩) n cap) :=
        Bel.cell (show w.heap.size < wr.heap.size + 1 by omega) ((World.cell?_alloc_lt wr _ ⟨w.heap.size, 1, none⟩ hsz).trans hs)
      have r2 : ∀ p : Bel (wr.heap.size + 1) (wr.alloc (.cells #[.int .i64 x.1, .int .i64 x.2] 66)), p.v.cell? ⟨wr.heap.size, 0, none⟩ = some (.int .i64 x.1) :=
        Bel.cell (Nat.lt_succ_self _) (by simp)
      have r3 : ∀ p : Bel (wr.heap.size + 1) (wr.alloc (.cells #[.int .i64 x.1, .int .i64 x.2] 66)), PL p.v p.v.heap.size (some ⟨b, off, none⟩) k (l.take k) := fun p =>
        ((h'.keep fun q hq => (p.h.cell (by omega)).trans (World.cell?_alloc_lt wr _ q (by omega))).more (by have := p.h.size; simp at this; omega)).take hk
      go_wp2_with (first | (go_at_call 153; refine (within_any _ _ _).mono ?_; rintro e w' ⟨rfl, rfl⟩))
      have hkc : k ≤ cap := by omega
      refine wp_region_bel (wr.heap.size + 1) (wr.alloc (.cells #[.int .i64 x.1, .int .i64 x.2] 66)) (by kernel_rfl) (by kernel_rfl) (Below.refl _ _) ?_
      repeat (quiet_step ((go_at_call 154; exact Calls.bel_of (by simp) (has_any _ _ _ _ _ _ (r3 _) (by omega)))))
      refine wpQuiet_nil ?_
      rintro _ ⟨pq, rfl⟩
      have hbq : Below (w.heap.size + 1) (w.alloc (.cells #[.int .i64 c, .slice (some ⟨b, off, none⟩) n cap] 34)) pq.v :=
        (hb.alloc hsz _).trans (pq.h.mono (by omega))
      cases hh : hasv (l.take k) x.1
      · have Hh := Lib.hid hh; clear hh
        have Hs : Hid (OkUp l (k + 1)) := okUp_succ hok hx (wi_true a1) (wi_true a2) Hh.out
        clear r1 r2 r3
        go_wp2
        go_roundw
        case rel => exact ⟨k + 1, by omega, by go_num, Hs.out, hbq⟩
        case measure => simp [intOf]; omega
      · have Hf : Hid (vld c l = false) := not_ok hx fun h => by simp [h.2.2] at hh
        clear r1 r2 r3
        go_wp2
        go_ret
        exact ⟨ret_bool Hf.out.symm, back0 hbq⟩
    · have Hf : Hid (vld c l = true) := vld_of ⟨(wi_true h0).1, (wi_true h0).2, by have := h.1; omega, by have : l.length = k := by have := h.1; omega
                                                                                                          rw [this]; exact hok⟩
      go_wp2
      go_ret
      exact ⟨ret_bool Hf.out.symm, back0 hb⟩
end Go.Proofs.YtdhbfkbkgjmniaaGreatDoor
