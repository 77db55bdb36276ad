/-
  'fits' and 'Normal' of the reference; equality of levels where they are equal.
-/
import Derived.Test.YtgbbmcfhakliiaaGreatDoorRCanon
import Derived.Test.YtgbbmcfhakliiaaGreatDoorNormal
import Derived.Test.YtgbbmcfhakliiaaGreatDoorRVld
namespace Go.Proofs.YtgbbmcfhakliiaaGreatDoor
open Go Go.RowKit

def fE (c : Int) (r : List (Int × Int)) : Int := if r.length ≤ 8 ∧ c ≤ 1000 ∧ ∀ y ∈ r, y.2 ≤ 1000 then 0 else 2
theorem fE_eq (c : Int) (r : List (Int × Int)) : fE c r = if r.length ≤ 8 ∧ max c (gplus r) ≤ 1000 then 0 else 2 := by
  unfold fE
  have : (r.length ≤ 8 ∧ c ≤ 1000 ∧ ∀ y ∈ r, y.2 ≤ 1000) ↔ (r.length ≤ 8 ∧ max c (gplus r) ≤ 1000) := by
    constructor
    · rintro ⟨h1, h2, h3⟩
      have := gplus_le (l := r) (m := 1000) (by omega) h3
      exact ⟨h1, by omega⟩
    · rintro ⟨h1, h2⟩
      exact ⟨h1, by omega, fun y hy => by have := (gplus_nn r).2 y hy; omega⟩
  by_cases h : r.length ≤ 8 ∧ c ≤ 1000 ∧ ∀ y ∈ r, y.2 ≤ 1000
  · rw [if_pos h, if_pos (this.1 h)]
  · rw [if_neg h, if_neg fun h' => h (this.2 h')]

/-- the two boxes that 'fits' and 'Normal' begin with -/
structure B2 (w wr : World) (c : Int) (A : Option Addr) (n cap : Nat) : Prop where
  bel : Below w.heap.size w wr
  size : w.heap.size + 2 ≤ wr.heap.size
  a0 : wr.cell? ⟨w.heap.size, 0, none⟩ = some (.int .i64 c)
  a1 : wr.cell? ⟨w.heap.size, 1, none⟩ = some (.slice A n cap)
  r0 : wr.cell? ⟨w.heap.size + 1, 0, none⟩ = some (.int .i64 0)
  r1 : wr.cell? ⟨w.heap.size + 1, 1, none⟩ = some (.slice none 0 0)
  r2 : wr.frozen? ⟨w.heap.size + 1, 0, none⟩ = false
  r3 : wr.frozen? ⟨w.heap.size + 1, 1, none⟩ = false
theorem B2.start (w : World) (c : Int) (A : Option Addr) (n cap : Nat) : B2 w ((w.alloc (.cells #[.int .i64 c, .slice A n cap] 24)).alloc (.cells #[.int .i64 0, .slice none 0 0] 24)) c A n cap := by
  obtain ⟨⟨q0, q1, q2, q3⟩, q4, q5⟩ := box2 (w := w) (x0 := .int .i64 c) (x1 := .slice A n cap) (y0 := .int .i64 0) (y1 := .slice none 0 0) (t := 24) (Below.refl _ _)
  exact ⟨q5, q4, q0, q1, q2, q3, by simp, by simp⟩
theorem B2.go {w wr w5 : World} {c : Int} {A : Option Addr} {n cap : Nat} (h : B2 w wr c A n cap) (hb : Below wr.heap.size wr w5) : B2 w w5 c A n cap := by
  have hs := h.size
  exact ⟨h.bel.trans (hb.mono h.bel.size), by have := hb.size; omega, (hb.cell (p := ⟨w.heap.size, 0, none⟩) (show w.heap.size < _ by omega)).trans h.a0, (hb.cell (p := ⟨w.heap.size, 1, none⟩) (show w.heap.size < _ by omega)).trans h.a1,
    (hb.cell (p := ⟨w.heap.size + 1, 0, none⟩) (show w.heap.size + 1 < _ by omega)).trans h.r0, (hb.cell (p := ⟨w.heap.size + 1, 1, none⟩) (show w.heap.size + 1 < _ by omega)).trans h.r1,
    (hb.frozen (p := ⟨w.heap.size + 1, 0, none⟩) (show w.heap.size + 1 < _ by omega)).trans h.r2, (hb.frozen (p := ⟨w.heap.size + 1, 1, none⟩) (show w.heap.size + 1 < _ by omega)).trans h.r3⟩
theorem B2.put {w wr : World} {c : Int} {A : Option Addr} {n cap : Nat} (h : B2 w wr c A n cap) (d : Int) (v : Value) :
    ((wr.setCell ⟨w.heap.size + 1, 0, none⟩ (.int .i64 d)).setCell ⟨w.heap.size + 1, 1, none⟩ v).cell? ⟨w.heap.size + 1, 0, none⟩ = some (.int .i64 d) ∧
    ((wr.setCell ⟨w.heap.size + 1, 0, none⟩ (.int .i64 d)).setCell ⟨w.heap.size + 1, 1, none⟩ v).cell? ⟨w.heap.size + 1, 1, none⟩ = some v ∧
    Below w.heap.size w ((wr.setCell ⟨w.heap.size + 1, 0, none⟩ (.int .i64 d)).setCell ⟨w.heap.size + 1, 1, none⟩ v) :=
  ⟨keep_off (by decide) (World.cell?_setCell_same _ _ _ h.r0), World.cell?_setCell_same _ _ _ (keep_off (by decide) h.r1), (h.bel.setCell (by show w.heap.size ≤ w.heap.size + 1; omega) _).setCell (by show w.heap.size ≤ w.heap.size + 1; omega) _⟩

def fV (c : Int) (A : Option Addr) (n cap : Nat) (r : List (Int × Int)) : Value := if fE c r = 0 then .agg #[.int .i64 c, .slice A n cap] else .agg #[.int .i64 0, .slice none 0 0]
theorem fE_two {c : Int} {r : List (Int × Int)} (h : ¬ (r.length ≤ 8 ∧ c ≤ 1000 ∧ ∀ y ∈ r, y.2 ≤ 1000)) (A : Option Addr) (n cap : Nat) : fE c r = 2 ∧ fV c A n cap r = .agg #[.int .i64 0, .slice none 0 0] := by
  have e : fE c r = 2 := by rw [fE, if_neg h]
  exact ⟨e, by rw [fV, e]; rfl⟩
theorem fE_ok {c : Int} {r : List (Int × Int)} (h : r.length ≤ 8 ∧ c ≤ 1000 ∧ ∀ y ∈ r, y.2 ≤ 1000) (A : Option Addr) (n cap : Nat) : fE c r = 0 ∧ fV c A n cap r = .agg #[.int .i64 c, .slice A n cap] := by
  have e : fE c r = 0 := by rw [fE, if_pos h]
  exact ⟨e, by rw [fV, e]; rfl⟩

set_option maxRecDepth 100000 in
set_option maxHeartbeats 4000000 in
theorem fits_any (c : Int) (A : Option Addr) (n cap : Nat) (r : List (Int × Int)) (w : World) (h : PL w w.heap.size A n r) (hn : n ≤ 1000000) :
    Calls Tryz.prog 21 #[.agg #[.int .i64 c, .slice A n cap]] w fun e w' => e = .returned (.tuple #[fV c A n cap r, .int .i64 (fE c r)]) ∧ Below w.heap.size w w' := by
  have hb2 := B2.start w c A n cap
  have hlen := Lib.hid h.1
  go_enter Tryz.func21, Tryz.ntmps21
  go_upto_region 1 with fail
  generalize (w.alloc (.cells #[.int .i64 c, .slice A n cap] 24)).alloc (.cells #[.int .i64 0, .slice none 0 0] 24) = W at *
  have a0 := hb2.a0
  have a1 := hb2.a1
  have r0 := hb2.r0
  have r1 := hb2.r1
  have r2 := hb2.r2
  have r3 := hb2.r3
  obtain ⟨z0, z1, z2⟩ := hb2.put 0 (.slice none 0 0)
  by_cases h8 : 8 < (n : Int)
  · obtain ⟨e1, e2⟩ := fE_two (c := c) (r := r) (fun h => by have := hlen.out; omega) A n cap
    have E1 := Lib.hid e1; have E2 := Lib.hid e2; clear e1 e2
    go_wp2_with fail
    refine bodyPost_ret (v := .tuple #[.agg #[.int .i64 0, .slice none 0 0], .int .i64 2]) (by simp [results, Tryz.results21, go_sem, z0, z1]) rfl ?_
    exact ⟨by rw [E1.out, E2.out], z2⟩
  by_cases hc : 1000 < c
  · obtain ⟨e1, e2⟩ := fE_two (c := c) (r := r) (fun h => by omega) A n cap
    have E1 := Lib.hid e1; have E2 := Lib.hid e2; clear e1 e2
    go_wp2_with fail
    refine bodyPost_ret (v := .tuple #[.agg #[.int .i64 0, .slice none 0 0], .int .i64 2]) (by simp [results, Tryz.results21, go_sem, z0, z1]) rfl ?_
    exact ⟨by rw [E1.out, E2.out], z2⟩
  go_wp2_with fail
  go_loop [4] (fun i => ∃ k : Nat, k ≤ n ∧ i = .int .i64 k ∧ ∀ y ∈ r.take k, y.2 ≤ 1000) (fun i => n - (intOf i).toNat)
  case atStart => exact ⟨0, Nat.zero_le _, rfl, fun y hy => by simp at hy⟩
  case round =>
    obtain ⟨k, hk, rfl, hall⟩ := hrel
    have Hall := Lib.hid hall; clear hall
    by_cases hlt : k < n
    · obtain ⟨b, off, y, rfl, hbl, hy, hy0, hy1⟩ := (h.lift hb2.bel).at_ hlt
      by_cases hbig : 1000 < y.2
      · obtain ⟨e1, e2⟩ := fE_two (c := c) (r := r) (fun h => by have := h.2.2 y (List.mem_of_getElem? hy); omega) (some ⟨b, off, none⟩) n cap
        have E1 := Lib.hid e1; have E2 := Lib.hid e2; clear e1 e2
        go_wp2_with fail
        refine bodyPost_ret (v := .tuple #[.agg #[.int .i64 0, .slice none 0 0], .int .i64 2]) (by simp [results, Tryz.results21, go_sem, z0, z1]) rfl ?_
        exact ⟨by rw [E1.out, E2.out], z2⟩
      · go_wp2_with fail
        go_round
        case rel =>
          refine ⟨k + 1, by omega, by go_num, fun z hz => ?_⟩
          rw [take_snoc hy] at hz
          rcases List.mem_append.1 hz with hz | hz
          · exact Hall.out z hz
          · obtain rfl := List.mem_singleton.1 hz; omega
        case measure => simp [intOf]; omega
    · have hfull : r.take k = r := List.take_of_length_le (by have := h.1; omega)
      rw [hfull] at Hall
      obtain ⟨e1, e2⟩ := fE_ok (c := c) (r := r) ⟨by have := hlen.out; omega, by omega, Hall.out⟩ A n cap
      have E1 := Lib.hid e1; have E2 := Lib.hid e2; clear e1 e2 hfull
      obtain ⟨z0, z1, z2⟩ := hb2.put c (.slice A n cap)
      go_wp2_with fail
      refine bodyPost_ret (v := .tuple #[.agg #[.int .i64 c, .slice A n cap], .int .i64 0]) (by simp [results, Tryz.results21, go_sem, z0, z1]) rfl ?_
      exact ⟨by rw [E1.out, E2.out], z2⟩
end Go.Proofs.YtgbbmcfhakliiaaGreatDoor
