/-
  'EqInts' of tenetref00 at equal lists, and 'awake' of tenetlaw02: the first example of the chapter.
-/
import Derived.Test.YtapajkfnpkekdaaGSolve
namespace Go.Proofs.Ytapajkfnpkekdaa
open Go Go.RowKit

set_option maxRecDepth 100000 in
set_option maxHeartbeats 4000000 in
theorem eqInts_true (A : Option Addr) (n capA : Nat) (B : Option Addr) (capB : Nat) (l : List Int) (w : World) (ha : IL w w.heap.size A n l) (hb : IL w w.heap.size B n l) (hn : n ≤ 1000000) :
    Calls Try.prog 10 #[.slice A n capA, .slice B n capB] w fun e w' => e = .returned (.bool true) ∧ Go.RowKit.Below w.heap.size w w' := by
  go_enter Try.func10, Try.ntmps10
  go_wp2_with fail
  go_loopw [5] (fun i wr => ∃ k : Nat, k ≤ n ∧ i = .int .i64 k ∧ Go.RowKit.Below w.heap.size w wr) (fun i _ => n - (intOf i).toNat)
  case atStart => exact ⟨0, Nat.zero_le _, rfl, Go.RowKit.Below.refl _ _⟩
  case round =>
    obtain ⟨k, hk, rfl, hbr⟩ := hrel
    by_cases hlt : k < n
    · obtain ⟨b, off, x, rfl, hbl, hx, hx0⟩ := (ha.below hbr).at_ hlt
      obtain ⟨b2, off2, y, rfl, hbl2, hy, hy0⟩ := (hb.below hbr).at_ hlt
      obtain rfl : x = y := Option.some.inj (hx.symm.trans hy)
      go_wp2_with fail
      go_quiet (fail)
      go_wp2_with fail
      go_roundw
      case rel => exact ⟨k + 1, by omega, by go_num, below_drewN hbr _⟩
      case measure => simp [intOf]; omega
    · go_wp2_with fail
      go_ret
      exact ⟨rfl, hbr⟩

def csW : List LCn := [((0, [(0, 1)]), (0, [(1, 0)])), ((0, [(1, 1)]), (0, [(2, 0)]))]
theorem vld_one {v p : Int} (h1 : 0 ≤ v ∧ v ≤ 1199) (h2 : 0 ≤ p ∧ p ≤ 1000) : vld 0 [(v, p)] = true :=
  vld_of ⟨by omega, by omega, by simp, okUp_succ (okUp_zero _) (x := (v, p)) rfl h1 h2 rfl⟩
theorem gvld_csW : gvld 3 csW = true := by
  have a := vld_one (v := 0) (p := 1) (by omega) (by omega)
  have b := vld_one (v := 1) (p := 0) (by omega) (by omega)
  have c := vld_one (v := 1) (p := 1) (by omega) (by omega)
  have d := vld_one (v := 2) (p := 0) (by omega) (by omega)
  simp [gvld, fitB, csW, conB, belowB, rightB, gev, a, b, c, d]
/-- the numbers that solve it are the only least ones -/
theorem awake_sol {xs : List Int} (h : Lst (fun e => e ∈ esA 3 csW) (gx xs)) : solL 3 xs = [0, 1, 2] := by
  have hm : ∀ e, e ∈ esA 3 csW ↔ e ∈ [(⟨3, 1, 0, 0⟩ : Edg), ⟨0, 1, 1, 0⟩, ⟨3, 2, 0, 1⟩, ⟨1, 2, 1, 1⟩, ⟨3, 0, 0, 2⟩, ⟨3, 1, 0, 2⟩, ⟨3, 2, 0, 2⟩] := fun e => Iff.rfl
  have h3 := h.least (fun v => if v = 1 then 1 else if v = 2 then 2 else 0) (fun e he => by
    have he := (hm e).1 he
    simp only [List.mem_cons, List.not_mem_nil, or_false] at he
    rcases he with rfl | rfl | rfl | rfl | rfl | rfl | rfl <;> simp [hol]) (fun v => by by_cases h1 : v = 1 <;> by_cases h2 : v = 2 <;> simp [h1, h2])
  have a3 := h3 3
  have a0 := h3 0
  have a1 := h3 1
  have a2 := h3 2
  simp at a3 a0 a1 a2
  have n3 := h.nn 3
  have n0 := h.nn 0
  have s1 := h.sat ⟨0, 1, 1, 0⟩ ((hm _).2 (by simp))
  have s2 := h.sat ⟨1, 2, 1, 1⟩ ((hm _).2 (by simp))
  unfold hol at s1 s2
  dsimp only at s1 s2
  have e3 : gx xs 3 = 0 := by omega
  have e0 : gx xs 0 = 0 := by omega
  have e1 : gx xs 1 = 1 := by omega
  have e2 : gx xs 2 = 2 := by omega
  simp [solL, List.range_succ, e0, e1, e2, e3]
theorem awake_sat : ∃ y, Sat (fun e => e ∈ esA 3 csW) y := by
  have hm : ∀ e, e ∈ esA 3 csW ↔ e ∈ [(⟨3, 1, 0, 0⟩ : Edg), ⟨0, 1, 1, 0⟩, ⟨3, 2, 0, 1⟩, ⟨1, 2, 1, 1⟩, ⟨3, 0, 0, 2⟩, ⟨3, 1, 0, 2⟩, ⟨3, 2, 0, 2⟩] := fun e => Iff.rfl
  refine ⟨fun v => if v = 1 then 1 else if v = 2 then 2 else 0, fun e he => ?_⟩
  have he := (hm e).1 he
  simp only [List.mem_cons, List.not_mem_nil, or_false] at he
  rcases he with rfl | rfl | rfl | rfl | rfl | rfl | rfl <;> simp [hol]
theorem awake_cl (q1 q2 q3 q4 : Nat) (w : World) (p1 : PL w w.heap.size (some ⟨q1, 0, none⟩) 1 [(0, 1)]) (p2 : PL w w.heap.size (some ⟨q2, 0, none⟩) 1 [(1, 0)]) (p3 : PL w w.heap.size (some ⟨q3, 0, none⟩) 1 [(1, 1)]) (p4 : PL w w.heap.size (some ⟨q4, 0, none⟩) 1 [(2, 0)]) (t : TypeId) :
    CL (w.alloc (.cells #[.int .i64 0, .slice (some ⟨q1, 0, none⟩) 1 1, .int .i64 0, .slice (some ⟨q2, 0, none⟩) 1 1, .int .i64 0, .slice (some ⟨q3, 0, none⟩) 1 1, .int .i64 0, .slice (some ⟨q4, 0, none⟩) 1 1] t))
      (w.alloc (.cells #[.int .i64 0, .slice (some ⟨q1, 0, none⟩) 1 1, .int .i64 0, .slice (some ⟨q2, 0, none⟩) 1 1, .int .i64 0, .slice (some ⟨q3, 0, none⟩) 1 1, .int .i64 0, .slice (some ⟨q4, 0, none⟩) 1 1] t)).heap.size (some ⟨w.heap.size, 0, none⟩) 2 csW := by
  have hb : ∀ o, Below w.heap.size w (w.alloc o) := fun o => (Below.refl _ w).alloc (Nat.le_refl _) o
  refine ⟨rfl, fun _ => ⟨w.heap.size, 0, rfl, by simp, fun j c hc => ?_⟩⟩
  match j, hc with
  | 0, hc =>
    simp [csW] at hc
    subst hc
    exact ⟨_, _, by simp, by simp; rfl, by simp, by simp; rfl, ⟨_, _, _, rfl, p1.lift (hb _), by omega, by omega⟩, ⟨_, _, _, rfl, p2.lift (hb _), by omega, by omega⟩⟩
  | 1, hc =>
    simp [csW] at hc
    subst hc
    exact ⟨_, _, by simp, by simp; rfl, by simp, by simp; rfl, ⟨_, _, _, rfl, p3.lift (hb _), by omega, by omega⟩, ⟨_, _, _, rfl, p4.lift (hb _), by omega, by omega⟩⟩
  | j + 2, hc => simp [csW] at hc

end Go.Proofs.Ytapajkfnpkekdaa
