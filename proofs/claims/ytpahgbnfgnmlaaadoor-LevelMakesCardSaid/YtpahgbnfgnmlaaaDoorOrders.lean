/-
  The walk of LevelOrders: it returns true for every two levels.
-/
import Derived.Test.YtpahgbnfgnmlaaaDoorEq
import Derived.Test.YtpahgbnfgnmlaaaDoorAwake
namespace Go.Proofs.YtpahgbnfgnmlaaaDoor
open Go Go.RowKit

theorem lrow2 {w : World} {ca cb : Int} {A B : Option Addr} {n m capA capB : Nat} {t : TypeId} : LRow (w.alloc (.cells #[.int .i64 ca, .slice A n capA, .int .i64 cb, .slice B m capB] t)) (w.alloc (.cells #[.int .i64 ca, .slice A n capA, .int .i64 cb, .slice B m capB] t)).heap.size (some ⟨w.heap.size, 0, none⟩) 2 [n, m] := by
  refine ⟨rfl, fun _ => ⟨w.heap.size, 0, rfl, by simp, fun j k hj => ?_⟩⟩
  match j, hj with
  | 0, hj => simp at hj; subst hj; exact ⟨A, capA, by simp⟩
  | 1, hj => simp at hj; subst hj; exact ⟨B, capB, by simp⟩
  | j + 2, hj => simp at hj

set_option maxRecDepth 100000 in
set_option maxHeartbeats 4000000 in
theorem orders_any (ca : Int) (A : Option Addr) (n capA : Nat) (la : List (Int × Int)) (cb : Int) (B : Option Addr) (m capB : Nat) (lb : List (Int × Int)) (w : World)
    (ha : PL w w.heap.size A n la) (hn : n ≤ capA) (hca : capA ≤ 9223372036854775807) (hb : PL w w.heap.size B m lb) (hm : m ≤ capB) (hcb : capB ≤ 9223372036854775807) (hP : Pow w) :
    Calls Tryd.prog 6 #[.agg #[.int .i64 ca, .slice A n capA], .agg #[.int .i64 cb, .slice B m capB]] w fun e w' => e = .returned (.bool true) ∧ Below w.heap.size w w' := by
  have hl := fun p : Bel (w.heap.size + 2) ((w.alloc (.cells #[.int .i64 ca, .slice A n capA] 24)).alloc (.cells #[.int .i64 cb, .slice B m capB] 24)) => (box2 p.h).1.1
  have hl2 := fun p : Bel (w.heap.size + 2) ((w.alloc (.cells #[.int .i64 ca, .slice A n capA] 24)).alloc (.cells #[.int .i64 cb, .slice B m capB] 24)) => (box2 p.h).1.2.1
  have hl3 := fun p : Bel (w.heap.size + 2) ((w.alloc (.cells #[.int .i64 ca, .slice A n capA] 24)).alloc (.cells #[.int .i64 cb, .slice B m capB] 24)) => (box2 p.h).1.2.2.1
  have hl4 := fun p : Bel (w.heap.size + 2) ((w.alloc (.cells #[.int .i64 ca, .slice A n capA] 24)).alloc (.cells #[.int .i64 cb, .slice B m capB] 24)) => (box2 p.h).1.2.2.2
  have hc1 := fun p : Bel (w.heap.size + 2) ((w.alloc (.cells #[.int .i64 ca, .slice A n capA] 24)).alloc (.cells #[.int .i64 cb, .slice B m capB] 24)) =>
    leq_any ca A n capA la cb B m capB lb p.v (ha.lift (box2 p.h).2.2) hn hca (hb.lift (box2 p.h).2.2) hm hcb
  have hc2 := fun p : Bel (w.heap.size + 2) ((w.alloc (.cells #[.int .i64 ca, .slice A n capA] 24)).alloc (.cells #[.int .i64 cb, .slice B m capB] 24)) =>
    refLeq_any ca A n capA la cb B m capB lb p.v (ha.lift (box2 p.h).2.2) hn hca (hb.lift (box2 p.h).2.2) hm hcb
  have hc3 := fun p : Bel (w.heap.size + 2) ((w.alloc (.cells #[.int .i64 ca, .slice A n capA] 24)).alloc (.cells #[.int .i64 cb, .slice B m capB] 24)) =>
    equal_any ca A n capA la cb B m capB lb p.v (ha.lift (box2 p.h).2.2) hn hca (hb.lift (box2 p.h).2.2) hm hcb
  have hc4 := fun p : Bel (w.heap.size + 2) ((w.alloc (.cells #[.int .i64 ca, .slice A n capA] 24)).alloc (.cells #[.int .i64 cb, .slice B m capB] 24)) =>
    refEqual_any ca A n capA la cb B m capB lb p.v (ha.lift (box2 p.h).2.2) hn hca (hb.lift (box2 p.h).2.2) hm hcb
  have hc5 := fun p : Bel (w.heap.size + 2) ((w.alloc (.cells #[.int .i64 ca, .slice A n capA] 24)).alloc (.cells #[.int .i64 cb, .slice B m capB] 24)) =>
    awake_any p.v (hP.below (box2 p.h).2.2 (.inl (Nat.le_refl _)))
  generalize leqv ca la cb lb = r at hc1 hc2
  generalize eqv ca la cb lb = q at hc3 hc4
  have Hc1 := Lib.hid hc1; have Hc2 := Lib.hid hc2; have Hc3 := Lib.hid hc3; have Hc4 := Lib.hid hc4; have Hc5 := Lib.hid hc5
  clear hc1 hc2 hc3 hc4 hc5
  have hw := wide_any (some ⟨w.heap.size + 2, 0, none⟩) 2 2 [n, m] (((w.alloc (.cells #[.int .i64 ca, .slice A n capA] 24)).alloc (.cells #[.int .i64 cb, .slice B m capB] 24)).alloc (.cells #[.int .i64 ca, .slice A n capA, .int .i64 cb, .slice B m capB] 24)) (by simpa using lrow2 (w := (w.alloc (.cells #[.int .i64 ca, .slice A n capA] 24)).alloc (.cells #[.int .i64 cb, .slice B m capB] 24)) (t := 24)) (by omega) (fun k hk => by simp at hk; omega)
  cases hwb : wideB [n, m]
  all_goals
    rw [hwb] at hw
    have Hw := Lib.hid hw; clear hw hwb
    go_enter Tryd.func6, Tryd.ntmps6
    go_wp2_with fail
    refine Hw.out.mono ?_
    rintro e w1 ⟨rfl, rfl⟩
    have hb1 : Below (w.heap.size + 2) ((w.alloc (.cells #[.int .i64 ca, .slice A n capA] 24)).alloc (.cells #[.int .i64 cb, .slice B m capB] 24)) (((w.alloc (.cells #[.int .i64 ca, .slice A n capA] 24)).alloc (.cells #[.int .i64 cb, .slice B m capB] 24)).alloc (.cells #[.int .i64 ca, .slice A n capA, .int .i64 cb, .slice B m capB] 24)) := (Below.refl _ _).alloc (by simp) _
    go_wp2_with fail
  · refine wp_region_bel (w.heap.size + 2) _ (by kernel_rfl) (by kernel_rfl) hb1 ?_
    repeat (go_big_quiet_step (first | (go_at_call 29; with_reducible exact Calls.bel_of (by simp) (Hc1.out _)) | (go_at_call 30; with_reducible exact Calls.bel_of (by simp) (Hc2.out _)) | (go_at_call 31; with_reducible exact Calls.bel_of (by simp) (Hc3.out _)) | (go_at_call 32; with_reducible exact Calls.bel_of (by simp) (Hc4.out _)) | (go_at_call 22; with_reducible exact Calls.bel_of (by simp) (Hc5.out _))))
    refine wpQuiet_nil ?_
    rintro _ ⟨pq, rfl⟩
    obtain ⟨_, _, hbq⟩ := box2 pq.h
    clear hl hl2 hl3 hl4
    go_wp2_with fail
    go_ret
    exact ⟨rfl, hbq⟩
  · go_ret
    exact ⟨rfl, (box2 hb1).2.2⟩
end Go.Proofs.YtpahgbnfgnmlaaaDoor
