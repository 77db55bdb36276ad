/-
  The walk of LevelEvals: it returns true for every level and every list of numbers.
-/
import Derived.Test.YtpahgbnfgnmlaaaDoorREval
import Derived.Test.YtpahgbnfgnmlaaaDoorEq
import Derived.Test.YtpahgbnfgnmlaaaDoorAwake
namespace Go.Proofs.YtpahgbnfgnmlaaaDoor
open Go Go.RowKit

theorem lrow1 {w : World} {ca : Int} {A : Option Addr} {n capA : Nat} {t : TypeId} : LRow (w.alloc (.cells #[.int .i64 ca, .slice A n capA] t)) (w.alloc (.cells #[.int .i64 ca, .slice A n capA] t)).heap.size (some ⟨w.heap.size, 0, none⟩) 1 [n] := by
  refine ⟨rfl, fun _ => ⟨w.heap.size, 0, rfl, by simp, fun j k hj => ?_⟩⟩
  match j, hj with
  | 0, hj => simp at hj; subst hj; exact ⟨A, capA, by simp⟩
  | j + 1, hj => simp at hj

set_option maxRecDepth 100000 in
set_option maxHeartbeats 4000000 in
theorem evals_any (c : Int) (A : Option Addr) (n cap : Nat) (l : List (Int × Int)) (V : Option Addr) (m capV : Nat) (vals : List Int) (w : World)
    (h : PL w w.heap.size A n l) (hn : n ≤ cap) (hm : cap ≤ 9223372036854775807) (hv : IL w w.heap.size V m vals) (hmv : m ≤ 9223372036854775807) (hP : Pow w) :
    Calls Tryd.prog 7 #[.agg #[.int .i64 c, .slice A n cap], .slice V m capV] w fun e w' => e = .returned (.bool true) ∧ Below w.heap.size w w' := by
  have hc1 := fun W (hW : Below w.heap.size w W) => eval_any c A n cap l V m capV vals W (h.lift hW) hn hm (hv.lift hW) hmv
  have hc2 := fun W (hW : Below w.heap.size w W) => refEval_any c A n cap l V m capV vals W (h.lift hW) hn hm (hv.lift hW) hmv
  generalize evV c vals l = r at hc1 hc2
  generalize evE c vals l = q at hc1 hc2
  have Hc1 := Lib.hid hc1; have Hc2 := Lib.hid hc2
  clear hc1 hc2
  have hw := wide_any (some ⟨w.heap.size + 1, 0, none⟩) 1 1 [n] ((w.alloc (.cells #[.int .i64 c, .slice A n cap] 24)).alloc (.cells #[.int .i64 c, .slice A n cap] 24)) (by simpa using lrow1 (w := w.alloc (.cells #[.int .i64 c, .slice A n cap] 24)) (t := 24)) (by omega) (fun k hk => by simp at hk; omega)
  have hb1 : Below (w.heap.size + 1) (w.alloc (.cells #[.int .i64 c, .slice A n cap] 24)) ((w.alloc (.cells #[.int .i64 c, .slice A n cap] 24)).alloc (.cells #[.int .i64 c, .slice A n cap] 24)) := (Below.refl _ _).alloc (by simp) _
  have Hb1 := Lib.hid hb1; clear hb1
  cases hwb : wideB [n]
  case true =>
    rw [hwb] at hw
    have Hw := Lib.hid hw; clear hw hwb
    go_enter Tryd.func7, Tryd.ntmps7
    go_wp2_with fail
    refine Hw.out.mono ?_
    rintro e w1 ⟨rfl, rfl⟩
    go_wp2_with fail
    go_ret
    exact ⟨rfl, back0 Hb1.out⟩
  case false =>
  rw [hwb] at hw
  have Hw := Lib.hid hw; clear hw hwb
  by_cases hlong : 2000 < m
  · go_enter Tryd.func7, Tryd.ntmps7
    go_wp2_with fail
    refine Hw.out.mono ?_
    rintro e w1 ⟨rfl, rfl⟩
    go_wp2_with fail
    go_ret
    exact ⟨rfl, back0 Hb1.out⟩
  · go_enter Tryd.func7, Tryd.ntmps7
    go_wp2_with fail
    refine Hw.out.mono ?_
    rintro e w1 ⟨rfl, rfl⟩
    go_wp2_with fail
    refine (Hc1.out _ (back0 Hb1.out)).mono ?_
    rintro e w2 ⟨rfl, hb2⟩
    have hbb : Below (w.heap.size + 1) (w.alloc (.cells #[.int .i64 c, .slice A n cap] 24)) w2 := Hb1.out.trans (hb2.mono (by simp))
    have g0 : w2.cell? ⟨w.heap.size, 0, none⟩ = some (.int .i64 c) := (hbb.cell (p := ⟨w.heap.size, 0, none⟩) (by simp)).trans (by simp)
    have g1 : w2.cell? ⟨w.heap.size, 1, none⟩ = some (.slice A n cap) := (hbb.cell (p := ⟨w.heap.size, 1, none⟩) (by simp)).trans (by simp)
    go_wp2_with fail
    refine (Hc2.out _ (back0 hbb)).mono ?_
    rintro e w3 ⟨rfl, hb3⟩
    have hb3' : Below w.heap.size w w3 := (back0 hbb).trans (hb3.mono (back0 hbb).size)
    clear g0 g1
    go_wp2_with fail
    refine (awake_any _ (hP.below hb3' (.inl (Nat.le_refl _)))).mono ?_
    rintro e w4 ⟨rfl, hb4⟩
    go_wp2_with fail
    go_ret
    exact ⟨rfl, hb3'.trans (hb4.mono hb3'.size)⟩
end Go.Proofs.YtpahgbnfgnmlaaaDoor
