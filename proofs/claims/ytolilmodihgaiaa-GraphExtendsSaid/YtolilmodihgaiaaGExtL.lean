/-
  The law GraphExtends.
-/
import Derived.Test.YtolilmodihgaiaaGRExt
import Derived.Test.YtolilmodihgaiaaGFolL
namespace Go.Proofs.Ytolilmodihgaiaa
open Go Go.RowKit

theorem boxF {w wx : World} {x y : Value} {t : TypeId} (h : Below (w.heap.size + 1) (w.alloc (.cells #[x, y] t)) wx) :
    wx.cell? ⟨w.heap.size, 0, none⟩ = some x ∧ wx.cell? ⟨w.heap.size, 1, none⟩ = some y ∧ Below w.heap.size w wx ∧ w.heap.size + 1 ≤ wx.heap.size := by
  have hs := h.size
  simp at hs
  exact ⟨(h.cell (p := ⟨w.heap.size, 0, none⟩) (by simp)).trans (by simp), (h.cell (p := ⟨w.heap.size, 1, none⟩) (by simp)).trans (by simp), back0 h, hs⟩

set_option maxRecDepth 100000 in
set_option maxHeartbeats 8000000 in
theorem lawExtends_any (v : Int) (A : Option Addr) (K capA : Nat) (cs : List LCn) (C : Option Addr) (m capC : Nat) (sol : List Int) (B : Option Addr) (M capB : Nat) (ds : List LCn) (w : World)
    (h : CL w w.heap.size A K cs) (hc : IL w w.heap.size C m sol) (g : CL w w.heap.size B M ds) (hK : K ≤ 9223372036854775807) (hM : M ≤ 9223372036854775807) (hA : A = none → capA = 0) (hB : B = none → capB = 0) :
    Calls Try.prog 12 #[.int .i64 v, .slice A K capA, .agg #[.slice C m capC, .slice B M capB]] w fun e w' => e = .returned (.bool true) ∧ Below w.heap.size w w' := by
  have hX : Below (w.heap.size + 1) (w.alloc (.cells #[.slice C m capC, .slice B M capB] 60)) (w.alloc (.cells #[.slice C m capC, .slice B M capB] 60)) := Below.refl _ _
  obtain ⟨g0, g1, hX0, _⟩ := boxF hX
  have HB : Hid (∀ wx, Below (w.heap.size + 1) (w.alloc (.cells #[.slice C m capC, .slice B M capB] 60)) wx → wx.cell? ⟨w.heap.size, 0, none⟩ = some (.slice C m capC) ∧ wx.cell? ⟨w.heap.size, 1, none⟩ = some (.slice B M capB) ∧ Below w.heap.size w wx ∧ w.heap.size + 1 ≤ wx.heap.size) := fun wx hwx => boxF hwx
  have h1 := heavy_any v 120 A K capA cs _ (h.lift hX0) hK
  have h2 := heavy_any v 120 B M capB ds _ (g.lift hX0) hM
  cases hb1 : heavyB v 120 cs
  case true =>
    rw [hb1] at h1
    have H1 := Lib.hid h1
    clear h1 h2
    go_enter Try.func12, Try.ntmps12
    go_wp2_with fail
    refine H1.out.mono ?_
    rintro e w1 ⟨rfl, rfl⟩
    go_wp2_with fail
    refine (awake_any _).mono ?_
    rintro e w2 ⟨rfl, hb2⟩
    go_wp2_with fail
    go_ret
    exact ⟨rfl, hX0.trans (hb2.mono hX0.size)⟩
  case false =>
    rw [hb1] at h1
    have H1 := Lib.hid h1
    clear h1
    cases hb2 : heavyB v 120 ds
    case true =>
      rw [hb2] at h2
      have H2 := Lib.hid h2
      clear h2
      go_enter Try.func12, Try.ntmps12
      go_wp2_with fail
      refine H1.out.mono ?_
      rintro e w1 ⟨rfl, rfl⟩
      go_wp2_with fail
      refine H2.out.mono ?_
      rintro e w1 ⟨rfl, rfl⟩
      go_wp2_with fail
      refine (awake_any _).mono ?_
      rintro e w2 ⟨rfl, hb2⟩
      go_wp2_with fail
      go_ret
      exact ⟨rfl, hX0.trans (hb2.mono hX0.size)⟩
    case false =>
      rw [hb2] at h2
      have H2 := Lib.hid h2
      have l1 := heavyB_len hb1
      have l2 := heavyB_len hb2
      have l3 := h.1
      have l4 := g.1
      have hK2 : K ≤ 120 := by omega
      have hM2 : M ≤ 120 := by omega
      clear h2 l1 l2 l3 l4 hb1 hb2
      by_cases hm : 1000 < m
      · have hmi : (1000 : Int) < (m : Int) := by omega
        go_enter Try.func12, Try.ntmps12
        go_wp2_with fail
        refine H1.out.mono ?_
        rintro e w1 ⟨rfl, rfl⟩
        go_wp2_with fail
        refine H2.out.mono ?_
        rintro e w1 ⟨rfl, rfl⟩
        go_wp2_with fail
        refine (awake_any _).mono ?_
        rintro e w2 ⟨rfl, hb2⟩
        go_wp2_with fail
        go_ret
        exact ⟨rfl, hX0.trans (hb2.mono hX0.size)⟩
      · have hmi : ¬ (1000 : Int) < (m : Int) := by omega
        have hE := Lib.hid (extend_any v A K capA cs C m capC sol B M capB ds _ (h.lift hX0) (hc.lift hX0) (g.lift hX0) (by omega) (by omega) hA hB)
        go_enter Try.func12, Try.ntmps12
        go_wp2_with fail
        refine H1.out.mono ?_
        rintro e w1 ⟨rfl, rfl⟩
        go_wp2_with fail
        refine H2.out.mono ?_
        rintro e w1 ⟨rfl, rfl⟩
        go_wp2_with fail
        refine hE.out.mono ?_
        intro e w2 hp
        have hz2 : Below (w.heap.size + 1) (w.alloc (.cells #[.slice C m capC, .slice B M capB] 60)) w2 := hp.1.mono (by simp)
        obtain ⟨x0, x1, hbw2, _⟩ := HB.out w2 hz2
        have hR := Lib.hid ((rextend_any v A K capA cs C m capC sol B M capB ds w2 (h.lift hbw2) (hc.lift hbw2) (g.lift hbw2) (by omega) (by omega) hA hB).mono fun d w' hd => And.intro hd.1 (hp.same hd))
        obtain ⟨A1, n1, c1, er, rfl⟩ := hp.shape
        clear hp
        go_wp2_with fail
        refine hR.out.mono ?_
        rintro d w3 ⟨hb3, A', n', cA, B', cB, er', l, e1, rfl, hIA, hIB, hn'⟩
        have e1 := e1
        simp only [Ending.returned.injEq, Value.tuple.injEq, Array.mk.injEq, List.cons.injEq, Value.slice.injEq, Value.int.injEq, true_and, and_true] at e1
        obtain ⟨⟨rfl, rfl, rfl⟩, rfl⟩ := e1
        have hbw3 := hbw2.trans (hb3.mono hbw2.size)
        have HQ := Lib.hid (eqInts_true A1 n1 c1 B' cB l w3 hIA hIB hn')
        clear hIA hIB hR
        go_wp2_with fail
        refine HQ.out.mono ?_
        rintro e w4 ⟨rfl, hb4⟩
        have hbw4 := hbw3.trans (hb4.mono hbw3.size)
        go_wp2_with fail
        refine (awake_any _).mono ?_
        rintro e w5 ⟨rfl, hb5⟩
        go_wp2_with fail
        go_ret
        exact ⟨rfl, hbw4.trans (hb5.mono hbw4.size)⟩
end Go.Proofs.Ytolilmodihgaiaa
