/-
  The walk of LevelMakes, over what the reference's Max returns: it returns true for every two levels.
-/
import Derived.Test.YtpahgbnfgnmlaaaDoorRSuc
import Derived.Test.YtpahgbnfgnmlaaaDoorMax
import Derived.Test.YtpahgbnfgnmlaaaDoorForms
import Derived.Test.YtpahgbnfgnmlaaaDoorOrders
namespace Go.Proofs.YtpahgbnfgnmlaaaDoor
open Go Go.RowKit

/-- what is asked of the reference's Max -/
def RefMax : Prop := ∀ (ca : Int) (A : Option Addr) (n capA : Nat) (la : List (Int × Int)) (cb : Int) (B : Option Addr) (m capB : Nat) (lb : List (Int × Int)) (w : World),
    PL w w.heap.size A n la → n ≤ capA → capA ≤ 9223372036854775807 → PL w w.heap.size B m lb → m ≤ capB → capB ≤ 9223372036854775807 →
    Calls Tryd.prog 26 #[.agg #[.int .i64 ca, .slice A n capA], .agg #[.int .i64 cb, .slice B m capB]] w fun e w' => ∃ v, e = .returned (.tuple #[v, .int .i64 (mErr ca la cb lb)]) ∧ LvRes w.heap.size w' v (mConst ca la cb lb) (mVars ca la cb lb) ∧ Below w.heap.size w w'

theorem cVars_len (c : Int) (l : List (Int × Int)) : (cVars c l).length ≤ l.length := by
  unfold cVars
  split
  · exact canonV_len l
  · simp

set_option maxRecDepth 100000 in
set_option maxHeartbeats 8000000 in
theorem makes_any (hRM : RefMax) (ca : Int) (A : Option Addr) (n capA : Nat) (la : List (Int × Int)) (cb : Int) (B : Option Addr) (m capB : Nat) (lb : List (Int × Int)) (w : World)
    (ha : PL w w.heap.size A n la) (hn : n ≤ capA) (hca : capA ≤ 9223372036854775807) (hA : A = none → capA = 0) (hb : PL w w.heap.size B m lb) (hm : m ≤ capB) (hcb : capB ≤ 9223372036854775807) (hB : B = none → capB = 0) (hP : Pow w) :
    Calls Tryd.prog 4 #[.agg #[.int .i64 ca, .slice A n capA], .agg #[.int .i64 cb, .slice B m capB]] w fun e w' => e = .returned (.bool true) ∧ Below w.heap.size w w' := by
  have hw := wide_any (some ⟨w.heap.size + 2, 0, none⟩) 2 2 [n, m] (((w.alloc (.cells #[.int .i64 ca, .slice A n capA] 24)).alloc (.cells #[.int .i64 cb, .slice B m capB] 24)).alloc (.cells #[.int .i64 ca, .slice A n capA, .int .i64 cb, .slice B m capB] 24)) (by simpa using lrow2 (w := (w.alloc (.cells #[.int .i64 ca, .slice A n capA] 24)).alloc (.cells #[.int .i64 cb, .slice B m capB] 24)) (t := 24)) (by omega) (fun k hk => by simp at hk; omega)
  have hl0 : Below (w.heap.size + 2) ((w.alloc (.cells #[.int .i64 ca, .slice A n capA] 24)).alloc (.cells #[.int .i64 cb, .slice B m capB] 24)) (((w.alloc (.cells #[.int .i64 ca, .slice A n capA] 24)).alloc (.cells #[.int .i64 cb, .slice B m capB] 24)).alloc (.cells #[.int .i64 ca, .slice A n capA, .int .i64 cb, .slice B m capB] 24)) := (Below.refl _ _).alloc (by simp) _
  have HL0 := Lib.hid hl0; clear hl0
  cases hwb : wideB [n, m]
  case true =>
    rw [hwb] at hw
    have Hw := Lib.hid hw; clear hw hwb
    go_enter Tryd.func4, Tryd.ntmps4
    go_wp2_with fail
    refine Hw.out.mono ?_
    rintro e w1 ⟨rfl, rfl⟩
    go_wp2_with fail
    go_ret
    exact ⟨rfl, (box2 HL0.out).2.2⟩
  case false =>
  have hw40 : n ≤ 40 ∧ m ≤ 40 := by simpa [wideB] using hwb
  rw [hwb] at hw
  have Hw := Lib.hid hw; clear hw hwb
  go_enter Tryd.func4, Tryd.ntmps4
  go_wp2_with fail
  refine Hw.out.mono ?_
  rintro e w0 ⟨rfl, rfl⟩
  have hs0 := (box2 HL0.out).2.2
  go_wp2_with fail
  refine (suc_any ca A n capA la _ (ha.lift hs0) hn hca).mono ?_
  rintro e w1 ⟨v, rfl, ⟨A1, m1, k1, rfl, hP1, hm1, hk1, _⟩, hb1⟩
  have hl1 := HL0.out.trans (hb1.mono (by simp))
  obtain ⟨⟨f0, f1, f2, f3⟩, hz1, hbw1⟩ := box2 hl1
  have hlt1 : w.heap.size < w1.heap.size := by omega
  have hlt1' : w.heap.size + 1 < w1.heap.size := by omega
  have hne1 : w.heap.size ≠ w1.heap.size := by omega
  have hne1' : w.heap.size + 1 ≠ w1.heap.size := by omega
  have d1 : Below w1.heap.size w1 (w1.alloc (.cells #[.int .i64 (sConst ca la), .slice A1 m1 k1] 24)) := (Below.refl _ _).alloc (Nat.le_refl _) _
  go_wp2_with fail
  refine (refSuc_any ca A n capA la _ (ha.lift (hbw1.trans (d1.mono hbw1.size))) hn hca).mono ?_
  rintro e w2 ⟨v, rfl, ⟨A2, m2, k2, rfl, hP2, hm2, hk2, _⟩, hb2⟩
  have hl2 := (hl1.alloc hz1 (.cells #[.int .i64 (sConst ca la), .slice A1 m1 k1] 24)).trans (hb2.mono (by simp; omega))
  have x12 : Below (w1.heap.size + 1) (w1.alloc (.cells #[.int .i64 (sConst ca la), .slice A1 m1 k1] 24)) w2 := hb2.mono (by simp)
  have hs12 : w1.heap.size + 1 ≤ w2.heap.size := by simpa using x12.size
  clear f0 f1 f2 f3
  obtain ⟨⟨f0, f1, f2, f3⟩, hz2, hbw2⟩ := box2 hl2
  have hlt2 : w.heap.size < w2.heap.size := by omega
  have hlt2' : w.heap.size + 1 < w2.heap.size := by omega
  have hne2 : w.heap.size ≠ w2.heap.size := by omega
  have hne2' : w.heap.size + 1 ≠ w2.heap.size := by omega
  have d2 : Below w2.heap.size w2 (w2.alloc (.cells #[.int .i64 (sConst ca la), .slice A2 m2 k2] 24)) := (Below.refl _ _).alloc (Nat.le_refl _) _
  have hbv2 := hbw2.trans (d2.mono hbw2.size)
  go_wp2_with fail
  refine (max_any ca A n capA la cb B m capB lb _ (ha.lift hbv2) hn hca hA (hb.lift hbv2) hm hcb hB).mono ?_
  rintro e w3 ⟨v, rfl, ⟨A3, m3, k3, rfl, hP3, hm3, hk3, _⟩, hb3⟩
  have hl3 := (hl2.alloc hz2 (.cells #[.int .i64 (sConst ca la), .slice A2 m2 k2] 24)).trans (hb3.mono (by simp; omega))
  have x13 := (x12.alloc hs12 (.cells #[.int .i64 (sConst ca la), .slice A2 m2 k2] 24)).trans (hb3.mono (by simp; omega))
  have x23 : Below (w2.heap.size + 1) (w2.alloc (.cells #[.int .i64 (sConst ca la), .slice A2 m2 k2] 24)) w3 := hb3.mono (by simp)
  have hs23 : w2.heap.size + 1 ≤ w3.heap.size := by simpa using x23.size
  clear f0 f1 f2 f3
  obtain ⟨⟨f0, f1, f2, f3⟩, hz3, hbw3⟩ := box2 hl3
  have hlt3 : w.heap.size < w3.heap.size := by omega
  have hlt3' : w.heap.size + 1 < w3.heap.size := by omega
  have hne3 : w.heap.size ≠ w3.heap.size := by omega
  have hne3' : w.heap.size + 1 ≠ w3.heap.size := by omega
  have d3 : Below w3.heap.size w3 (w3.alloc (.cells #[.int .i64 (mConst ca la cb lb), .slice A3 m3 k3] 24)) := (Below.refl _ _).alloc (Nat.le_refl _) _
  have hbv3 := hbw3.trans (d3.mono hbw3.size)
  go_wp2_with fail
  refine (hRM ca A n capA la cb B m capB lb _ (ha.lift hbv3) hn hca (hb.lift hbv3) hm hcb).mono ?_
  rintro e w4 ⟨v, rfl, ⟨A4, m4, k4, rfl, hP4, hm4, hk4, _⟩, hb4⟩
  have hl4 := (hl3.alloc hz3 (.cells #[.int .i64 (mConst ca la cb lb), .slice A3 m3 k3] 24)).trans (hb4.mono (by simp; omega))
  have x14 := (x13.alloc (by omega) (.cells #[.int .i64 (mConst ca la cb lb), .slice A3 m3 k3] 24)).trans (hb4.mono (by simp; omega))
  have x24 := (x23.alloc hs23 (.cells #[.int .i64 (mConst ca la cb lb), .slice A3 m3 k3] 24)).trans (hb4.mono (by simp; omega))
  have x34 : Below (w3.heap.size + 1) (w3.alloc (.cells #[.int .i64 (mConst ca la cb lb), .slice A3 m3 k3] 24)) w4 := hb4.mono (by simp)
  have hs34 : w3.heap.size + 1 ≤ w4.heap.size := by simpa using x34.size
  clear f0 f1 f2 f3
  go_upto_region 7 with fail
  have hz4 := (box2 hl4).2.1
  have hLw := (box2 (hl4.alloc hz4 (.cells #[.int .i64 (mConst ca la cb lb), .slice A4 m4 k4] 24))).2.2
  have y1 := box1 (x14.alloc (by omega) (.cells #[.int .i64 (mConst ca la cb lb), .slice A4 m4 k4] 24))
  have y2 := box1 (x24.alloc (by omega) (.cells #[.int .i64 (mConst ca la cb lb), .slice A4 m4 k4] 24))
  have y3 := box1 (x34.alloc hs34 (.cells #[.int .i64 (mConst ca la cb lb), .slice A4 m4 k4] 24))
  have y4 := box1 (Below.refl (w4.heap.size + 1) (w4.alloc (.cells #[.int .i64 (mConst ca la cb lb), .slice A4 m4 k4] 24)))
  have hlt : w3.heap.size < (w4.alloc (.cells #[.int .i64 (mConst ca la cb lb), .slice A4 m4 k4] 24)).heap.size ∧ w4.heap.size < (w4.alloc (.cells #[.int .i64 (mConst ca la cb lb), .slice A4 m4 k4] 24)).heap.size := by simp; omega
  generalize w4.alloc (.cells #[.int .i64 (mConst ca la cb lb), .slice A4 m4 k4] 24) = W at *
  obtain ⟨p0, p1, pb⟩ := y1
  obtain ⟨q0, q1, qb⟩ := y2
  obtain ⟨r0, r1, rb⟩ := y3
  obtain ⟨s0, s1, sb⟩ := y4
  have g1 := hP1.lift pb
  have g2 := hP2.lift qb
  have g3 := hP3.lift rb
  have g4 := hP4.lift sb
  have hPW : Pow W := hP.below hLw (.inl (Nat.le_refl _))
  obtain rfl : m1 = m2 := g1.1.symm.trans g2.1
  obtain rfl : m3 = m4 := g3.1.symm.trans g4.1
  have hlen1 : m1 ≤ 1000000 := by
    have e1 := g1.1
    have e2 : (sVars ca la).length ≤ la.length := by
      unfold sVars
      split
      · have := cVars_len (ca + 1) (rl 1 la); rw [rl_len] at this; exact this
      · simp
    have := ha.1
    omega
  have hlen3 : m3 ≤ 1000000 := by
    have e1 := g3.1
    have e2 : (mVars ca la cb lb).length ≤ la.length + lb.length := by
      unfold mVars
      split
      · have := cVars_len (max ca cb) (la ++ lb); rw [List.length_append] at this; exact this
      · simp
    have := ha.1
    have := hb.1
    omega
  have hsame1 := same_true (sConst ca la) A1 m1 k1 A2 k2 (sVars ca la) (sErr ca la) W g1 g2 hlen1
  have hsame2 := fun X (hX : Below W.heap.size W X) => same_true (mConst ca la cb lb) A3 m3 k3 A4 k4 (mVars ca la cb lb) (mErr ca la cb lb) X (g3.lift hX) (g4.lift hX) hlen3
  have Hs1 := Lib.hid hsame1; have Hs2 := Lib.hid hsame2
  clear hsame1 hsame2 hP1 hP2 hP3 hP4 hb1 hb2 hb3 hb4 hl1 hl2 hl3 hl4 x12 x13 x14 x23 x24 x34 g1 g2 g3 g4 d1 d2 d3 hbv2 hbv3 hbw1 hbw2 hbw3 hlen1 hlen3 ha hb Hw HL0 pb qb rb sb hm1 hm2 hm3 hm4 hk1 hk2 hk3 hk4
  generalize sConst ca la = a1 at *
  generalize sErr ca la = a2 at *
  generalize mConst ca la cb lb = a3 at *
  generalize mErr ca la cb lb = a4 at *
  go_wp2_with fail
  refine Hs1.out.mono ?_
  rintro e w5 ⟨rfl, hb5⟩
  have t0 := (hb5.cell (p := ⟨w3.heap.size, 0, none⟩) hlt.1).trans r0
  have t1 := (hb5.cell (p := ⟨w3.heap.size, 1, none⟩) hlt.1).trans r1
  have t2 := (hb5.cell (p := ⟨w4.heap.size, 0, none⟩) hlt.2).trans s0
  have t3 := (hb5.cell (p := ⟨w4.heap.size, 1, none⟩) hlt.2).trans s1
  clear p0 p1 q0 q1 r0 r1 s0 s1 hlt
  go_wp2_with fail
  refine (Hs2.out _ hb5).mono ?_
  rintro e w6 ⟨rfl, hb6⟩
  have hb56 := hb5.trans (hb6.mono hb5.size)
  clear t0 t1 t2 t3
  go_wp2_with fail
  refine (awake_any _ (hPW.below hb56 (.inl (Nat.le_refl _)))).mono ?_
  rintro e w7 ⟨rfl, hb7⟩
  go_wp2_with fail
  go_ret
  exact ⟨rfl, hLw.trans ((hb56.trans (hb7.mono hb56.size)).mono hLw.size)⟩
end Go.Proofs.YtpahgbnfgnmlaaaDoor
