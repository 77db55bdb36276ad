/-
  The walk of LevelSubst: it returns true for every level and every list of levels.
-/
import Derived.Test.YtpahgbnfgnmlaaaDoorSubst
import Derived.Test.YtpahgbnfgnmlaaaDoorRSubst
import Derived.Test.YtpahgbnfgnmlaaaDoorForms
import Derived.Test.YtpahgbnfgnmlaaaDoorOrders
namespace Go.Proofs.YtpahgbnfgnmlaaaDoor
open Go Go.RowKit

theorem LvL.row {w : World} {B n : Nat} {A : Option Addr} {ls : List (Int × List (Int × Int))} (h : LvL w B A n ls) : LRow w B A n (ls.map fun x => x.2.length) := by
  refine ⟨by simpa using h.1, fun hn => ?_⟩
  obtain ⟨b, off, e, hb, hc⟩ := h.2 hn
  refine ⟨b, off, e, hb, fun j k hk => ?_⟩
  rw [List.getElem?_map] at hk
  cases hx : ls[j]? with
  | none => rw [hx] at hk; cases hk
  | some x =>
    rw [hx] at hk
    obtain ⟨_, A', m, cap, h2, h3, _⟩ := hc j x hx
    have e : x.2.length = k := by simpa using hk
    have e2 := h3.1
    have : m = k := by omega
    subst this
    exact ⟨A', cap, h2⟩
theorem uVars_len (c : Int) (l : List (Int × Int)) (b : List (Int × List (Int × Int))) : (uVars c l b).length ≤ 8 := by
  unfold uVars
  split
  · by_cases h : cErr (sC b c l) (sL b l) = 0
    · obtain ⟨h1, _, _, _, h5⟩ := cErr_zero h
      rw [h5]; exact h1
    · rw [cVars, if_neg h]; simp
  · simp

set_option maxRecDepth 100000 in
set_option maxHeartbeats 8000000 in
theorem substLaw_any (c : Int) (A : Option Addr) (n cap : Nat) (l : List (Int × Int)) (D : Option Addr) (p capD : Nat) (ls : List (Int × List (Int × Int))) (w : World)
    (ha : PL w w.heap.size A n l) (hn : n ≤ cap) (hm : cap ≤ 9223372036854775807) (hD : LvL w w.heap.size D p ls) (hp : p ≤ 9223372036854775807) (hP : Pow w) :
    Calls Tryd.prog 5 #[.agg #[.int .i64 c, .slice A n cap], .slice D p capD] w fun e w' => e = .returned (.bool true) ∧ Below w.heap.size w w' := by
  have hb0 : Below (w.heap.size + 1) (w.alloc (.cells #[.int .i64 c, .slice A n cap] 24)) (w.alloc (.cells #[.int .i64 c, .slice A n cap] 24)) := Below.refl _ _
  have hl0 : Below (w.heap.size + 1) (w.alloc (.cells #[.int .i64 c, .slice A n cap] 24)) ((w.alloc (.cells #[.int .i64 c, .slice A n cap] 24)).alloc (.cells #[.int .i64 c, .slice A n cap] 24)) := hb0.alloc (by simp) _
  have hs0 := back0 hl0
  have hw := wide_any (some ⟨w.heap.size + 1, 0, none⟩) 1 1 [n] ((w.alloc (.cells #[.int .i64 c, .slice A n cap] 24)).alloc (.cells #[.int .i64 c, .slice A n cap] 24)) (by simpa using lrow1 (w := w.alloc (.cells #[.int .i64 c, .slice A n cap] 24)) (t := 24)) (by omega) (fun k hk => by simp at hk; omega)
  have hw2 := wide_any D p capD (ls.map fun x => x.2.length) ((w.alloc (.cells #[.int .i64 c, .slice A n cap] 24)).alloc (.cells #[.int .i64 c, .slice A n cap] 24)) (hD.lift hs0).row hp (fun k hk => by
    obtain ⟨x, hx, rfl⟩ := List.mem_map.1 hk
    obtain ⟨j, hj⟩ := List.mem_iff_getElem?.1 hx
    have hjp : j < p := by have := (List.getElem?_eq_some_iff.1 hj).1; have := hD.1; omega
    obtain ⟨b, off, y, A', m, c', _, _, hy, _, _, h3, h4, h5, _⟩ := hD.at_ hjp
    obtain rfl : x = y := Option.some.inj (hj.symm.trans hy)
    have := h3.1
    omega)
  have HL0 := Lib.hid hl0; clear hl0
  cases hwb : wideB [n]
  case true =>
    rw [hwb] at hw
    have Hw := Lib.hid hw; clear hw hwb hw2
    go_enter Tryd.func5, Tryd.ntmps5
    go_wp2_with fail
    refine Hw.out.mono ?_
    rintro e w1 ⟨rfl, rfl⟩
    go_wp2_with fail
    go_ret
    exact ⟨rfl, back0 HL0.out⟩
  case false =>
  rw [hwb] at hw
  have Hw := Lib.hid hw; clear hw hwb
  cases hwb2 : wideB (ls.map fun x => x.2.length)
  case true =>
    rw [hwb2] at hw2
    have Hw2 := Lib.hid hw2; clear hw2 hwb2
    go_enter Tryd.func5, Tryd.ntmps5
    go_wp2_with fail
    refine Hw.out.mono ?_
    rintro e w1 ⟨rfl, rfl⟩
    go_wp2_with fail
    refine Hw2.out.mono ?_
    rintro e w1 ⟨rfl, rfl⟩
    go_wp2_with fail
    go_ret
    exact ⟨rfl, back0 HL0.out⟩
  case false =>
  have hp40 : p ≤ 40 := by
    have h1 := hwb2
    simp [wideB] at h1
    have := hD.1
    omega
  rw [hwb2] at hw2
  have Hw2 := Lib.hid hw2; clear hw2 hwb2
  have hsu := fun X (hX : Below w.heap.size w X) => subst_any c A n cap l D p capD ls X (ha.lift hX) hn hm (hD.lift hX) (by omega)
  have hrs := fun X (hX : Below w.heap.size w X) => refSubst_any c A n cap l D p capD ls X (ha.lift hX) hn hm (hD.lift hX) (by omega)
  have hul := uVars_len c l ls
  generalize uErr c l ls = ue at *
  generalize uConst c l ls = uc at *
  generalize uVars c l ls = uv at *
  have Hsu := Lib.hid hsu; have Hrs := Lib.hid hrs
  clear hsu hrs ha hD
  go_enter Tryd.func5, Tryd.ntmps5
  go_wp2_with fail
  refine Hw.out.mono ?_
  rintro e w0 ⟨rfl, rfl⟩
  go_wp2_with fail
  refine Hw2.out.mono ?_
  rintro e w0 ⟨rfl, rfl⟩
  go_wp2_with fail
  refine (Hsu.out _ (back0 HL0.out)).mono ?_
  rintro e w1 ⟨v, rfl, ⟨A1, m1, k1, rfl, hP1, hm1, hk1, _⟩, hb1⟩
  have hl1 := HL0.out.trans (hb1.mono (by simp))
  obtain ⟨f0, f1, hbw1⟩ := box1 hl1
  have hs1 : w.heap.size + 1 ≤ w1.heap.size := by simpa using hl1.size
  have hlt1 : w.heap.size < w1.heap.size := by omega
  have hne1 : w.heap.size ≠ w1.heap.size := by omega
  have d1 : Below w1.heap.size w1 (w1.alloc (.cells #[.int .i64 uc, .slice A1 m1 k1] 24)) := (Below.refl _ _).alloc (Nat.le_refl _) _
  go_wp2_with fail
  refine (Hrs.out _ (hbw1.trans (d1.mono hbw1.size))).mono ?_
  rintro e w2 ⟨v, rfl, ⟨A2, m2, k2, rfl, hP2, hm2, hk2, _⟩, hb2⟩
  have x12 : Below (w1.heap.size + 1) (w1.alloc (.cells #[.int .i64 uc, .slice A1 m1 k1] 24)) w2 := hb2.mono (by simp)
  have hs12 : w1.heap.size + 1 ≤ w2.heap.size := by simpa using x12.size
  clear f0 f1
  obtain ⟨g0, g1, gb⟩ := box1 (x12.alloc hs12 (.cells #[.int .i64 uc, .slice A2 m2 k2] 24))
  obtain ⟨k0, k1', kb⟩ := box1 (Below.refl (w2.heap.size + 1) (w2.alloc (.cells #[.int .i64 uc, .slice A2 m2 k2] 24)))
  have hbw := hbw1.trans (gb.mono hbw1.size)
  have p1 := hP1.lift gb
  have p2 := hP2.lift kb
  obtain rfl : m1 = m2 := p1.1.symm.trans p2.1
  have hsame := Lib.hid (same_true uc A1 m1 k1 A2 k2 uv ue (w2.alloc (.cells #[.int .i64 uc, .slice A2 m1 k2] 24)) p1 p2 (by have := p1.1; omega))
  go_upto_region 5 with fail
  generalize w2.alloc (.cells #[.int .i64 uc, .slice A2 m1 k2] 24) = W at *
  go_wp2_with fail
  refine hsame.out.mono ?_
  rintro e w3 ⟨rfl, hb3⟩
  have hbw3 := hbw.trans (hb3.mono hbw.size)
  go_wp2_with fail
  refine (awake_any _ (hP.below hbw3 (.inl (Nat.le_refl _)))).mono ?_
  rintro e w4 ⟨rfl, hb4⟩
  go_wp2_with fail
  go_ret
  exact ⟨rfl, hbw3.trans (hb4.mono hbw3.size)⟩
end Go.Proofs.YtpahgbnfgnmlaaaDoor
