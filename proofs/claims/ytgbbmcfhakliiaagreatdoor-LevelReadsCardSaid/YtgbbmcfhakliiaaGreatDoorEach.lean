/-
  'eachPart' and 'whole': the texts of a canonical level's parts, told one by one to a text; and the text.
-/
import Derived.Test.YtgbbmcfhakliiaaGreatDoorAdd
namespace Go.Proofs.YtgbbmcfhakliiaaGreatDoor
open Go Go.RowKit Go.Shelf

/-- the text of one part -/
def partB (x : Int × Int) : List UInt8 := [117] ++ Lib.itoa x.1 ++ (if x.2 = 0 then [] else [43] ++ Lib.itoa x.2)
def bs (l : List UInt8) : ByteArray := ⟨l.toArray⟩
/-- the texts of all parts -/
def partsB (c : Int) (l : List (Int × Int)) : List (List UInt8) := l.map partB ++ (if c = 0 ∧ l ≠ [] then [] else [Lib.itoa c])
/-- the parts' numbers are small enough for Itoa -/
def Small (l : List (Int × Int)) : Prop := ∀ x ∈ l, (0 ≤ x.1 ∧ x.1 ≤ 1000000) ∧ 0 ≤ x.2 ∧ x.2 ≤ 1000000

theorem bs_app (a b : List UInt8) : (⟨a.toArray⟩ ++ ⟨b.toArray⟩ : ByteArray) = bs (a ++ b) := by
  apply ByteArray.ext
  simp [bs]
theorem str0 {x : Int × Int} (h : x.2 = 0) : (⟨#[117]⟩ ++ ⟨(Lib.itoa x.1).toArray⟩ : ByteArray) = bs (partB x) := by
  rw [partB, if_pos h, List.append_nil]; exact bs_app [117] _
theorem str1 {x : Int × Int} (h : ¬ x.2 = 0) : ((⟨#[117]⟩ ++ ⟨(Lib.itoa x.1).toArray⟩ : ByteArray) ++ (⟨#[43]⟩ ++ ⟨(Lib.itoa x.2).toArray⟩ : ByteArray)) = bs (partB x) := by
  rw [partB, if_neg h, show (⟨#[117]⟩ ++ ⟨(Lib.itoa x.1).toArray⟩ : ByteArray) = bs ([117] ++ Lib.itoa x.1) from bs_app [117] _, show (⟨#[43]⟩ ++ ⟨(Lib.itoa x.2).toArray⟩ : ByteArray) = bs ([43] ++ Lib.itoa x.2) from bs_app [43] _]
  exact bs_app _ _
theorem Txt.below {w w' : World} {B T : Nat} {ss : List ByteArray} (h : Txt w B T ss) (hb : Below w.heap.size w w') : Txt w' B T ss := by
  obtain ⟨v, h1, h2, h3⟩ := h
  have hT : T < w.heap.size := World.block_lt_of_cell? w _ h1
  exact ⟨v, (hb.cell (p := ⟨T, 0, none⟩) hT).trans h1, (hb.frozen (p := ⟨T, 0, none⟩) hT).trans h2, own_below h3 hb⟩
theorem BB.then {B T : Nat} {a w w' : World} (h : BB B T a w) (hb : Below w.heap.size w w') (hB : B ≤ w.heap.size) : BB B T a w' := h.trans (BB.of (hb.mono hB))

set_option maxRecDepth 100000 in
set_option maxHeartbeats 4000000 in
theorem eachPart_any (c : Int) (A : Option Addr) (n cap : Nat) (l : List (Int × Int)) (T : Nat) (w : World) (h : PL w w.heap.size A n l) (hn : n ≤ 100) (hT0 : w.cell? ⟨T, 0, none⟩ = some (.slice none 0 0)) (hT1 : w.frozen? ⟨T, 0, none⟩ = false) (hTl : T < w.heap.size) (hs : Small l) (hc0 : 0 ≤ c) (hc1 : c ≤ 1000000)
    (hA : 0 < n → ∀ b off, A = some ⟨b, off, none⟩ → b ≠ T) (hP : Pow w) (hG : 0 < T) :
    Calls Tryz.prog 14 #[.agg #[.int .i64 c, .slice A n cap], .func (.func 15) #[.pointer (some ⟨T, 0, none⟩)] #[]] w fun e w' => e = .returned (.tuple #[]) ∧ Txt w' (w.heap.size + 1) T ((partsB c l).map bs) ∧ BB w.heap.size T w w' := by
  have hT : Txt (w.alloc (.cells #[.int .i64 c, .slice A n cap] 24)) (w.heap.size + 1) T [] := ⟨_, cell_alloc _ hT0, (World.frozen?_of_block (Below.heap_alloc w _ T hTl)).trans hT1, World.ownsRow_nil _ _ _ _⟩
  clear hT0 hT1
  go_enter Tryz.func14, Tryz.ntmps14
  go_wp2_with fail
  go_loopw [10] (fun i wr => ∃ k : Nat, k ≤ n ∧ i = .int .i64 k ∧ Txt wr (w.heap.size + 1) T ((l.take k).map fun x => bs (partB x)) ∧ BB (w.heap.size + 1) T (w.alloc (.cells #[.int .i64 c, .slice A n cap] 24)) wr) (fun i _ => n - (intOf i).toNat)
  case atStart => exact ⟨0, Nat.zero_le _, rfl, hT, BB.of (Below.refl _ _)⟩
  case round =>
    obtain ⟨k, hk, rfl, htx, hbr⟩ := hrel
    have hsz : w.heap.size + 1 ≤ wr.heap.size := by simpa using hbr.size
    by_cases hlt : k < n
    · have hPr : Pow wr := hP.below (((Below.refl _ _).alloc (Nat.le_of_lt hTl) _).trans (hbr.below (by omega))) (.inr hG)
      have h' : PL wr w.heap.size A n l := by
        refine ⟨h.1, fun h0 => ?_⟩
        obtain ⟨b, off, e, hb, hcl⟩ := h.2 h0
        refine ⟨b, off, e, hb, fun j x hx => ?_⟩
        have hbT := hA h0 b off e
        have q := hcl j x hx
        exact ⟨(hbr.cell (p := ⟨b, off + j * 2, none⟩) (show b < _ by omega) hbT).trans (cell_alloc _ q.1), (hbr.cell (p := ⟨b, off + j * 2 + 1, none⟩) (show b < _ by omega) hbT).trans (cell_alloc _ q.2)⟩
      obtain ⟨b, off, x, rfl, hbl, hx, hx0, hx1⟩ := h'.at_ hlt
      obtain ⟨⟨s1, s2⟩, s3, s4⟩ := hs x (List.mem_of_getElem? hx)
      have hbx : Below wr.heap.size wr (wr.alloc (.cells #[.int .i64 x.1, .int .i64 x.2] 45)) := (Below.refl _ _).alloc (Nat.le_refl _) _
      have hPx := hPr.below hbx (.inl (Nat.le_refl _))
      have hi1 := itoa_any x.1 _ hPx s1 (by omega)
      have hl1 := Lib.itoa_length_le x.1 (by omega) (by omega)
      generalize ht1 : Lib.itoa x.1 = t1 at hi1 hl1
      have Ht1 := Lib.hid ht1; clear ht1
      by_cases hz : x.2 = 0
      · have hq1 : (x.2 == 0) = true := by simp [hz]
        have hq2 : (x.2 != 0) = false := by simp [hz]
        have Hz := Lib.hid hz; clear hz
        go_wp2_with fail
        refine hi1.mono ?_
        rintro e w3 ⟨rfl, hb3⟩
        have y0 : w3.cell? ⟨wr.heap.size, 0, none⟩ = some (.int .i64 x.1) := (hb3.cell (p := ⟨wr.heap.size, 0, none⟩) (by simp)).trans (by simp)
        have y1 : w3.cell? ⟨wr.heap.size, 1, none⟩ = some (.int .i64 x.2) := (hb3.cell (p := ⟨wr.heap.size, 1, none⟩) (by simp)).trans (by simp)
        go_wp2_with fail
        rw [show (⟨#[117]⟩ ++ ⟨t1.toArray⟩ : ByteArray) = bs (partB x) from by rw [← Ht1.out]; exact str0 Hz.out]
        have hb13 := hbx.trans (hb3.mono hbx.size)
        refine (add_any (w.heap.size + 1) T _ (bs (partB x)) w3 (htx.below hb13) (by omega) (Nat.le_trans hsz hb13.size) (by simp; omega)).mono ?_
        rintro e w5 ⟨rfl, htx5, hb5⟩
        have hbr5 := (hbr.then hb13 hsz).trans hb5
        clear y0 y1
        go_wp2_with fail
        go_roundw
        case rel => exact ⟨k + 1, by omega, by go_num, by rw [take_snoc hx, List.map_append]; exact htx5, hbr5⟩
        case measure => simp [intOf]; omega
      · have hq1 : (x.2 == 0) = false := by simp [hz]
        have hq2 : (x.2 != 0) = true := by simp [hz]
        have Hz := Lib.hid hz; clear hz
        go_wp2_with fail
        refine hi1.mono ?_
        rintro e w3 ⟨rfl, hb3⟩
        have y0 : w3.cell? ⟨wr.heap.size, 0, none⟩ = some (.int .i64 x.1) := (hb3.cell (p := ⟨wr.heap.size, 0, none⟩) (by simp)).trans (by simp)
        have y1 : w3.cell? ⟨wr.heap.size, 1, none⟩ = some (.int .i64 x.2) := (hb3.cell (p := ⟨wr.heap.size, 1, none⟩) (by simp)).trans (by simp)
        go_wp2_with fail
        have hi2 := itoa_any x.2 _ (hPx.below hb3 (.inl (Nat.le_refl _))) s3 (by omega)
        have hl2 := Lib.itoa_length_le x.2 (by omega) (by omega)
        generalize ht2 : Lib.itoa x.2 = t2 at hi2 hl2
        have Ht2 := Lib.hid ht2; clear ht2
        refine hi2.mono ?_
        rintro e w4 ⟨rfl, hb4⟩
        go_wp2_with fail
        rw [show ((⟨#[117]⟩ ++ ⟨t1.toArray⟩ : ByteArray) ++ (⟨#[43]⟩ ++ ⟨t2.toArray⟩ : ByteArray)) = bs (partB x) from by rw [← Ht1.out, ← Ht2.out]; exact str1 Hz.out]
        have hb13 := (hbx.trans (hb3.mono hbx.size)).trans (hb4.mono (Nat.le_trans hbx.size hb3.size))
        refine (add_any (w.heap.size + 1) T _ (bs (partB x)) w4 (htx.below hb13) (by omega) (Nat.le_trans hsz hb13.size) (by simp; omega)).mono ?_
        rintro e w5 ⟨rfl, htx5, hb5⟩
        have hbr5 := (hbr.then hb13 hsz).trans hb5
        clear y0 y1
        go_wp2_with fail
        go_roundw
        case rel => exact ⟨k + 1, by omega, by go_num, by rw [take_snoc hx, List.map_append]; exact htx5, hbr5⟩
        case measure => simp [intOf]; omega
    · have hfull : l.take k = l := List.take_of_length_le (by have := h.1; omega)
      rw [hfull] at htx
      clear hfull
      have hl0 : (l = []) ↔ n = 0 := by have := h.1; rw [← this]; simp
      have hPr : Pow wr := hP.below (((Below.refl _ _).alloc (Nat.le_of_lt hTl) _).trans (hbr.below (by omega))) (.inr hG)
      have g0 : wr.cell? ⟨w.heap.size, 0, none⟩ = some (.int .i64 c) := (hbr.cell (p := ⟨w.heap.size, 0, none⟩) (Nat.lt_succ_self _) (by show w.heap.size ≠ T; omega)).trans (by simp)
      have g1 : wr.cell? ⟨w.heap.size, 1, none⟩ = some (.slice A n cap) := (hbr.cell (p := ⟨w.heap.size, 1, none⟩) (Nat.lt_succ_self _) (by show w.heap.size ≠ T; omega)).trans (by simp)
      have hbe : ∀ W, BB (w.heap.size + 1) T (w.alloc (.cells #[.int .i64 c, .slice A n cap] 24)) W → BB w.heap.size T w W := fun W hW => (BB.of ((Below.refl _ _).alloc (Nat.le_refl _) _)).trans ⟨hW.os, hW.tape, hW.output, hW.size, fun i h1 h2 => hW.block i (by omega) h2⟩
      by_cases hc : c = 0 ∧ l ≠ []
      · have hq1 : (c == 0) = true := by simp [hc.1]
        have hq2 : (c != 0) = false := by simp [hc.1]
        have hq3 : ((n : Int) == 0) = false := by simp; intro e; exact hc.2 (hl0.2 e)
        have Hp : Hid (partsB c l = l.map partB) := by rw [Hid, partsB, if_pos hc, List.append_nil]
        have Hc := Lib.hid hc; clear hc hl0
        go_wp2_with fail
        go_end0
        exact ⟨rfl, by rw [Hp.out, List.map_map]; exact htx, hbe _ hbr⟩
      · have Hp : Hid (partsB c l = l.map partB ++ [Lib.itoa c]) := by rw [Hid, partsB, if_neg hc]
        by_cases hcz : c = 0
        · have hn0 : n = 0 := hl0.1 (Classical.byContradiction fun e => hc ⟨hcz, e⟩)
          have hq1 : (c == 0) = true := by simp [hcz]
          have hq2 : (c != 0) = false := by simp [hcz]
          have hq3 : ((n : Int) == 0) = true := by simp [hn0]
          clear hc hl0 hcz hn0
          go_wp2_with fail
          have hi1 := itoa_any c _ hPr hc0 (by omega)
          have Ht1 : Hid (bs (Lib.itoa c) = ⟨(Lib.itoa c).toArray⟩) := rfl
          refine hi1.mono ?_
          rintro e w3 ⟨rfl, hb3⟩
          rw [← Ht1.out]
          go_wp2_with fail
          refine (add_any (w.heap.size + 1) T _ (bs (Lib.itoa c)) w3 (htx.below hb3) (by omega) (Nat.le_trans hsz hb3.size) (by have := h.1; simp; omega)).mono ?_
          rintro e w5 ⟨rfl, htx5, hb5⟩
          have hbr5 := (hbr.then hb3 hsz).trans hb5
          go_wp2_with fail
          go_end0
          exact ⟨rfl, by rw [Hp.out, List.map_append, List.map_map]; exact htx5, hbe _ hbr5⟩
        · have hq1 : (c == 0) = false := by simp [hcz]
          have hq2 : (c != 0) = true := by simp [hcz]
          clear hc hl0 hcz
          go_wp2_with fail
          have hi1 := itoa_any c _ hPr hc0 (by omega)
          have Ht1 : Hid (bs (Lib.itoa c) = ⟨(Lib.itoa c).toArray⟩) := rfl
          refine hi1.mono ?_
          rintro e w3 ⟨rfl, hb3⟩
          rw [← Ht1.out]
          go_wp2_with fail
          refine (add_any (w.heap.size + 1) T _ (bs (Lib.itoa c)) w3 (htx.below hb3) (by omega) (Nat.le_trans hsz hb3.size) (by have := h.1; simp; omega)).mono ?_
          rintro e w5 ⟨rfl, htx5, hb5⟩
          have hbr5 := (hbr.then hb3 hsz).trans hb5
          go_wp2_with fail
          go_end0
          exact ⟨rfl, by rw [Hp.out, List.map_append, List.map_map]; exact htx5, hbe _ hbr5⟩

end Go.Proofs.YtgbbmcfhakliiaaGreatDoor
