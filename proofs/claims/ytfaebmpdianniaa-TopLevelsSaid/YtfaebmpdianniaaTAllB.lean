/-
  TAllB: the texts THigh, TLev, one behind another.
-/
import Derived.Test.YtfaebmpdianniaaTAllA
import Derived.Test.YtfaebmpdianniaaLvlAll
import Derived.Deep.RegionLaw
import Derived.Test.YtfaebmpdianniaaExplAll
import Derived.Test.YtfaebmpdianniaaGHold
/-
  'highest' of tenettop: the greatest of the first variables has the greatest number.
-/
namespace Go.Proofs.Ytfaebmpdianniaa
open Go Go.RowKit

theorem rg_canon : ∀ j : Nat, j < 8 → canonV (rgL j ++ [((j : Int), 0)]) = rgL (j + 1) := by decide
theorem rg_canon0 : ∀ j : Nat, j < 9 → canonV (rgL j) = rgL j := by decide
theorem rg_gplus : ∀ j : Nat, j < 9 → gplus (rgL j) = 0 := by decide
theorem rg_at {k i : Nat} {x : Int × Int} (h : (rgL k)[i]? = some x) : i < k ∧ x = ((i : Int), 0) := by
  have hi := (List.getElem?_eq_some_iff.1 h).1
  rw [rgL_len] at hi
  simp [rgL, hi] at h
  exact ⟨hi, h.symm⟩
theorem rg_has : ∀ k : Nat, k < 9 → ∀ i : Nat, i < k → hasv ((rgL k).take i) (i : Int) = false := by decide
theorem rg_vld {k : Nat} (hk : k ≤ 8) : vld 0 (rgL k) = true := by
  refine vld_iff.2 ⟨by omega, by omega, by rw [rgL_len]; exact hk, fun i x hi hx => ?_⟩
  obtain ⟨h1, rfl⟩ := rg_at hx
  exact ⟨⟨by show (0 : Int) ≤ (i : Int); omega, by show (i : Int) ≤ 1199; omega⟩, ⟨by show (0 : Int) ≤ 0; omega, by show (0 : Int) ≤ 1000; omega⟩, rg_has k (by omega) i h1⟩
theorem rg_max {j : Nat} (hj : j < 8) : mErr 0 (rgL j) 0 [((j : Int), 0)] = 0 ∧ mConst 0 (rgL j) 0 [((j : Int), 0)] = 0 ∧ mVars 0 (rgL j) 0 [((j : Int), 0)] = rgL (j + 1) := by
  have hv1 := rg_vld (k := j) (by omega)
  have hv2 : vld 0 [((j : Int), 0)] = true := vld_one (by omega) (by omega)
  obtain ⟨e1, e2, e3⟩ := m_yes (ca := 0) (cb := 0) ⟨hv1, hv2⟩
  have h0 : max (0 : Int) 0 = 0 := by decide
  have hc := rg_canon j hj
  have hg := rg_gplus (j + 1) (by omega)
  have hE : cErr (max 0 0) (rgL j ++ [((j : Int), 0)]) = 0 := by
    unfold cErr
    rw [hc, hg, h0, rgL_len]
    rw [if_pos ⟨by omega, by decide⟩]
  refine ⟨by rw [e1]; exact hE, ?_, ?_⟩
  · rw [e2]; unfold cConst; rw [if_pos hE, hc, hg, h0]; rfl
  · rw [e3]; unfold cVars; rw [if_pos hE]; exact hc
/-- the greatest of the first numbers -/
def hiV (xs : List Int) (j : Nat) : Int := evMax 0 xs (rgL j)
theorem hiV_zero (xs : List Int) : hiV xs 0 = 0 := rfl
theorem hiV_next {xs : List Int} {j : Nat} {x : Int} (hx : xs[j]? = some x) (h0 : 0 ≤ x) : hiV xs (j + 1) = max (hiV xs j) x := by
  unfold hiV
  rw [rgL_snoc, evMax_snoc]
  have : asv xs (j : Int) = x := by
    rw [asv_some hx]
    split <;> omega
  show (if evMax 0 xs (rgL j) < asv xs (j : Int) + 0 then asv xs (j : Int) + 0 else _) = _
  rw [this]
  split <;> omega
theorem hiV_ev {xs : List Int} {j : Nat} (hj : j ≤ 8) (hx : ∀ z ∈ xs, z ≤ 2147483647) : evV 0 xs (rgL j) = hiV xs j ∧ evE 0 xs (rgL j) = 0 := by
  have hb : evBad xs (rgL j) = false := by
    unfold evBad
    rw [List.any_eq_false]
    intro x _
    have : asv xs x.1 ≤ 2147483647 := by
      unfold asv
      split
      · rename_i z hz
        have := hx z (List.mem_of_getElem? hz)
        split <;> omega
      · omega
    simp
    omega
  exact ⟨by unfold evV; rw [if_pos (rg_vld hj), hb]; rfl, by unfold evE; rw [if_pos (rg_vld hj), hb]; rfl⟩

/-- the box of the greatest level so far -/
structure HB (w wr : World) (X : Nat) (A : Option Addr) (m cap : Nat) (j : Nat) : Prop where
  bel : Below w.heap.size w wr
  ge : w.heap.size ≤ X
  lt : X < wr.heap.size
  c0 : wr.cell? ⟨X, 0, none⟩ = some (.int .i64 0)
  c1 : wr.cell? ⟨X, 1, none⟩ = some (.slice A m cap)
  f0 : wr.frozen? ⟨X, 0, none⟩ = false
  f1 : wr.frozen? ⟨X, 1, none⟩ = false
  pl : PL wr wr.heap.size A m (rgL j)
  mc : m ≤ cap
  cm : cap ≤ 9223372036854775807
  an : A = none → cap = 0
  nx : ∀ b off, A = some ⟨b, off, none⟩ → b ≠ X

theorem PL.st {w : World} {B n X i : Nat} {A : Option Addr} {l : List (Int × Int)} {u : Value} (h : PL w B A n l) (hX : ∀ b off, A = some ⟨b, off, none⟩ → b ≠ X) : PL (w.setCell ⟨X, i, none⟩ u) B A n l :=
  ⟨h.1, fun hn => by
    obtain ⟨b, off, rfl, hb, hc⟩ := h.2 hn
    have hne : b ≠ X := hX b off rfl
    exact ⟨b, off, rfl, hb, fun j x hx => ⟨keep_set hne (hc j x hx).1, keep_set hne (hc j x hx).2⟩⟩⟩
theorem HB.put {w wr w3 : World} {X m m' cap c' j : Nat} {A A' : Option Addr} (h : HB w wr X A m cap j) (hb : Below wr.heap.size wr w3) (hp : PL w3 w3.heap.size A' m' (rgL (j + 1))) (hm : m' ≤ c') (hc : c' ≤ 9223372036854775807) (hA : ∀ b off, A' = some ⟨b, off, none⟩ → wr.heap.size ≤ b) :
    HB w ((w3.setCell ⟨X, 0, none⟩ (.int .i64 0)).setCell ⟨X, 1, none⟩ (.slice A' m' c')) X A' m' c' (j + 1) := by
  have hX := h.lt
  have hne : ∀ b off, A' = some ⟨b, off, none⟩ → b ≠ X := fun b off e => by have := hA b off e; omega
  have d0 := (hb.cell (p := ⟨X, 0, none⟩) hX).trans h.c0
  have d1 := (hb.cell (p := ⟨X, 1, none⟩) hX).trans h.c1
  have g0 := (hb.frozen (p := ⟨X, 0, none⟩) hX).trans h.f0
  have g1 := (hb.frozen (p := ⟨X, 1, none⟩) hX).trans h.f1
  have hs : ((w3.setCell ⟨X, 0, none⟩ (.int .i64 0)).setCell ⟨X, 1, none⟩ (.slice A' m' c')).heap.size = w3.heap.size := by rw [World.size_setCell, World.size_setCell]
  refine ⟨((h.bel.trans (hb.mono h.bel.size)).setCell h.ge _).setCell h.ge _, h.ge, by rw [hs]; have := hb.size; omega, keep_off (by decide) (World.cell?_setCell_same _ _ _ d0), World.cell?_setCell_same _ _ _ (keep_off (by decide) d1), ?_, ?_, ?_, hm, hc, fun e => ?_, hne⟩
  · rw [World.frozen?_setCell, World.frozen?_setCell]; exact g0
  · rw [World.frozen?_setCell, World.frozen?_setCell]; exact g1
  · rw [hs]; exact (hp.st hne).st hne
  · obtain ⟨b, off, he, _⟩ := hp.2 (by have := hp.1; rw [rgL_len] at this; omega)
    rw [e] at he; cases he

theorem HB.lift {w wr w3 : World} {X m cap j : Nat} {A : Option Addr} (h : HB w wr X A m cap j) (hb : Below wr.heap.size wr w3) : HB w w3 X A m cap j :=
  ⟨h.bel.trans (hb.mono h.bel.size), h.ge, Nat.lt_of_lt_of_le h.lt hb.size, (hb.cell (p := ⟨X, 0, none⟩) h.lt).trans h.c0, (hb.cell (p := ⟨X, 1, none⟩) h.lt).trans h.c1, (hb.frozen (p := ⟨X, 0, none⟩) h.lt).trans h.f0, (hb.frozen (p := ⟨X, 1, none⟩) h.lt).trans h.f1, h.pl.lift hb, h.mc, h.cm, h.an, h.nx⟩

set_option maxRecDepth 100000 in
set_option maxHeartbeats 8000000 in
theorem highest_any (A : Option Addr) (n cap : Nat) (xs : List Int) (w : World) (h : IL w w.heap.size A n xs) (hn : n ≤ 1000000) (hx : ∀ z ∈ xs, 0 ≤ z ∧ z ≤ 2147483647) :
    Calls Try.prog 41 #[.slice A n cap] w fun e w' => e = .returned (.bool true) ∧ Below w.heap.size w w' := by
  have Hx := Lib.hid hx
  clear hx
  go_enter Try.func41, Try.ntmps41
  go_wp2_with fail
  go_loopw [4, 5] (fun nv i wr => ∃ j : Nat, j ≤ n ∧ j ≤ 8 ∧ i = .int .i64 j ∧ nv = .int .i64 (hiV xs j) ∧ ∃ (A' : Option Addr) (m c' : Nat), HB w wr w.heap.size A' m c' j) (fun _ i _ => n - (intOf i).toNat)
  case atStart => exact ⟨0, Nat.zero_le _, Nat.zero_le _, rfl, rfl, none, 0, 0, ⟨(Below.refl _ w).alloc (Nat.le_refl _) _, Nat.le_refl _, by simp, by simp, by simp, by simp, by simp, PL.nil_ _, Nat.le_refl _, by omega, fun _ => rfl, fun b off e => by cases e⟩⟩
  case round =>
    obtain ⟨j, hj, hj8, rfl, rfl, A', m, c', hb⟩ := hrel
    have b0 := hb.c0
    have b1 := hb.c1
    have bf0 := hb.f0
    have bf1 := hb.f1
    by_cases hlt : j < n ∧ j < 8
    · obtain ⟨h1, h2⟩ := hlt
      have e1 : (j : Int) < (n : Int) := by omega
      have e2 : (j : Int) < 8 := by omega
      obtain ⟨b, off, x, rfl, hbl, hx, hx0⟩ := (h.below hb.bel).at_ h1
      have hxx := Hx.out x (List.mem_of_getElem? hx)
      have Hnext := Lib.hid (hiV_next hx hxx.1)
      have hbel := hb.bel
      have hX1 : Below wr.heap.size wr (wr.alloc (.cells #[.int .i64 j, .int .i64 0] 80)) := (Below.refl _ wr).alloc (Nat.le_refl _) _
      have hM := max_any 0 A' m c' (rgL j) 0 (some ⟨wr.heap.size, 0, none⟩) 1 1 [((j : Int), 0)] _ (hb.pl.lift hX1) hb.mc hb.cm hb.an (pl_heap (heap_new wr _)) (Nat.le_refl _) (by omega) (fun e => by cases e)
      obtain ⟨r1, r2, r3⟩ := rg_max h2
      rw [r1, r2, r3] at hM
      have HM := Lib.hid hM
      have Hb := Lib.hid hb
      have hXl := hb.lt
      have hXg := hb.ge
      have hszr := hbel.size
      clear hM r1 r2 r3 hb hX1 bf0 bf1 hx
      go_wp2_with fail
      with_reducible refine HM.out.mono ?_
      rintro e w2 ⟨v2, rfl, ⟨A2, m2, c2, rfl, hp2, hm2, hc2, hA2⟩, hb2⟩
      have hb2' : Below wr.heap.size wr w2 := ((Below.refl _ wr).alloc (Nat.le_refl _) _).trans (hb2.mono (by simp))
      have hA2' : ∀ b off, A2 = some ⟨b, off, none⟩ → wr.heap.size ≤ b := fun b off e => by have := hA2 b off e; simp at this; omega
      have hsz2 := hb2'.size
      have c0 := (hb2'.cell (p := ⟨w.heap.size, 0, none⟩) hXl).trans b0
      have c1 := (hb2'.cell (p := ⟨w.heap.size, 1, none⟩) hXl).trans b1
      have f0 := (hb2'.frozen (p := ⟨w.heap.size, 0, none⟩) hXl).trans Hb.out.f0
      have f1 := (hb2'.frozen (p := ⟨w.heap.size, 1, none⟩) hXl).trans Hb.out.f1
      have hblr : b < wr.heap.size := by omega
      have x2 := (hb2'.cell (p := ⟨b, off + j, none⟩) hblr).trans hx0
      have hbl2 : b < w2.heap.size := by omega
      have hX2 : w.heap.size < w2.heap.size := by omega
      have hneX : w.heap.size ≠ w2.heap.size := by omega
      have hnebX : w.heap.size ≠ b := by omega
      have Hp2 := Lib.hid hp2
      clear b0 b1 hA2 hb2 hp2 HM hx0
      go_wp2_with fail
      have hput := Hb.out.put hb2' Hp2.out hm2 hc2 hA2'
      have Hput := Lib.hid hput
      clear hput
      go_region_law (fail)
      all_goals
        go_wp2_with fail
        go_roundw
        case rel => exact ⟨j + 1, by omega, by omega, by go_num, by rw [Hnext.out], _, _, _, Hput.out.lift (by first | exact ((Below.refl _ _).alloc (Nat.le_refl _) _).drew | exact ((Below.refl _ _).drew.alloc (Nat.le_refl _) _) | exact (Below.refl _ _).alloc (Nat.le_refl _) _)⟩
        case measure => simp [intOf]; omega
    · have hEv := hiV_ev (xs := xs) (j := j) hj8 (fun z hz => (Hx.out z hz).2)
      have HE := eval_any 0 A' m c' (rgL j) A n cap xs wr hb.pl hb.mc hb.cm (h.lift hb.bel) (by omega)
      rw [hEv.1, hEv.2] at HE
      have HE2 := Lib.hid HE
      have hbel := hb.bel
      clear HE hEv bf0 bf1 hb
      by_cases hjn : j < n
      · have e1 : (j : Int) < (n : Int) := by omega
        have e2 : ¬ (j : Int) < 8 := by omega
        go_wp2_with fail
        with_reducible refine HE2.out.mono ?_
        rintro e w2 ⟨rfl, hb2⟩
        go_wp2_with fail
        go_ret
        exact ⟨rfl, hbel.trans (hb2.mono hbel.size)⟩
      · have e1 : ¬ (j : Int) < (n : Int) := by omega
        go_wp2_with fail
        with_reducible refine HE2.out.mono ?_
        rintro e w2 ⟨rfl, hb2⟩
        go_wp2_with fail
        go_ret
        exact ⟨rfl, hbel.trans (hb2.mono hbel.size)⟩
end Go.Proofs.Ytfaebmpdianniaa

/-
  'topLevels' of tenettop.
-/
namespace Go.Proofs.Ytfaebmpdianniaa
open Go Go.RowKit

/-- numbers of 16 bits as they came in -/
def UL16 (w : World) (B : Nat) (A : Option Addr) (n : Nat) (l : List Int) : Prop :=
  l.length = n ∧ (∀ z ∈ l, 0 ≤ z ∧ z < 65536) ∧ (0 < n → ∃ b off, A = some ⟨b, off, none⟩ ∧ b < B ∧ ∀ j x, l[j]? = some x → w.cell? ⟨b, off + j, none⟩ = some (.int .u16 x))
theorem UL16.below {w w' : World} {B n : Nat} {A : Option Addr} {l : List Int} (h : UL16 w B A n l) (hb : Below B w w') : UL16 w' B A n l :=
  ⟨h.1, h.2.1, fun hn => by
    obtain ⟨b, off, e, hB, hc⟩ := h.2.2 hn
    exact ⟨b, off, e, hB, fun j x hj => (hb.cell (p := ⟨b, off + j, none⟩) hB).trans (hc j x hj)⟩⟩
theorem UL16.at_ {w : World} {B n k : Nat} {A : Option Addr} {l : List Int} (h : UL16 w B A n l) (hk : k < n) : ∃ b off x, A = some ⟨b, off, none⟩ ∧ b < B ∧ l[k]? = some x ∧ (0 ≤ x ∧ x < 65536) ∧ w.cell? ⟨b, off + k, none⟩ = some (.int .u16 x) := by
  obtain ⟨b, off, e, hb, hc⟩ := h.2.2 (by omega)
  have hl : k < l.length := by have := h.1; omega
  exact ⟨b, off, l[k], e, hb, List.getElem?_eq_getElem hl, h.2.1 _ (List.getElem_mem hl), hc k _ (List.getElem?_eq_getElem hl)⟩

/-- what Solve and Explain say of such a system: it has none, and then a core is told, or it has the least numbers -/
theorem cs_two {n : Nat} {es : List Tri} {w w' : World} {e : Ending} (hg : gvld (n : Int) (sysT n es) = true) (h : SolvePost n (sysT n es) w e w') :
    Below w.heap.size w w' ∧ ((e = .returned (.tuple #[.slice none 0 0, .int .i64 20]) ∧ ∀ y, Sat (fun e => e ∈ esA n (sysT n es)) y → False) ∨
      ∃ (A : Option Addr) (c : Nat) (xs : List Int), e = .returned (.tuple #[.slice A n c, .int .i64 0]) ∧ IL w' w'.heap.size A n (solL n xs) ∧ Lst (fun e => e ∈ esA n (sysT n es)) (gx xs)) := by
  refine ⟨h.1, ?_⟩
  rcases h.2 with ⟨h9, _⟩ | ⟨_, m, hm, h9⟩
  · rw [hg] at h9; cases h9
  · obtain rfl : n = m := by omega
    rcases h9 with ⟨h1, h2⟩ | ⟨u, xs, rfl, hown, hL⟩
    · exact .inl ⟨h1, h2⟩
    · obtain ⟨A, c, rfl, hI⟩ := il_own hown
      exact .inr ⟨A, c, xs, rfl, hI, hL⟩

theorem expl_T (n : Nat) (A : Option Addr) (K cap : Nat) (es : List Tri) (w : World) (h : CL w w.heap.size A K (sysT n es)) (hn : n ≤ 1200) (hK : K ≤ 1300) :
    Calls Try.prog 18 #[.int .i64 n, .slice A K cap] w (ExplPost n (sysT n es) w) := by
  refine explain_any 3 n A K cap (sysT n es) w h (by omega) (by omega) (fun _ m hm => ?_) fun _ m hm => ?_
  · obtain rfl : n = m := by omega
    exact sysT_b
  · obtain rfl : n = m := by omega
    refine Int.le_trans (Int.mul_le_mul (show ((3 : Int) * (9 : Nat) + 3 * ((n + 1 : Nat) : Int)) ≤ 3630 by omega) (show ((2 * K : Nat) : Int) ≤ 2600 by omega) (by omega) (by omega)) (by decide)
/-- of a system with no solution Explain tells a core -/
theorem expl_no {n : Nat} {es : List Tri} {w w' : World} {e : Ending} (hg : gvld (n : Int) (sysT n es) = true) (hno : ∀ y, Sat (fun e => e ∈ esA n (sysT n es)) y → False) (h : ExplPost n (sysT n es) w e w') :
    Below w.heap.size w w' ∧ ∃ (A : Option Addr) (m c : Nat) (core : List Nat), e = .returned (.tuple #[.slice A m c, .bool true, .int .i64 0]) ∧ m = core.length ∧ IL w' w'.heap.size A m (core.map fun i : Nat => (i : Int)) ∧ CoreOf n (sysT n es) core ∧ core.Pairwise (· < ·) := by
  refine ⟨h.1, ?_⟩
  rcases h.2 with ⟨h9, _⟩ | ⟨_, m, hm, h9⟩
  · rw [hg] at h9; cases h9
  · obtain rfl : n = m := by omega
    rcases h9 with ⟨⟨y, hy⟩, _⟩ | ⟨_, A, c, core, h1, h2, h3, h4⟩
    · exact (hno y hy).elim
    · exact ⟨A, _, c, core, h1, rfl, h2, h3, h4⟩
theorem expl_yes {n : Nat} {es : List Tri} {w w' : World} {e : Ending} (hg : gvld (n : Int) (sysT n es) = true) {y : Nat → Int} (hy : Sat (fun e => e ∈ esA n (sysT n es)) y) (h : ExplPost n (sysT n es) w e w') :
    Below w.heap.size w w' ∧ e = .returned (.tuple #[.slice none 0 0, .bool false, .int .i64 0]) := by
  refine ⟨h.1, ?_⟩
  rcases h.2 with ⟨h9, _⟩ | ⟨_, m, hm, h9⟩
  · rw [hg] at h9; cases h9
  · obtain rfl : n = m := by omega
    rcases h9 with ⟨_, h1⟩ | ⟨hno, _⟩
    · exact h1
    · exact (hno y hy).elim

/-- the value of one variable's level -/
theorem ev_T (f p : Int) (A : Option Addr) (n1 c1 : Nat) (V : Option Addr) (m cv : Nat) (L : List Int) (w : World) (r : Int) (hp : PL w w.heap.size A n1 [(f, p)]) (hc : n1 ≤ c1) (hc1 : c1 ≤ 9223372036854775807) (hI : IL w w.heap.size V m L) (hm : m ≤ 9223372036854775807) (hL : Sml L) (hf : 0 ≤ f ∧ f ≤ 1199) (hpp : 0 ≤ p ∧ p ≤ 1000) (hr : gx L f.toNat + p = r) :
    Calls Try.prog 39 #[.agg #[.int .i64 0, .slice A n1 c1], .slice V m cv] w fun e w' => e = .returned (.tuple #[.int .i64 r, .int .i64 0]) ∧ Below w.heap.size w w' := by
  have h := eval_any 0 A n1 c1 [(f, p)] V m cv L w hp hc hc1 hI hm
  obtain ⟨e1, e2⟩ := ev_one hL hf hpp
  rw [e1, e2, hr] at h
  exact h
/-- what Holds says of small numbers -/
theorem holds_T {n : Nat} {es : List Tri} {T : List Int} {w w' : World} {e : Ending} (hg : gvld (n : Int) (sysT n es) = true) (hl : T.length = n) (hT : Sml T) (h : HoldsPost n (sysT n es) T w e w') :
    Below w.heap.size w w' ∧ ∃ i : Int, e = .returned (.tuple #[.int .i64 i, .int .i64 0]) ∧ FstI (brkB T) (sysT n es) i := by
  refine ⟨h.1, ?_⟩
  rcases h.2 with ⟨h9, _⟩ | ⟨_, ⟨h9, _⟩ | ⟨_, _, i, h1, h2⟩⟩
  · rw [hg] at h9; cases h9
  · exfalso
    rcases h9 with h9 | h9
    · omega
    · rw [List.any_eq_true] at h9
      obtain ⟨z, hz, h9⟩ := h9
      have := hT z hz
      simp [outB] at h9
      omega
  · exact ⟨i, h1, h2⟩
/-- the constraints that are told, as triples -/
def cirK (n : Nat) (es : List Tri) (core : List Nat) : List Lk := core.map fun i => triK n (eAt es i)
theorem pick_lk {n : Nat} {es : List Tri} : ∀ {core : List Nat}, (∀ i ∈ core, i < es.length) → pick (sysT n es) core = (cirK n es core).map lk3
  | [], _ => rfl
  | i :: core, h => by
    have hi := h i (by simp)
    have e1 : (sysT n es)[i]? = some (triC n (eAt es i)) := sysT_at (by rw [List.getElem?_eq_getElem hi, eAt_some (List.getElem?_eq_getElem hi)])
    have e2 : pick (sysT n es) (i :: core) = triC n (eAt es i) :: pick (sysT n es) core := by
      show pick (sysT n es) ([i] ++ core) = _
      rw [pick_app, pick_one e1]; rfl
    rw [e2, pick_lk fun j hj => h j (by simp [hj])]
    rfl
theorem nodup_of_map2 {α β : Type} {g : α → β} : ∀ l : List α, (l.map g).Nodup → l.Nodup
  | [], _ => List.nodup_nil
  | i :: l, h => by
    rw [List.map_cons, List.nodup_cons] at h
    exact List.nodup_cons.2 ⟨fun hi => h.1 (List.mem_map_of_mem hi), nodup_of_map2 l h.2⟩
theorem cir_facts {n : Nat} (h1 : 1 ≤ n) {es : List Tri} {core : List Nat} (h : CoreOf n (sysT n es) core) :
    0 < wt (cP es) core ∧ 0 < core.length ∧ ((cirK n es core).map (·.1)).Nodup ∧ ((cirK n es core).map (·.2.2)).Nodup ∧ ∀ x ∈ (cirK n es core).map (·.1), x ∈ (cirK n es core).map (·.2.2) := by
  obtain ⟨h2, h3, h4, h5⟩ := core_cir h1 h
  have e1 : ((cirK n es core).map (·.1)).map Int.toNat = core.map (cF n es) := by unfold cirK; rw [List.map_map, List.map_map]; rfl
  have e2 : ((cirK n es core).map (·.2.2)).map Int.toNat = core.map (cT n es) := by unfold cirK; rw [List.map_map, List.map_map]; rfl
  refine ⟨h2, List.length_pos_iff.2 h5, nodup_of_map2 (g := Int.toNat) _ (by rw [e1]; exact h3), nodup_of_map2 (g := Int.toNat) _ (by rw [e2]; exact h4.nodup_iff.2 h3), fun x hx => ?_⟩
  obtain ⟨k, hk, rfl⟩ := List.mem_map.1 hx
  obtain ⟨i, hi, rfl⟩ := List.mem_map.1 hk
  have h6 : cF n es i ∈ core.map (cT n es) := h4.mem_iff.2 (List.mem_map_of_mem hi)
  obtain ⟨j, hj, he⟩ := List.mem_map.1 h6
  refine List.mem_map.2 ⟨triK n (eAt es j), List.mem_map.2 ⟨j, hj, rfl⟩, ?_⟩
  have a1 := (triF_ok h1 (eAt es i)).1
  have a2 := (triT_ok h1 (eAt es j)).1
  show triT n (eAt es j) = triF n (eAt es i)
  unfold cF cT at he
  omega
theorem wt_b (es : List Tri) (l : List Nat) : 0 ≤ wt (cP es) l ∧ wt (cP es) l ≤ 3 * (l.length : Int) := by
  induction l with
  | nil => rw [wt_nil]; simp
  | cons i l ih =>
    have := triP_ok (eAt es i)
    rw [wt_cons]
    simp only [List.length_cons]
    show 0 ≤ triP (eAt es i) + _ ∧ triP (eAt es i) + _ ≤ _
    omega

set_option maxRecDepth 100000 in
set_option maxHeartbeats 16000000 in
theorem topLevels_any (v : Int) (A : Option Addr) (K cap : Nat) (es : List Tri) (V : Option Addr) (m capV : Nat) (vals : List Int) (w : World) (hv : 0 ≤ v ∧ v < 65536) (h : EgL w w.heap.size A K es) (hK : K ≤ 9223372036854775807) (hx : UL16 w w.heap.size V m vals) (hm : m ≤ 9223372036854775807) :
    Calls Try.prog 19 #[.int .u16 v, .slice A K cap, .slice V m capV] w fun e w' => e = .returned (.bool true) ∧ Below w.heap.size w w' := by
  by_cases c1 : v = 0
  · subst c1
    go_enter Try.func19, Try.ntmps19
    go_wp2_with fail
    go_ret
    exact ⟨rfl, Below.refl _ _⟩
  have c1b : (v == 0) = false := by simpa using c1
  by_cases c2 : 1200 < v
  · go_enter Try.func19, Try.ntmps19
    go_wp2_with fail
    go_ret
    exact ⟨rfl, Below.refl _ _⟩
  by_cases c3 : 1300 < K
  · have c3i : (1300 : Int) < (K : Int) := by omega
    go_enter Try.func19, Try.ntmps19
    go_wp2_with fail
    go_ret
    exact ⟨rfl, Below.refl _ _⟩
  have c3i : ¬ (1300 : Int) < (K : Int) := by omega
  by_cases c4 : 1200 < m
  · have c4i : (1200 : Int) < (m : Int) := by omega
    go_enter Try.func19, Try.ntmps19
    go_wp2_with fail
    go_ret
    exact ⟨rfl, Below.refl _ _⟩
  have c4i : ¬ (1200 : Int) < (m : Int) := by omega
  obtain ⟨n, rfl⟩ : ∃ n : Nat, v = n := ⟨v.toNat, by omega⟩
  have h1 : 1 ≤ n := by omega
  have hn : n ≤ 1200 := by omega
  have hw16 : IntKind.i64.wrap (n : Int) = (n : Int) := by rw [IntKind.wrap_i64]; omega
  have hlen := h.1
  have hg := sysT_gvld h1 hn (es := es) (by omega)
  have Hg := Lib.hid hg
  have HSy := Lib.hid (system_any n A K cap es w h h1 hn (by omega))
  go_enter Try.func19, Try.ntmps19
  go_wp2_with fail
  with_reducible refine HSy.out.mono ?_
  rintro e w1 ⟨A1, k1, rfl, hCL, hb1⟩
  have HSo := Lib.hid (solve_any n A1 K k1 _ w1 hCL (by omega))
  clear HSy
  go_wp2_with fail
  with_reducible refine HSo.out.mono ?_
  intro e w2 hp
  obtain ⟨hb2, hr⟩ := cs_two Hg.out hp
  have hCL2 := hCL.lift hb2
  have HEx := Lib.hid (expl_T n A1 K k1 es w2 hCL2 hn (by omega))
  have hbw2 := hb1.trans (hb2.mono hb1.size)
  clear HSo hp hCL
  rcases hr with ⟨rfl, hno⟩ | ⟨A2, k2, xs, rfl, hI2, hL⟩
  · clear hx hlen h hg hb1 hb2
    go_wp2_with fail
    with_reducible refine HEx.out.mono ?_
    intro e w3 hp
    obtain ⟨hb3, B3, q, d3, core, rfl, hql, hI3, hcore, hasc⟩ := expl_no Hg.out hno hp
    have hCL3 := hCL2.lift hb3
    have hbw3 := hbw2.trans (hb3.mono hbw2.size)
    obtain ⟨i0, hi, hz0, hz1, hz2⟩ := info_parts infoC
    have hsl := sysT_len n es
    have Hcore := Lib.hid hcore
    have Hasc := Lib.hid hasc
    have Hql := Lib.hid hql
    clear hp HEx hCL2 hbw2 hcore hasc hql
    go_wp2_with fail
    obtain ⟨wo, hwo⟩ : ∃ wo, wo = w3 := ⟨_, rfl⟩
    subst hwo
    go_loopw [13, 14, 15] (fun fv gv i wr => ∃ j : Nat, j ≤ q ∧ i = .int .i64 j ∧ gv = .int .i64 (wt (cP es) (core.take j)) ∧ ∃ xs, wr.ownsRow wo.heap.size 40 4 fv j xs ∧ CV wr wo.heap.size xs (pick (sysT n es) (core.take j)) ∧ Below wo.heap.size wo wr) (fun _ _ i _ => q - (intOf i).toNat)
    case atStart => exact ⟨0, Nat.zero_le _, rfl, rfl, [], World.ownsRow_nil _ _ _ _, CV.nil _ _, Below.refl _ _⟩
    case round =>
      obtain ⟨j, hj, rfl, rfl, xs, hown, hcv, hbr⟩ := hrel
      by_cases hlt : j < q
      · obtain ⟨b, off, x, rfl, hbl, hxk, hx0⟩ := (hI3.below hbr).at_ hlt
        obtain ⟨k, hk, rfl⟩ : ∃ k, core[j]? = some k ∧ x = (k : Int) := by
          rw [List.getElem?_map] at hxk
          cases hc : core[j]? with
          | none => rw [hc] at hxk; cases hxk
          | some k => rw [hc] at hxk; exact ⟨k, rfl, (Option.some.inj hxk).symm⟩
        have hkK : k < K := by have := Hcore.out.lt k (List.mem_of_getElem? hk); rw [hsl] at this; have := hCL3.1; omega
        have hci : (sysT n es)[k]? = some (triC n (eAt es k)) := by
          have hke : k < es.length := by have := hCL3.1; omega
          exact sysT_at (by rw [List.getElem?_eq_getElem hke, eAt_some (List.getElem?_eq_getElem hke)])
        obtain ⟨cb, co, c, C1, n1, g1, C2, n2, g2, rfl, hcb, hc, q0, q1, q2, q3, p1, p2, p2a, p3a, p4, p5⟩ := (hCL3.below hbr).at_ hkK
        obtain rfl : c = triC n (eAt es k) := Option.some.inj (hc.symm.trans hci)
        obtain ⟨rfl, b1, o1, rfl, hb1, _, u1⟩ := lk3_pl p1
        obtain ⟨rfl, b2, o2, rfl, hb2, _, _⟩ := lk3_pl p2
        have Hst : Hid (pick (sysT n es) (core.take (j + 1)) = pick (sysT n es) (core.take j) ++ [triC n (eAt es k)]) := by rw [Hid, take_snoc hk, pick_app, pick_one hci]
        have Hwt : Hid (wt (cP es) (core.take (j + 1)) = wt (cP es) (core.take j) + triP (eAt es k)) := by
          rw [Hid, take_snoc hk, wt_app, wt_cons, wt_nil]
          show _ + (triP (eAt es k) + 0) = _
          omega
        have hwb := wt_b es (core.take j)
        have hq3 : q ≤ 1300 := by
          have := Hql.out
          have h8 := nodup_len (K := K) (fun i hi => by have := Hcore.out.lt i hi; rw [hsl] at this; have := hCL3.1; omega) Hcore.out.nd
          omega
        have htl : (core.take j).length ≤ 1300 := by rw [List.length_take]; omega
        have hpb := triP_ok (eAt es k)
        have hsum : IntKind.i64.wrap (wt (cP es) (core.take j) + triP (eAt es k)) = wt (cP es) (core.take j) + triP (eAt es k) := by rw [IntKind.wrap_i64]; omega
        have Hord : Hid (∀ j' : Nat, j = j' + 1 → ∃ p : Nat, core[j']? = some p ∧ ¬ (k : Int) ≤ (p : Int)) := fun j' he => by
          have hj' : j' < core.length := by have := Hql.out; omega
          refine ⟨core[j'], List.getElem?_eq_getElem hj', ?_⟩
          have hjl : j < core.length := by have := Hql.out; omega
          have h9 := List.pairwise_iff_getElem.1 Hasc.out j' j hj' hjl (by omega)
          rw [(List.getElem?_eq_some_iff.1 hk).2] at h9
          omega
        have hon : ∀ u ∈ [Value.int .i64 (triC n (eAt es k)).1.1, .slice (some ⟨b1, o1, none⟩) 1 g1, .int .i64 (triC n (eAt es k)).2.1, .slice (some ⟨b2, o2, none⟩) 1 g2], u.oneCell' = true := by simp [Value.oneCell']
        have Hcv := Lib.hid (hcv.append (CV.one (w := wr) (B := wo.heap.size) (c := triC n (eAt es k)) ⟨_, _, _, rfl, p1, p2a, p3a⟩ ⟨_, _, _, rfl, p2, p4, p5⟩))
        generalize wt (cP es) (core.take j) = gw at *
        have k0 : ¬ (k : Int) < 0 := by omega
        have k1' : ¬ (K : Int) ≤ (k : Int) := by omega
        have kK : (k : Int) < (K : Int) := by omega
        have hjq : (j : Int) < (q : Int) := by omega
        have hszo := hbr.size
        clear hcv hc hxk hwb htl
        go_upto_region 14 with fail
        go_cut [122] (fun bv wx => bv = .bool false ∧ Below wr.heap.size wr wx)
        case first =>
          rcases Nat.eq_zero_or_pos j with hj0 | hj0
          · subst hj0
            have hx00 : wr.cell? ⟨b, off, none⟩ = some (.int .i64 (k : Int)) := by simpa using hx0
            have hjq0 : (0 : Int) < (q : Int) := by omega
            go_quiet (fail)
            go_wp2_with fail
            go_meet
            exact ⟨rfl, below_drewN (Below.refl _ _) _⟩
          · obtain ⟨j', rfl⟩ : ∃ j', j = j' + 1 := ⟨j - 1, by omega⟩
            obtain ⟨p, hp, hpk⟩ := Hord.out j' rfl
            obtain ⟨b', off', x', e', hbl', hxk', hx0'⟩ := (hI3.below hbr).at_ (k := j') (by omega)
            cases e'
            obtain rfl : x' = (p : Int) := by
              rw [List.getElem?_map, hp] at hxk'
              exact (Option.some.inj hxk').symm
            have hjp : (0 : Int) < ((j' + 1 : Nat) : Int) := by omega
            have hjp2 : (0 : Int) < (j' : Int) + 1 := by omega
            have hj1 : IntKind.i64.wrap ((j' : Int) + 1 - 1) = (j' : Int) := by rw [IntKind.wrap_i64]; omega
            have hjq' : (j' : Int) < (q : Int) := by omega
            clear hp hxk'
            go_quiet (fail)
            go_wp2_with fail
            go_meet
            exact ⟨rfl, below_drewN (Below.refl _ _) _⟩
        case rest =>
          obtain ⟨rfl, hbc⟩ := hcut
          have HB : Hid (∀ W, Below wo.heap.size wr W → W.cell? ⟨b, off + j, none⟩ = some (.int .i64 (k : Int)) ∧ W.cell? ⟨cb, co + k * 4, none⟩ = some (.int .i64 (triC n (eAt es k)).1.1) ∧ W.cell? ⟨cb, co + k * 4 + 1, none⟩ = some (.slice (some ⟨b1, o1, none⟩) 1 g1) ∧ W.cell? ⟨cb, co + k * 4 + 2, none⟩ = some (.int .i64 (triC n (eAt es k)).2.1) ∧ W.cell? ⟨cb, co + k * 4 + 3, none⟩ = some (.slice (some ⟨b2, o2, none⟩) 1 g2) ∧ W.cell? ⟨b1, o1 + 1, none⟩ = some (.int .i64 (triP (eAt es k)))) := fun W hW =>
            ⟨(hW.cell (p := ⟨b, off + j, none⟩) hbl).trans hx0, (hW.cell (p := ⟨cb, co + k * 4, none⟩) hcb).trans q0, (hW.cell (p := ⟨cb, co + k * 4 + 1, none⟩) hcb).trans q1, (hW.cell (p := ⟨cb, co + k * 4 + 2, none⟩) hcb).trans q2, (hW.cell (p := ⟨cb, co + k * 4 + 3, none⟩) hcb).trans q3, (hW.cell (p := ⟨b1, o1 + 1, none⟩) hb1).trans u1⟩
          have hbc' := hbc.mono hszo
          have hownc := own_below hown hbc
          have hszc := hbc.size
          obtain ⟨y0, y1, y2, y3, y4, y5⟩ := HB.out wc hbc'
          have hX : Below wo.heap.size wc (wc.alloc (.cells #[.int .i64 (triC n (eAt es k)).1.1, .slice (some ⟨b1, o1, none⟩) 1 g1, .int .i64 (triC n (eAt es k)).2.1, .slice (some ⟨b2, o2, none⟩) 1 g2] 40)) := (Below.refl _ wc).alloc (by omega) _
          have hown4 := own_below hownc ((Below.refl _ wc).alloc (Nat.le_refl _) (.cells #[.int .i64 (triC n (eAt es k)).1.1, .slice (some ⟨b1, o1, none⟩) 1 g1, .int .i64 (triC n (eAt es k)).2.1, .slice (some ⟨b2, o2, none⟩) 1 g2] 40))
          clear hown hx0 q0 q1 q2 q3 u1 hownc
          go_wp2_with (at_builtin; refine wpList_append_own _ rfl _ _ 22 rfl wo.heap.size 40 i0 (.agg #[.int .i64 0, .slice none 0 0, .int .i64 0, .slice none 0 0]) 4 64 Try.underlying22 hi hz0 hz1 hz2 rfl (by decide) _ j xs rfl hown4 _ 1 1 [.int .i64 (triC n (eAt es k)).1.1, .slice (some ⟨b1, o1, none⟩) 1 g1, .int .i64 (triC n (eAt es k)).2.1, .slice (some ⟨b2, o2, none⟩) 1 g2] rfl rfl (news4c rfl) hon (by unfold maxLen; omega) (by omega) (by simp; omega) ?_)
          intro v6 w6 hown6 hgrow6 _
          have hb6 : Below wo.heap.size wr w6 := (hbc'.trans hX).grown hgrow6 (by simp; omega) (fun i hi => (hown4.lt i hi).1)
          have hcv6 := Hcv.out.below hb6
          rw [← Hst.out] at hcv6
          obtain ⟨z0, z1, z2, z3, z4, z5⟩ := HB.out w6 hb6
          have hbr6 := hbr.trans hb6
          clear hown4 hX hgrow6 y0 y1 y2 y3 y4 y5 HB
          go_wp2_with fail
          go_roundw
          case rel => exact ⟨j + 1, by omega, by go_num, by rw [Hwt.out], _, hown6, hcv6, hbr6⟩
          case measure => simp [intOf]; omega
      · obtain rfl : j = q := by omega
        have hall : core.take j = core := List.take_of_length_le (by have := Hql.out; omega)
        rw [hall] at hcv
        obtain ⟨w0, wl, n1, n2, n3⟩ := cir_facts h1 Hcore.out
        have hwb := wt_b es core
        have hel : ∀ i ∈ core, i < es.length := fun i hi => by have := Hcore.out.lt i hi; rwa [hsl] at this
        have hq3 : j ≤ 1300 := by
          have := Hql.out
          have h8 := nodup_len (K := K) (fun i hi => by have := Hcore.out.lt i hi; rw [hsl] at this; have := hCL3.1; omega) Hcore.out.nd
          omega
        obtain ⟨A7, c7, rfl, hCL7, _, _⟩ := CL.of_own hown hcv hbr.size
        have HSo := Lib.hid (solve_any n A7 j c7 _ wr hCL7 (by omega))
        have hgp := pickT_gvld (l := core) Hg.out (by have := Hql.out; omega)
        have hCLk := hCL7
        rw [pick_lk hel] at hCLk
        have Hcir := Lib.hid (fun w' (hw : Below wr.heap.size wr w') => circle_any A7 j c7 (cirK n es core) w' (hCLk.lift hw) (by omega) (by have := Hql.out; omega) n1 n2 n3)
        have Hgp := Lib.hid hgp
        have Hwl := Lib.hid (show wt (cP es) (core.take j) = wt (cP es) core by rw [hall])
        have hwpos : 0 < wt (cP es) (core.take j) := by rw [hall]; exact w0
        have hszo := hbr.size
        clear hcv hown hCL7 hCLk hgp n1 n2 n3 hel hall hwb
        generalize wt (cP es) (List.take j core) = gw at *
        go_wp2_with fail
        with_reducible refine HSo.out.mono ?_
        intro e w4 hp
        have hb4 := hp.1
        obtain rfl : e = .returned (.tuple #[.slice none 0 0, .int .i64 20]) := by
          rcases hp.2 with ⟨h9, _⟩ | ⟨_, m', hm', h9⟩
          · rw [Hgp.out] at h9; cases h9
          · obtain rfl : n = m' := by omega
            rcases h9 with ⟨h9, _⟩ | ⟨u9, xs9, _, _, hL9⟩
            · exact h9
            · exact (Hcore.out.no _ hL9.sat).elim
        have Hc2 := Lib.hid (Hcir.out w4 hb4)
        clear hp HSo Hcir
        go_wp2_with fail
        with_reducible refine Hc2.out.mono ?_
        rintro e w5 ⟨rfl, hb5⟩
        go_wp2_with fail
        go_ret
        exact ⟨rfl, hbw3.trans ((hbr.trans ((hb4.trans (hb5.mono hb4.size)).mono hszo)).mono hbw3.size)⟩
  · clear h hb1 hb2
    go_wp2_with fail
    with_reducible refine HEx.out.mono ?_
    intro e w3 hp
    obtain ⟨hb3, rfl⟩ := expl_yes Hg.out hL.sat hp
    have hCL3 := hCL2.lift hb3
    have hI3 := hI2.lift hb3
    have hbw3 := hbw2.trans (hb3.mono hbw2.size)
    have hcs := sysT_con (es := es) h1 hn
    have HL := Lib.hid hL
    have hsm := sol_sml hn hcs hL
    have Hh : Hid (∀ e ∈ es, gx (solL n xs) (triF n e).toNat + triP e ≤ gx (solL n xs) (triT n e).toNat) := fun e he => sol_holds h1 hn hL he
    have Hle : Hid (∀ T : List Int, T.length = n → Sml T → allT n T es = true → ∀ v, v < n → gx (solL n xs) v ≤ gx T v) := fun T hTl hT ha v hv => all_least h1 hn hTl hT ha hL v hv
    have hSl : (solL n xs).length = n := solL_len n xs
    generalize solL n xs = L at *
    obtain ⟨j0, hj0, hy0, hy1, hy2⟩ := info_parts infoI
    have Hsm := Lib.hid hsm
    have HSl := Lib.hid hSl
    have Hx := Lib.hid (hx.below hbw3)
    have HCL := Lib.hid hCL3
    clear hp HEx hCL2 hbw2 hI2 hL HL hcs hsm hSl hg hx hCL3
    have hnn : (n : Int) = (n : Int) := rfl
    go_wp2_with fail
    obtain ⟨wo, hwo⟩ : ∃ wo, wo = w3 := ⟨_, rfl⟩
    subst hwo
    have hszw := hbw3.size
    go_loopw [18, 19] (fun tv i wr => ∃ j : Nat, j ≤ n ∧ i = .int .i64 j ∧ wr.ownsRow wo.heap.size 3 1 tv j (int1 (trL vals L j)) ∧ Below wo.heap.size wo wr) (fun _ i _ => n - (intOf i).toNat)
    case atStart => exact ⟨0, Nat.zero_le _, rfl, World.ownsRow_nil _ _ _ _, Below.refl _ _⟩
    case round =>
      obtain ⟨j, hj, rfl, hown, hbr⟩ := hrel
      by_cases hlt : j < n
      · have hjn : (j : Int) < (n : Int) := by omega
        have htx := txV_ok vals j
        go_upto_if 186 with fail
        go_cut [20] (fun xv wx => xv = .int .i64 (txV vals j) ∧ wx = wr)
        case first =>
          by_cases hjm : j < m
          · obtain ⟨b, off, x, rfl, hbl, hx, hxb, hx0⟩ := (Hx.out.below (hbr.mono hszw)).at_ hjm
            have hjm1 : (j : Int) < (m : Int) := by omega
            have e1 : txV vals j = x % 5000 := by unfold txV; rw [hx]
            have e2 : x.tmod 5000 = x % 5000 := Int.tmod_eq_emod_of_nonneg hxb.1
            have e4 : IntKind.i64.wrap (x % 5000) = x % 5000 := by rw [IntKind.wrap_i64]; omega
            go_wp2_with fail
            go_meet
            exact ⟨by rw [e1], rfl⟩
          · have hjm1 : ¬ (j : Int) < (m : Int) := by omega
            have e1 : txV vals j = 0 := by
              unfold txV
              rw [List.getElem?_eq_none (by have := Hx.out.1; omega)]
            go_wp2_with fail
            go_meet
            exact ⟨by rw [e1], rfl⟩
        case rest =>
          obtain ⟨rfl, rfl⟩ := hcut
          obtain ⟨b, off, x, rfl, hbl, hx, hx0⟩ := (hI3.below hbr).at_ hlt
          have hxs := Hsm.out x (List.mem_of_getElem? hx)
          have Hst : Hid (trL vals L (j + 1) = trL vals L j ++ [txV vals j + x % 2]) := by rw [Hid, trL_snoc, gx_at hx]
          have hll : (trL vals L j).length = j := trL_len vals L j
          generalize txV vals j = tx at *
          have e2 : x.tmod 2 = x % 2 := Int.tmod_eq_emod_of_nonneg hxs.1
          have e3 : IntKind.i64.wrap (x % 2) = x % 2 := by rw [IntKind.wrap_i64]; omega
          have e4 : IntKind.i64.wrap (tx + x % 2) = tx + x % 2 := by rw [IntKind.wrap_i64]; omega
          have hszo := hbr.size
          have hX : Below wo.heap.size wc (wc.alloc (.cells #[.int .i64 (tx + x % 2)] 3)) := (Below.refl _ wc).alloc hszo _
          have hown4 := own_below hown ((Below.refl _ wc).alloc (Nat.le_refl _) (.cells #[.int .i64 (tx + x % 2)] 3))
          clear hown hx
          go_wp2_with (at_builtin; refine wpList_append_own _ rfl _ _ 42 rfl wo.heap.size 3 j0 (.int .i64 0) 1 8 Try.underlying42 hj0 hy0 hy1 hy2 rfl (by decide) _ j (int1 (trL vals L j)) rfl hown4 _ 1 1 [.int .i64 (tx + x % 2)] rfl rfl (newI rfl) newI_one (by unfold maxLen; omega) (by omega) (by simp; omega) ?_)
          intro v6 w6 hown6 hgrow6 _
          have hb6 : Below wo.heap.size wo w6 := (hbr.trans hX).grown hgrow6 (by simp; omega) (fun i hi => (hown4.lt i hi).1)
          have hown7 : w6.ownsRow wo.heap.size 3 1 v6 (j + 1) (int1 (trL vals L (j + 1))) := by
            rw [Hst.out, int1_app]; exact hown6
          clear hown4 hX hgrow6 hown6
          go_wp2_with fail
          go_roundw
          case rel => exact ⟨j + 1, by omega, by go_num, hown7, hb6⟩
          case measure => simp [intOf]; omega
      · obtain rfl : j = n := by omega
        obtain ⟨A4, k4, rfl, hI4⟩ := il_own hown
        have hsT := trL_sml vals L j
        have hlT := trL_len vals L j
        generalize trL vals L j = T at *
        have HsT := Lib.hid hsT
        have HlT := Lib.hid hlT
        have hI5 := hI3.lift hbr
        have hCL5 := HCL.out.lift hbr
        have hbw5 := hbw3.trans (hbr.mono hszw)
        clear hown hsT hlT hI3
        obtain ⟨wp, hwp⟩ : ∃ wp, wp = wr := ⟨_, rfl⟩
        subst hwp
        clear hbr
        go_wp2_with fail
        go_loopw [21, 22] (fun av i wr => ∃ q : Nat, q ≤ K ∧ i = .int .i64 q ∧ av = .bool (allT j T (es.take q)) ∧ Below wp.heap.size wp wr) (fun _ i _ => K - (intOf i).toNat)
        case atStart => exact ⟨0, Nat.zero_le _, rfl, rfl, Below.refl _ _⟩
        case round =>
          obtain ⟨q, hq, rfl, rfl, hbr⟩ := hrel
          by_cases hlt : q < K
          · obtain ⟨cb, co, c, C1, n1, g1, C2, n2, g2, rfl, hcb, hc, q0, q1, q2, q3, p1, p2, p2a, p3a, p4, p5⟩ := (hCL5.lift hbr).at_ hlt
            obtain ⟨e, he⟩ : ∃ e, es[q]? = some e := ⟨_, List.getElem?_eq_getElem (by have := hCL5.1; rw [sysT_len] at this; omega)⟩
            obtain rfl : c = triC j e := Option.some.inj (hc.symm.trans (sysT_at he))
            have hld := Hh.out e (List.mem_of_getElem? he)
            have Hst : Hid (allT j T (es.take (q + 1)) = (allT j T (es.take q) && hldT j T e)) := by rw [Hid, take_snoc he, allT_snoc]
            have bf := triF_ok h1 e
            have bt := triT_ok h1 e
            have bp := triP_ok e
            have hIL := hI5.lift hbr
            have hIT := hI4.lift hbr
            have p1' : PL wr wr.heap.size C1 n1 [(triF j e, triP e)] := p1
            have p2' : PL wr wr.heap.size C2 n2 [(triT j e, 0)] := p2
            have HA := Lib.hid (fun W (hW : Below wr.heap.size wr W) => ev_T (triF j e) (triP e) C1 n1 g1 A2 j k2 L W _ (p1'.lift hW) p2a p3a (hIL.lift hW) (by omega) Hsm.out (by omega) (by omega) rfl)
            have HB2 := Lib.hid (fun W (hW : Below wr.heap.size wr W) => ev_T (triT j e) 0 C2 n2 g2 A2 j k2 L W (gx L (triT j e).toNat) (p2'.lift hW) p4 p5 (hIL.lift hW) (by omega) Hsm.out (by omega) (by omega) (by omega))
            have HC := Lib.hid (fun W (hW : Below wr.heap.size wr W) => ev_T (triF j e) (triP e) C1 n1 g1 A4 j k4 T W _ (p1'.lift hW) p2a p3a (hIT.lift hW) (by omega) HsT.out (by omega) (by omega) rfl)
            have HD := Lib.hid (fun W (hW : Below wr.heap.size wr W) => ev_T (triT j e) 0 C2 n2 g2 A4 j k4 T W (gx T (triT j e).toNat) (p2'.lift hW) p4 p5 (hIT.lift hW) (by omega) HsT.out (by omega) (by omega) (by omega))
            have HR : Hid (∀ W, Below wr.heap.size wr W → W.cell? ⟨cb, co + q * 4, none⟩ = some (.int .i64 0) ∧ W.cell? ⟨cb, co + q * 4 + 1, none⟩ = some (.slice C1 n1 g1) ∧ W.cell? ⟨cb, co + q * 4 + 2, none⟩ = some (.int .i64 0) ∧ W.cell? ⟨cb, co + q * 4 + 3, none⟩ = some (.slice C2 n2 g2)) := fun W hW =>
              ⟨(hW.cell (p := ⟨cb, co + q * 4, none⟩) hcb).trans q0, (hW.cell (p := ⟨cb, co + q * 4 + 1, none⟩) hcb).trans q1, (hW.cell (p := ⟨cb, co + q * 4 + 2, none⟩) hcb).trans q2, (hW.cell (p := ⟨cb, co + q * 4 + 3, none⟩) hcb).trans q3⟩
            have Hhl : Hid (hldT j T e = decide (gx T (triF j e).toNat + triP e ≤ gx T (triT j e).toNat)) := rfl
            generalize gx L (triF j e).toNat + triP e = a at *
            generalize gx L (triT j e).toNat = b at *
            generalize gx T (triF j e).toNat + triP e = c at *
            generalize gx T (triT j e).toNat = d at *
            generalize allT j T (es.take q) = aq at *
            have hqi : (q : Int) < (K : Int) := by omega
            have hab : ¬ b < a := by omega
            obtain ⟨y0, y1, y2, y3⟩ := HR.out wr (Below.refl _ _)
            have HA1 := Lib.hid (HA.out wr (Below.refl _ _))
            clear hc he q0 q1 q2 q3 p1 p2 p1' p2' bf bt bp hld hIL hIT HA
            go_wp2_with fail
            with_reducible refine HA1.out.mono ?_
            rintro e6 w6 ⟨rfl, hb6⟩
            have HB1 := Lib.hid (HB2.out w6 hb6)
            clear y0 y1 y2 y3 HA1 HB2
            obtain ⟨y0, y1, y2, y3⟩ := HR.out w6 hb6
            go_wp2_with fail
            with_reducible refine HB1.out.mono ?_
            rintro e7 w7 ⟨rfl, hb7⟩
            have hb7' := hb6.trans (hb7.mono hb6.size)
            have HC1 := Lib.hid (HC.out w7 hb7')
            clear y0 y1 y2 y3 HB1 HC
            obtain ⟨y0, y1, y2, y3⟩ := HR.out w7 hb7'
            go_wp2_with fail
            with_reducible refine HC1.out.mono ?_
            rintro e8 w8 ⟨rfl, hb8⟩
            have hb8' := hb7'.trans (hb8.mono hb7'.size)
            have HD1 := Lib.hid (HD.out w8 hb8')
            clear y0 y1 y2 y3 HC1 HD
            obtain ⟨y0, y1, y2, y3⟩ := HR.out w8 hb8'
            go_wp2_with fail
            with_reducible refine HD1.out.mono ?_
            rintro e9 w9 ⟨rfl, hb9⟩
            have hb9' := hb8'.trans (hb9.mono hb8'.size)
            have hbr9 := hbr.trans (hb9'.mono hbr.size)
            clear y0 y1 y2 y3 HD1 HR
            cases aq
            · have Hs2 : Hid (allT j T (es.take (q + 1)) = false) := by rw [Hid, Hst.out]; rfl
              go_wp2_with fail
              go_roundw
              case rel => exact ⟨q + 1, by omega, by go_num, by rw [Hs2.out], hbr9⟩
              case measure => simp [intOf]; omega
            · by_cases hcd : c ≤ d
              · have Hs2 : Hid (allT j T (es.take (q + 1)) = true) := by rw [Hid, Hst.out, Hhl.out, decide_eq_true hcd]; rfl
                go_wp2_with fail
                go_roundw
                case rel => exact ⟨q + 1, by omega, by go_num, by rw [Hs2.out], hbr9⟩
                case measure => simp [intOf]; omega
              · have Hs2 : Hid (allT j T (es.take (q + 1)) = false) := by rw [Hid, Hst.out, Hhl.out, decide_eq_false hcd]; rfl
                go_wp2_with fail
                go_roundw
                case rel => exact ⟨q + 1, by omega, by go_num, by rw [Hs2.out, decide_eq_false (by omega)], hbr9⟩
                case measure => simp [intOf]; omega
          · obtain rfl : q = K := by omega
            have hall : es.take q = es := List.take_of_length_le (by omega)
            have HHo := Lib.hid (holds_any j A1 q k1 (sysT j es) A4 j k4 T wr (hCL5.lift hbr) (by omega) (hI4.lift hbr) (by omega))
            have hIL := hI5.lift hbr
            have hIT := hI4.lift hbr
            have hbw6 := hbw5.trans (hbr.mono hbw5.size)
            have Hall := Lib.hid hall
            clear hall hI4 hI5 hCL5
            go_wp2_with fail
            with_reducible refine HHo.out.mono ?_
            intro e w6 hp
            obtain ⟨hb6, i, rfl, hi⟩ := holds_T Hg.out HlT.out HsT.out hp
            have hax := all_fst HsT.out hi
            have hIL6 := hIL.lift hb6
            have hIT6 := hIT.lift hb6
            have hbw7 := hbw6.trans (hb6.mono hbw6.size)
            have HHi := Lib.hid (fun w' (hw : Below w6.heap.size w6 w') => highest_any A2 j k2 L w' (hIL6.lift hw) (by omega) (fun z hz => by have := Hsm.out z hz; omega))
            have hszb := hbw7.size
            clear hp hIL hIT hi hbr HHo
            by_cases him : i = -1
            · subst him
              have hat : allT j T es = true := by rw [hax]; rfl
              have hge := Lib.hid (Hle.out T HlT.out HsT.out hat)
              have hat2 : allT j T (es.take q) = true := by rw [Hall.out]; exact hat
              clear hax hat
              rw [hat2]
              go_wp2_with fail
              go_loopw [33] (fun iv wx => ∃ k : Nat, k ≤ j ∧ iv = .int .i64 k ∧ Below w6.heap.size w6 wx) (fun iv _ => j - (intOf iv).toNat)
              case atStart => exact ⟨0, Nat.zero_le _, rfl, Below.refl _ _⟩
              case round =>
                obtain ⟨k, hk, rfl, hbx⟩ := hrel
                by_cases hkj : k < j
                · obtain ⟨tb, tof, tx, rfl, htb, htx, ht0⟩ := (hIT6.lift hbx).at_ hkj
                  obtain ⟨lb, lof, lx, rfl, hlb, hlx, hl0⟩ := (hIL6.lift hbx).at_ hkj
                  have hno : ¬ tx < lx := by
                    have h9 := hge.out k hkj
                    rw [gx_at htx, gx_at hlx] at h9
                    omega
                  have hkji : (k : Int) < (j : Int) := by omega
                  clear htx hlx
                  go_wp2_with fail
                  go_quiet (fail)
                  have hbd : Below w6.heap.size w6 (wr.drewN nq) := below_drewN hbx _
                  generalize wr.drewN nq = wz at hbd ⊢
                  go_wp2_with fail
                  go_roundw
                  case rel => exact ⟨k + 1, by omega, by go_num, hbd⟩
                  case measure => simp [intOf]; omega
                · obtain rfl : k = j := by omega
                  have HF := Lib.hid (HHi.out wr hbx)
                  clear HHi
                  go_wp2_with fail
                  with_reducible refine HF.out.mono ?_
                  rintro e9 w9 ⟨rfl, hb9⟩
                  go_wp2_with fail
                  go_ret
                  exact ⟨rfl, hbw7.trans ((hbx.trans (hb9.mono hbx.size)).mono hszb)⟩
            · have hat : allT j T es = false := by rw [hax]; simpa using him
              have hat2 : allT j T (es.take q) = false := by rw [Hall.out]; exact hat
              have him2 : (i == -1) = false := by simpa using him
              clear hax hat
              rw [hat2]
              go_wp2_with fail
              go_loopw [33] (fun iv wx => ∃ k : Nat, k ≤ j ∧ iv = .int .i64 k ∧ Below w6.heap.size w6 wx) (fun iv _ => j - (intOf iv).toNat)
              case atStart => exact ⟨0, Nat.zero_le _, rfl, Below.refl _ _⟩
              case round =>
                obtain ⟨k, hk, rfl, hbx⟩ := hrel
                by_cases hkj : k < j
                · have hkji : (k : Int) < (j : Int) := by omega
                  go_wp2_with fail
                  go_quiet (fail)
                  have hbd : Below w6.heap.size w6 (wr.drewN nq) := below_drewN hbx _
                  generalize wr.drewN nq = wz at hbd ⊢
                  go_wp2_with fail
                  go_roundw
                  case rel => exact ⟨k + 1, by omega, by go_num, hbd⟩
                  case measure => simp [intOf]; omega
                · obtain rfl : k = j := by omega
                  have HF := Lib.hid (HHi.out wr hbx)
                  clear HHi
                  go_wp2_with fail
                  with_reducible refine HF.out.mono ?_
                  rintro e9 w9 ⟨rfl, hb9⟩
                  go_wp2_with fail
                  go_ret
                  exact ⟨rfl, hbw7.trans ((hbx.trans (hb9.mono hbx.size)).mono hszb)⟩
end Go.Proofs.Ytfaebmpdianniaa
