/-
  slices.DeleteFunc at [][]int: sets with fewer than two members are taken out.
-/
import Derived.Test.YtfaebmpdianniaaGGrp
namespace Go.Proofs.Ytfaebmpdianniaa
open Go Go.RowKit Go.Shelf

/-- how many a slice has -/
def lnV : Value → Nat
  | .slice _ n _ => n
  | _ => 0
/-- two or more -/
def kpV (x : Value) : Bool := decide (2 ≤ lnV x)
set_option maxHeartbeats 1000000 in
theorem few_any (A : Option Addr) (n c : Nat) (w : World) (hn : n ≤ 1000000) :
    Calls Try.prog 27 #[.slice A n c] w fun e w' => e = .returned (.bool (!kpV (.slice A n c))) ∧ w' = w := by
  have hk : kpV (.slice A n c) = decide (2 ≤ n) := rfl
  rw [hk]
  go_enter Try.func27, Try.ntmps27
  by_cases h2 : 2 ≤ n
  · have h3 : ¬ (n : Int) < 2 := by omega
    rw [decide_eq_true h2]
    go_wp2_with fail
    go_ret
    exact ⟨rfl, rfl⟩
  · have h3 : (n : Int) < 2 := by omega
    rw [decide_eq_false h2]
    go_wp2_with fail
    go_ret
    exact ⟨rfl, rfl⟩
/-- values that are slices -/
def Sls (xs : List Value) : Prop := ∀ x ∈ xs, ∃ A n c, x = .slice A n c ∧ n ≤ 1000000

set_option maxRecDepth 100000 in
set_option maxHeartbeats 4000000 in
theorem index_any (base : Nat) (A : Option Addr) (n c : Nat) (xs : List Value) (w : World) (hown : w.ownsRow base 42 1 (.slice A n c) n xs) (hs : Sls xs) (hn : n ≤ 1000000) :
    Calls Try.prog 46 #[.slice A n c, .func (.func 27) #[] #[]] w fun e w' => Below w.heap.size w w' ∧
      ((e = .returned (.int .i64 (-1)) ∧ xs.filter kpV = xs) ∨ ∃ i : Nat, i < n ∧ e = .returned (.int .i64 i) ∧ (xs.take (i + 1)).filter kpV = xs.take i) := by
  have hl : xs.length = n := by have := hown.1; omega
  have Hs := Lib.hid hs
  clear hs
  go_enter Try.func46, Try.ntmps46
  go_wp2_with fail
  go_loopw [8] (fun i wr => ∃ k : Nat, k ≤ n ∧ i = .int .i64 k ∧ Below w.heap.size w wr ∧ (xs.take k).filter kpV = xs.take k) (fun i _ => n - (intOf i).toNat)
  case atStart => exact ⟨0, Nat.zero_le _, rfl, Below.refl _ _, rfl⟩
  case round =>
    obtain ⟨k, hk, rfl, hb, hf⟩ := hrel
    by_cases hkn : k < n
    · have hki : (k : Int) < (n : Int) := by omega
      obtain ⟨x, hx⟩ : ∃ x, xs[k]? = some x := ⟨_, List.getElem?_eq_getElem (by omega)⟩
      obtain ⟨B, m, d, rfl, hm⟩ := Hs.out x (List.mem_of_getElem? hx)
      obtain ⟨g, cap, he⟩ := own_some hown (by omega)
      cases he
      have hc := (hown.cellAt k (by omega)).trans hx
      have hc2 := (hb.cell (p := ⟨g, k, none⟩) (own_lt hown).2).trans hc
      have Htk : Hid (xs.take (k + 1) = xs.take k ++ [.slice B m d]) := by rw [Hid, List.take_add_one, hx, Option.toList_some]
      have Hcl := Lib.hid (few_any B m d wr hm)
      cases hkp : kpV (.slice B m d)
      · rw [hkp] at Hcl
        go_wp2_with fail
        refine Hcl.out.mono ?_
        rintro e w5 ⟨rfl, rfl⟩
        go_wp2_with fail
        go_ret
        exact ⟨hb, .inr ⟨k, hkn, rfl, by rw [Htk.out, List.filter_append, hf, List.filter_cons, hkp]; simp⟩⟩
      · rw [hkp] at Hcl
        go_wp2_with fail
        refine Hcl.out.mono ?_
        rintro e w5 ⟨rfl, rfl⟩
        go_wp2_with fail
        go_roundw
        case rel => exact ⟨k + 1, by omega, by go_num, hb, by rw [Htk.out, List.filter_append, hf, List.filter_cons, hkp]; simp⟩
        case measure => simp [intOf]; omega
    · obtain rfl : k = n := by omega
      have hki : ¬ (k : Int) < (k : Int) := by omega
      go_wp2_with fail
      go_ret
      rw [List.take_of_length_le (by omega)] at hf
      exact ⟨hb, .inl ⟨rfl, List.filter_eq_self.1 hf⟩⟩

/-- a row's beginning -/
theorem own_take {w : World} {base g n c : Nat} {e : TypeId} {xs : List Value} (h : w.ownsRow base e 1 (.slice (some ⟨g, 0, none⟩) n c) n xs) {i : Nat} (hi : i ≤ n) : w.ownsRow base e 1 (.slice (some ⟨g, 0, none⟩) i c) i (xs.take i) := by
  have hl := h.1
  rcases h.2 with ⟨h1, _⟩ | ⟨g', cap, cur, h1, h2, h3, h4, h5, h6, h7⟩
  · cases h1
  · cases h1
    refine ⟨by rw [List.length_take]; omega, .inr ⟨g, c, cur, rfl, h2, h3, by omega, h5, h6, ?_⟩⟩
    rw [← h7, List.take_take]
    congr 1
    omega
theorem KI.bbs {w w' : World} {base D n c : Nat} {xs : List Value} (hb : BB w.heap.size D w w') (hown : w.ownsRow base 42 1 (.slice (some ⟨D, 0, none⟩) n c) n xs) : KI w w' := fun q cs fr hq => by
  have hne := own_ne hown ⟨cs, fr, hq⟩ (by decide)
  exact (hb.block q (Array.getElem?_eq_some_iff.1 hq).1 (fun e => hne (by subst e; rfl))).trans hq

set_option maxRecDepth 100000 in
set_option maxHeartbeats 4000000 in
theorem delete_any (base : Nat) (A : Option Addr) (n c : Nat) (xs : List Value) (w : World) (hown : w.ownsRow base 42 1 (.slice A n c) n xs) (hs : Sls xs) (hn : n ≤ 1000000) (hbase : base ≤ w.heap.size) :
    Calls Try.prog 26 #[.slice A n c, .func (.func 27) #[] #[]] w fun e w' => ∃ u, e = .returned u ∧ w'.ownsRow base 42 1 u (xs.filter kpV).length (xs.filter kpV) ∧ Below base w w' ∧ KI w w' := by
  have hl : xs.length = n := by have := hown.1; omega
  have Hix := Lib.hid (index_any base A n c xs w hown hs hn)
  have Hs := Lib.hid hs
  clear hs
  go_enter Try.func26, Try.ntmps26
  go_wp2_with fail
  refine Hix.out.mono ?_
  clear Hix
  rintro e w1 ⟨hb1, ⟨rfl, hall⟩ | ⟨i0, hi0, rfl, hf0⟩⟩
  · go_wp2_with fail
    go_ret
    refine ⟨.slice A n c, rfl, ?_, hb1.mono hbase, KI.below hb1⟩
    rw [hall, hl]
    exact own_below hown hb1
  · obtain ⟨g, cap, he⟩ := own_some hown (by omega)
    cases he
    have hown1 := own_below hown hb1
    have hgl := own_lt hown
    have hi1 : ((i0 : Int) == -1) = false := by rw [beq_eq_false_iff_ne]; omega
    have hi2 : ¬ (i0 : Int) = -1 := by omega
    have hs1 := hb1.size
    go_wp2_with fail
    go_loopw [5, 6] (fun vi vj wr => ∃ i j : Nat, vi = .int .i64 i ∧ vj = .int .i64 j ∧ i < j ∧ j ≤ n ∧ ∃ ys, wr.ownsRow base 42 1 (.slice (some ⟨g, 0, none⟩) n c) n ys ∧ BB w1.heap.size g w1 wr ∧ ys.take i = (xs.take j).filter kpV ∧ ∀ m, j ≤ m → ys[m]? = xs[m]?) (fun _ vj _ => n - (intOf vj).toNat)
    case atStart => exact ⟨i0, i0 + 1, rfl, by go_num, by omega, by omega, xs, hown1, BB.of (Below.refl _ _), hf0.symm, fun _ _ => rfl⟩
    case round =>
      obtain ⟨i, j, rfl, rfl, hij, hj, ys, hys, hbb, htk, hrest⟩ := hrel
      have hyl : ys.length = n := by have := hys.1; omega
      by_cases hjn : j < n
      · have hji : (j : Int) < (n : Int) := by omega
        obtain ⟨x, hx⟩ : ∃ x, xs[j]? = some x := ⟨_, List.getElem?_eq_getElem (by omega)⟩
        obtain ⟨B, m, d, rfl, hm⟩ := Hs.out x (List.mem_of_getElem? hx)
        have hc2 := (hys.cellAt j (by omega)).trans ((hrest j (Nat.le_refl _)).trans hx)
        have Htk : Hid (xs.take (j + 1) = xs.take j ++ [.slice B m d]) := by rw [Hid, List.take_add_one, hx, Option.toList_some]
        have Hcl := Lib.hid (few_any B m d wr hm)
        cases hkp : kpV (.slice B m d)
        · rw [hkp] at Hcl
          go_wp2_with fail
          refine Hcl.out.mono ?_
          rintro e w5 ⟨rfl, rfl⟩
          go_wp2_with fail
          go_roundw
          case rel => exact ⟨i, j + 1, rfl, by go_num, by omega, by omega, ys, hys, hbb, by rw [Htk.out, List.filter_append, htk, List.filter_cons, hkp]; simp, fun m hm => hrest m (by omega)⟩
          case measure => simp [intOf]; omega
        · rw [hkp] at Hcl
          have hii : (i : Int) < (n : Int) := by omega
          have hfr := hys.frozenAt i
          have hci : (w5' : World) → True := fun _ => trivial
          clear hci
          obtain ⟨y, hy⟩ : ∃ y, ys[i]? = some y := ⟨_, List.getElem?_eq_getElem (by omega)⟩
          have hcy := (hys.cellAt i (by omega)).trans hy
          have Hst := Lib.hid (hys.stored i (.slice B m d)).1
          have Hbb := Lib.hid (hbb.setT i (.slice B m d))
          clear hbb hys
          go_wp2_with fail
          refine Hcl.out.mono ?_
          rintro e w5 ⟨rfl, rfl⟩
          go_wp2_with fail
          go_roundw
          case rel => exact ⟨i + 1, j + 1, by go_num, by go_num, by omega, by omega, _, Hst.out, Hbb.out, by rw [Htk.out, List.filter_append, ← htk, List.filter_cons, hkp, List.take_add_one, List.take_set_of_le (Nat.le_refl _), List.getElem?_set_self (by omega)]; simp, fun m hm => by rw [List.getElem?_set_ne (by omega)]; exact hrest m (by omega)⟩
          case measure => simp [intOf]; omega
      · obtain rfl : j = n := by omega
        have hji : ¬ (j : Int) < (j : Int) := by omega
        rw [List.take_of_length_le (l := xs) (by omega)] at htk
        have hjc : j ≤ c := by
          rcases hys.2 with ⟨h9, _⟩ | ⟨g', cap, cur, h9, _, _, h3, _⟩
          · cases h9
          · cases h9; exact h3
        have hci : ¬ c = i := by omega
        have hclr := Lib.run_clear_slice (P := Try.prog) wr 25 42 0 (.slice none 0 0) Try.underlying25 (fun _ => Try.zeroValue42 _) rfl rfl g i (j - i) (c - i) (by omega) (fun q hq => by
          rw [hys.cellAt (i + q) (by omega), List.getElem?_eq_getElem (show i + q < ys.length by omega)]; rfl) (fun q hq => hys.frozenAt (i + q))
        have hfill := own_fill (.slice none 0 0) (j - i) i wr ys (by omega) hys
        have hown9 := own_take hfill (i := i) (by omega)
        rw [List.append_assoc, List.take_append_of_le_length (by rw [List.length_take]; omega), List.take_take, Nat.min_self, htk] at hown9
        have hfl : (xs.filter kpV).length = i := by rw [← htk, List.length_take]; omega
        have Hown9 := Lib.hid hown9
        have Hbb9 := Lib.hid (hbb.setCells (List.replicate (j - i) (.slice none 0 0)) i)
        clear hown9 hfill hbb hys
        go_wp2_with fail
        go_ret
        refine ⟨.slice (some ⟨g, 0, none⟩) i c, rfl, ?_, (hb1.mono hbase).trans (Hbb9.out.bel (by omega) hgl.1), (KI.below hb1).trans (KI.bbs Hbb9.out hown1)⟩
        exact Hown9.out
end Go.Proofs.Ytfaebmpdianniaa
