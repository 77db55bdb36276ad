/-
  The law GraphPairs.
-/
import Derived.Test.YtfaebmpdianniaaGPairM
namespace Go.Proofs.Ytfaebmpdianniaa
open Go Go.RowKit

set_option maxHeartbeats 1000000 in
/-- HasInt finds the place of a number, or says -1 -/
theorem hasIntP_any (A : Option Addr) (n cap : Nat) (l : List Int) (v : Int) (w : World) (h : IL w w.heap.size A n l) (hn : n ≤ 1000000) :
    Calls Try.prog 15 #[.slice A n cap, .int .i64 v] w fun e w' => ((v ∈ l ∧ ∃ k : Nat, e = .returned (.int .i64 k)) ∨ (v ∉ l ∧ e = .returned (.int .i64 (-1)))) ∧ Below w.heap.size w w' := by
  go_enter Try.func15, Try.ntmps15
  go_wp2_with fail
  go_loopw [5] (fun i wr => ∃ j : Nat, j ≤ n ∧ i = .int .i64 j ∧ v ∉ l.take j ∧ Below w.heap.size w wr) (fun i _ => n - (intOf i).toNat)
  case atStart => exact ⟨0, Nat.zero_le _, rfl, by simp, Below.refl _ _⟩
  case round =>
    obtain ⟨j, hj, rfl, hnot, hbr⟩ := hrel
    by_cases hlt : j < n
    · obtain ⟨b, off, x, rfl, hbl, hx, hx0⟩ := (h.below hbr).at_ hlt
      have hji : (j : Int) < (n : Int) := by omega
      by_cases hxv : x = v
      · subst hxv
        have hin : x ∈ l := List.mem_of_getElem? hx
        go_wp2_with fail
        go_ret
        exact ⟨.inl ⟨hin, j, rfl⟩, hbr⟩
      · have hst : v ∉ l.take (j + 1) := by
          rw [take_snoc hx, List.mem_append, List.mem_singleton]
          rintro (h9 | h9)
          · exact hnot h9
          · exact hxv h9.symm
        have Hst := Lib.hid hst
        clear hst hnot
        go_wp2_with fail
        go_roundw
        case rel => exact ⟨j + 1, by omega, by go_num, Hst.out, hbr⟩
        case measure => simp [intOf]; omega
    · obtain rfl : j = n := by omega
      rw [List.take_of_length_le (by have := h.1; omega)] at hnot
      go_wp2_with fail
      go_ret
      exact ⟨.inr ⟨hnot, rfl⟩, hbr⟩

theorem heavyB_lenP {v most : Int} {cs : List LCn} (h : heavyB v most cs = false) : (cs.length : Int) ≤ most := by
  unfold heavyB at h
  rw [Bool.or_eq_false_iff, Bool.or_eq_false_iff] at h
  have := of_decide_eq_false h.1.2
  omega
/-- both are in one of these -/
def bothB (f t : Nat) (ls : List (List Nat)) : Bool := ls.any fun l => decide (f ∈ l ∧ t ∈ l)
theorem bothB_iff {f t : Nat} {ls : List (List Nat)} : bothB f t ls = true ↔ ∃ l ∈ ls, f ∈ l ∧ t ∈ l := by simp [bothB]
theorem bothB_snoc {f t : Nat} {ls : List (List Nat)} {l : List Nat} : bothB f t (ls ++ [l]) = (bothB f t ls || decide (f ∈ l ∧ t ∈ l)) := by simp [bothB]
theorem castN_mem {x : Nat} {l : List Nat} : (x : Int) ∈ castN l ↔ x ∈ l := by
  unfold castN
  rw [List.mem_map]
  constructor
  · rintro ⟨y, hy, e⟩
    obtain rfl : y = x := Int.ofNat.inj e
    exact hy
  · intro h; exact ⟨x, h, rfl⟩

set_option maxRecDepth 100000 in
set_option maxHeartbeats 8000000 in
theorem lawPairs_any (v : Int) (A : Option Addr) (K cap : Nat) (cs : List LCn) (f t : Int) (w : World) (h : CL w w.heap.size A K cs) (hK : K ≤ 9223372036854775807) :
    Calls Try.prog 4 #[.int .i64 v, .slice A K cap, .agg #[.int .i64 f, .int .i64 t]] w fun e w' => e = .returned (.bool true) ∧ Below w.heap.size w w' := by
  have hX : Below (w.heap.size + 1) (w.alloc (.cells #[.int .i64 f, .int .i64 t] 32)) (w.alloc (.cells #[.int .i64 f, .int .i64 t] 32)) := Below.refl _ _
  obtain ⟨g0, g1, hX0, _⟩ := boxE hX
  have hXs : (w.alloc (.cells #[.int .i64 f, .int .i64 t] 32)).heap.size = w.heap.size + 1 := by simp
  have hb1q : ∀ q, Below w.heap.size w ((w.alloc (.cells #[.int .i64 f, .int .i64 t] 32)).drewN q) := fun q => below_drewN hX0 q
  by_cases hcond : heavyB v 40 cs = false ∧ 0 ≤ f ∧ 0 ≤ t ∧ f < v ∧ t < v ∧ f ≠ t
  · obtain ⟨c0, c1, c2, c3, c4, c5⟩ := hcond
    obtain ⟨n, rfl⟩ : ∃ n : Nat, v = n := ⟨v.toNat, by omega⟩
    obtain ⟨f', rfl⟩ : ∃ f' : Nat, f = f' := ⟨f.toNat, by omega⟩
    obtain ⟨t', rfl⟩ : ∃ t' : Nat, t = t' := ⟨t.toNat, by omega⟩
    have hne : f' ≠ t' := by omega
    have hfn : f' < n := by omega
    have htn : t' < n := by omega
    have d1 : ¬ (f' : Int) < 0 := by omega
    have d2 : ¬ (t' : Int) < 0 := by omega
    have d3 : ¬ (n : Int) ≤ (f' : Int) := by omega
    have d4 : ¬ (n : Int) ≤ (t' : Int) := by omega
    have d5 : ((f' : Int) == (t' : Int)) = false := by rw [beq_eq_false_iff_ne]; omega
    have d6 : ¬ (f' : Int) = (t' : Int) := by omega
    have x1 : decide ((f' : Int) < 0) = false := decide_eq_false d1
    have x2 : decide ((t' : Int) < 0) = false := decide_eq_false d2
    have x3 : decide (n ≤ f') = false := decide_eq_false (by omega)
    have x4 : decide (n ≤ t') = false := decide_eq_false (by omega)
    have hlen := heavyB_lenP c0
    have hKl : cs.length = K := h.1
    clear c1 c2 c3 c4 c5
    go_enter Try.func4, Try.ntmps4
    generalize hXe : w.alloc (.cells #[.int .i64 f', .int .i64 t'] 32) = X at *
    go_wp2_with fail
    go_quiet (fail)
    have hb1 := hb1q nq
    have Hhv := Lib.hid (heavy_any n 40 A K cap cs (X.drewN nq) (h.lift hb1) hK)
    rw [c0] at Hhv
    have Hcl := Lib.hid (classes_any n A K cap cs (X.drewN nq) (h.lift hb1) hK)
    clear g0 g1 hX0 hX hXs hXe
    generalize X.drewN nq = w1 at *
    go_wp2_with fail
    refine Hhv.out.mono ?_
    rintro e w2 ⟨rfl, rfl⟩
    go_wp2_with fail
    refine Hcl.out.mono ?_
    rintro e w3 ⟨hb3, hp⟩
    have hb13 := hb1.trans (hb3.mono hb1.size)
    clear Hhv Hcl
    rcases hp with ⟨hg, rfl⟩ | ⟨hg, n', hn', ⟨rfl, _⟩ | ⟨u, xs, rfl, ho, hks, _⟩⟩
    · go_wp2_with fail
      refine (awake_any _).mono ?_
      rintro e w4 ⟨rfl, hb4⟩
      go_wp2_with fail
      go_ret
      exact ⟨rfl, hb13.trans (hb4.mono hb13.size)⟩
    · go_wp2_with fail
      refine (awake_any _).mono ?_
      rintro e w4 ⟨rfl, hb4⟩
      go_wp2_with fail
      go_ret
      exact ⟨rfl, hb13.trans (hb4.mono hb13.size)⟩
    · obtain rfl : n = n' := by omega
      obtain ⟨n'', hn'', hn2, _, _⟩ := gvld_parts hg
      have hn12 : n ≤ 1200 := by omega
      have hLL := LL.of_own ho hks
      have hll : ∀ l ∈ cls (eqN (esA n cs)) n n, l.length ≤ n := fun l hl => by
        unfold cls at hl
        obtain ⟨u, _, rfl⟩ := List.mem_map.1 hl
        exact mem1_len _ _ _
      have hlm : (cls (eqN (esA n cs)) n n).length ≤ n := cls_len _ _ _
      obtain ⟨p1, o1⟩ := pair_fol hg (by omega) hn12 hfn htn
      obtain ⟨p2, o2⟩ := pair_fol hg (by omega) hn12 htn hfn
      have hpe := fun (b : Bool) hb => pair_eq (b := b) hfn htn hne hb p1 p2
      have Hpe := Lib.hid hpe
      have Hll := Lib.hid hll
      have hCL := h.lift hb13
      have kA := Lib.hid (kA_of w3 f' 0)
      have kB := Lib.hid (kB_of w3 f' 0 t' 0)
      have kF := Lib.hid (kF_of (c' := cap) hCL (by omega) ⟨rfl, o1⟩)
      have kA2 := Lib.hid (kA_of w3 t' 0)
      have kB2 := Lib.hid (kB_of w3 t' 0 f' 0)
      have kF2 := Lib.hid (kF_of (c' := cap) hCL (by omega) ⟨rfl, o2⟩)
      clear p1 p2 o1 o2 hpe hll ho hks hCL hn'' hn'
      generalize cls (eqN (esA n cs)) n n = ls at *
      obtain ⟨A5, c5, rfl, hLL⟩ := hLL
      generalize folV (n : Int) cs (lnk f' 0 t') = r1 at *
      generalize folV (n : Int) cs (lnk t' 0 f') = r2 at *
      generalize hml : ls.length = m at *
      go_wp2_with fail
      refine (kA.out _ (Below.refl _ _)).mono ?_
      rintro e wa ⟨q1, rfl, hq1, hza⟩
      go_wp2_with fail
      refine (kB.out _ _ hza hq1).mono ?_
      rintro e wb ⟨q2, rfl, hq1', hq2, hzb⟩
      go_wp2_with fail
      refine (kF.out _ _ _ hzb hq1' hq2).mono ?_
      rintro e wc ⟨rfl, hzc⟩
      clear hza hq1 hzb hq1' hq2
      go_wp2_with fail
      refine (kA2.out _ hzc).mono ?_
      rintro e wd ⟨q3, rfl, hq1, hza⟩
      go_wp2_with fail
      refine (kB2.out _ _ hza hq1).mono ?_
      rintro e we ⟨q4, rfl, hq1', hq2, hzb⟩
      go_wp2_with fail
      refine (kF2.out _ _ _ hzb hq1' hq2).mono ?_
      rintro e wf ⟨rfl, hzf⟩
      clear hza hq1 hzb hq1' hq2 hzc kA kB kF kA2 kB2 kF2
      go_wp2_with fail
      go_loopw [15, 16] (fun q i wx => ∃ j : Nat, j ≤ m ∧ i = .int .i64 j ∧ q = .bool (bothB f' t' (ls.take j)) ∧ Below w3.heap.size w3 wx) (fun _ i _ => m - (intOf i).toNat)
      case atStart => exact ⟨0, Nat.zero_le _, rfl, rfl, hzf⟩
      case round =>
        obtain ⟨j, hj, rfl, rfl, hbr⟩ := hrel
        by_cases hjm : j < m
        · have hji : (j : Int) < (m : Int) := by omega
          obtain ⟨b, rfl, hbl, hrows⟩ := hLL (by omega)
          obtain ⟨l, hl⟩ : ∃ l, ls[j]? = some l := ⟨_, List.getElem?_eq_getElem (by omega)⟩
          obtain ⟨x, hx, hkr⟩ := hrows j l hl
          obtain ⟨bq, cq, rfl, hbq, hIL⟩ := hkr.il
          have hcx := (hbr.cell (p := ⟨b, j, none⟩) hbl).trans hx
          have hln : l.length ≤ 1000000 := by have := Hll.out l (List.mem_of_getElem? hl); omega
          have Hst : Hid (bothB f' t' (ls.take (j + 1)) = (bothB f' t' (ls.take j) || decide (f' ∈ l ∧ t' ∈ l))) := by
            rw [Hid, List.take_add_one, hl, Option.toList_some, bothB_snoc]
          have HIL := Lib.hid hIL
          clear hIL hkr hrows hx hl
          have Hf := Lib.hid fun (W : World) (hW : Below w3.heap.size w3 W) => hasIntP_any (some ⟨bq, 0, none⟩) l.length cq (castN l) (f' : Int) W (HIL.out.lift hW) hln
          have Ht := Lib.hid fun (W : World) (hW : Below w3.heap.size w3 W) => hasIntP_any (some ⟨bq, 0, none⟩) l.length cq (castN l) (t' : Int) W (HIL.out.lift hW) hln
          cases hbo : bothB f' t' (ls.take j)
          · rw [hbo] at Hst
            go_wp2_with fail
            refine (Hf.out _ hbr).mono ?_
            rintro e w5 ⟨⟨hin, k, rfl⟩ | ⟨hin, rfl⟩, hb5⟩
            · have hk0 : (0 : Int) ≤ (k : Int) := by omega
              have hb35 := hbr.trans (hb5.mono hbr.size)
              have hcx5 := (hb5.cell (p := ⟨b, j, none⟩) (Nat.lt_of_lt_of_le hbl hbr.size)).trans hcx
              go_wp2_with fail
              refine (Ht.out _ hb35).mono ?_
              rintro e w6 ⟨⟨hin2, k2, rfl⟩ | ⟨hin2, rfl⟩, hb6⟩
              · have hk2 : (0 : Int) ≤ (k2 : Int) := by omega
                have hb36 := hb35.trans (hb6.mono hb35.size)
                have hd : decide (f' ∈ l ∧ t' ∈ l) = true := decide_eq_true ⟨castN_mem.1 hin, castN_mem.1 hin2⟩
                rw [hd] at Hst
                clear hd
                go_wp2_with fail
                go_roundw
                case rel => exact ⟨j + 1, by omega, by go_num, by rw [Hst.out]; rfl, hb36⟩
                case measure => simp [intOf]; omega
              · have hb36 := hb35.trans (hb6.mono hb35.size)
                have hd : decide (f' ∈ l ∧ t' ∈ l) = false := decide_eq_false fun h9 => hin2 (castN_mem.2 h9.2)
                rw [hd] at Hst
                clear hd
                go_wp2_with fail
                go_roundw
                case rel => exact ⟨j + 1, by omega, by go_num, by rw [Hst.out]; rfl, hb36⟩
                case measure => simp [intOf]; omega
            · have hb35 := hbr.trans (hb5.mono hbr.size)
              have hd : decide (f' ∈ l ∧ t' ∈ l) = false := decide_eq_false fun h9 => hin (castN_mem.2 h9.1)
              rw [hd] at Hst
              clear hd
              go_wp2_with fail
              go_roundw
              case rel => exact ⟨j + 1, by omega, by go_num, by rw [Hst.out]; rfl, hb35⟩
              case measure => simp [intOf]; omega
          · rw [hbo] at Hst
            go_wp2_with fail
            go_roundw
            case rel => exact ⟨j + 1, by omega, by go_num, by rw [Hst.out]; rfl, hbr⟩
            case measure => simp [intOf]; omega
        · obtain rfl : j = m := by omega
          have hji : ¬ (j : Int) < (j : Int) := by omega
          have hfin := Hpe.out (bothB f' t' (ls.take j)) (by rw [List.take_of_length_le (by omega)]; exact bothB_iff)
          rw [hfin]
          have hb1r := hb13.trans (hbr.mono hb13.size)
          clear hfin Hpe
          cases r1 <;> cases r2
          all_goals
            go_wp2_with fail
            refine (awake_any _).mono ?_
            rintro e w4 ⟨rfl, hb4⟩
            go_wp2_with fail
            go_ret
            exact ⟨rfl, hb1r.trans (hb4.mono hb1r.size)⟩
  · have hno : heavyB v 40 cs = true ∨ heavyB v 40 cs = false ∧ (f < 0 ∨ ¬ f < 0 ∧ (t < 0 ∨ ¬ t < 0 ∧ (v ≤ f ∨ ¬ v ≤ f ∧ (v ≤ t ∨ ¬ v ≤ t ∧ f = t)))) := by
      cases hb : heavyB v 40 cs
      · exact .inr ⟨rfl, by
          by_cases k1 : f < 0
          · exact .inl k1
          by_cases k2 : t < 0
          · exact .inr ⟨k1, .inl k2⟩
          by_cases k3 : v ≤ f
          · exact .inr ⟨k1, .inr ⟨k2, .inl k3⟩⟩
          by_cases k4 : v ≤ t
          · exact .inr ⟨k1, .inr ⟨k2, .inr ⟨k3, .inl k4⟩⟩⟩
          by_cases k5 : f = t
          · exact .inr ⟨k1, .inr ⟨k2, .inr ⟨k3, .inr ⟨k4, k5⟩⟩⟩⟩
          exact absurd ⟨hb, by omega, by omega, by omega, by omega, k5⟩ hcond⟩
      · exact .inl rfl
    have Hhq := Lib.hid fun q => heavy_any v 40 A K cap cs _ (h.lift (hb1q q)) hK
    clear hcond hX hXs hX0
    rcases hno with c1 | ⟨c0, c1 | ⟨c1, c2 | ⟨c2, c3 | ⟨c3, c4 | ⟨c4, rfl⟩⟩⟩⟩⟩
    all_goals
      first | rw [c1] at Hhq | rw [c0] at Hhq
      go_enter Try.func4, Try.ntmps4
      generalize hXe : w.alloc (.cells #[.int .i64 _, .int .i64 _] 32) = X at *
      go_wp2_with fail
      go_quiet (fail)
      have hb1 := hb1q nq
      have Hhv := Lib.hid (Hhq.out nq)
      clear Hhq
      generalize X.drewN nq = w1 at *
      go_wp2_with fail
      refine Hhv.out.mono ?_
      rintro e w2 ⟨rfl, rfl⟩
      go_wp2_with fail
      refine (awake_any _).mono ?_
      rintro e w4 ⟨rfl, hb4⟩
      go_wp2_with fail
      go_ret
      exact ⟨rfl, hb1.trans (hb4.mono hb1.size)⟩
end Go.Proofs.Ytfaebmpdianniaa
