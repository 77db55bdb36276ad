/-
  The law GraphChains.
-/
import Derived.Test.YtklnjaafdjhkfaaGChainW
namespace Go.Proofs.Ytklnjaafdjhkfaa
open Go Go.RowKit

theorem boxE {w wx : World} {f t : Int} (h : Below (w.heap.size + 1) (w.alloc (.cells #[.int .i64 f, .int .i64 t] 24)) wx) :
    wx.cell? ⟨w.heap.size, 0, none⟩ = some (.int .i64 f) ∧ wx.cell? ⟨w.heap.size, 1, none⟩ = some (.int .i64 t) ∧ Below w.heap.size w wx ∧ w.heap.size + 1 ≤ wx.heap.size := by
  have hs := h.size
  simp at hs
  exact ⟨(h.cell (p := ⟨w.heap.size, 0, none⟩) (by simp)).trans (by simp), (h.cell (p := ⟨w.heap.size, 1, none⟩) (by simp)).trans (by simp), back0 h, hs⟩
theorem made_zeros (n : Nat) : (madeCells #[Value.int .i64 0] n).toList = int1 (List.replicate n 0) := by
  refine List.ext_getElem? fun j => ?_
  by_cases hj : j < n
  · simp [madeCells, int1, hj, Nat.mod_one]
  · rw [List.getElem?_eq_none (by simp [madeCells]; omega), List.getElem?_eq_none (by simp [int1]; omega)]

theorem kA_of (wc : World) (x d : Int) : ∀ W, Below wc.heap.size wc W → Calls Try.prog 5 #[.int .i64 x, .int .i64 d] W fun e w' => ∃ q, e = .returned (.agg #[.int .i64 0, .slice (some ⟨q, 0, none⟩) 1 1]) ∧ w'.heap[q]? = some (.cells #[.int .i64 x, .int .i64 d] 41) ∧ Below wc.heap.size wc w' := fun W hW =>
  (at_heap x d W).mono fun _ _ ⟨q, h1, h2, h3⟩ => ⟨q, h1, h2, hW.trans (h3.mono hW.size)⟩
theorem kB_of (wc : World) (x d y z : Int) : ∀ (W : World) (q1 : Nat), Below wc.heap.size wc W → W.heap[q1]? = some (.cells #[.int .i64 x, .int .i64 d] 41) → Calls Try.prog 5 #[.int .i64 y, .int .i64 z] W fun e w' => ∃ q, e = .returned (.agg #[.int .i64 0, .slice (some ⟨q, 0, none⟩) 1 1]) ∧ w'.heap[q1]? = some (.cells #[.int .i64 x, .int .i64 d] 41) ∧ w'.heap[q]? = some (.cells #[.int .i64 y, .int .i64 z] 41) ∧ Below wc.heap.size wc w' := fun W _ hW hq =>
  (at_heap y z W).mono fun _ _ ⟨q, h1, h2, h3⟩ => ⟨q, h1, KV.below h3 _ _ hq, h2, hW.trans (h3.mono hW.size)⟩
theorem kF_of {wc : World} {A' : Option Addr} {j c' n : Nat} {cs : List LCn} (h : CL wc wc.heap.size A' j cs) (hj : j ≤ 100000) {x d y : Int} {r : Bool} (hf : folV (n : Int) cs (lnk x d y) = r ∧ folC (n : Int) cs (lnk x d y) = 0) : ∀ (W : World) (q1 q2 : Nat), Below wc.heap.size wc W → W.heap[q1]? = some (.cells #[.int .i64 x, .int .i64 d] 41) → W.heap[q2]? = some (.cells #[.int .i64 y, .int .i64 0] 41) →
    Calls Try.prog 8 #[.int .i64 n, .slice A' j c', .agg #[.int .i64 0, .slice (some ⟨q1, 0, none⟩) 1 1, .int .i64 0, .slice (some ⟨q2, 0, none⟩) 1 1]] W fun e w' => e = .returned (.tuple #[.bool r, .int .i64 0]) ∧ Below wc.heap.size wc w' := fun W q1 q2 hW h1 h2 => by
  have hF := follows_any n A' j c' cs (lnk x d y) (some ⟨q1, 0, none⟩) 1 1 (some ⟨q2, 0, none⟩) 1 1 W (h.lift hW) hj (pl_heap h1) (pl_heap h2) (by omega) (by omega) (by omega) (by omega)
  rw [hf.1, hf.2] at hF
  exact hF.mono fun _ _ ⟨h3, h4⟩ => ⟨h3, hW.trans (h4.mono hW.size)⟩

set_option maxRecDepth 100000 in
set_option maxHeartbeats 8000000 in
theorem lawChains_any (v : Int) (A : Option Addr) (K cap : Nat) (l : List Int) (f t : Int) (w : World) (h : IL w w.heap.size A K l) (hK : K ≤ 9223372036854775807) :
    Calls Try.prog 3 #[.int .i64 v, .slice A K cap, .agg #[.int .i64 f, .int .i64 t]] w fun e w' => e = .returned (.bool true) ∧ Below w.heap.size w w' := by
  have hX : Below (w.heap.size + 1) (w.alloc (.cells #[.int .i64 f, .int .i64 t] 24)) (w.alloc (.cells #[.int .i64 f, .int .i64 t] 24)) := Below.refl _ _
  obtain ⟨g0, g1, hX0, _⟩ := boxE hX
  have HB : Hid (∀ wx, Below (w.heap.size + 1) (w.alloc (.cells #[.int .i64 f, .int .i64 t] 24)) wx → wx.cell? ⟨w.heap.size, 0, none⟩ = some (.int .i64 f) ∧ wx.cell? ⟨w.heap.size, 1, none⟩ = some (.int .i64 t) ∧ Below w.heap.size w wx ∧ w.heap.size + 1 ≤ wx.heap.size) := fun wx hwx => boxE hwx
  have hXs : (w.alloc (.cells #[.int .i64 f, .int .i64 t] 24)).heap.size = w.heap.size + 1 := by simp
  rw [← hXs] at HB hX
  by_cases hcond : 2 ≤ v ∧ v ≤ 1200 ∧ K ≤ 2000 ∧ 0 ≤ f ∧ t < v ∧ f < t
  · obtain ⟨c1, c2, c3, c4, c5, c6⟩ := hcond
    obtain ⟨n, rfl⟩ : ∃ n : Nat, v = n := ⟨v.toNat, by omega⟩
    obtain ⟨f', rfl⟩ : ∃ f' : Nat, f = f' := ⟨f.toNat, by omega⟩
    obtain ⟨t', rfl⟩ : ∃ t' : Nat, t = t' := ⟨t.toNat, by omega⟩
    have d1 : ¬ (n : Int) < 2 := by omega
    have d2 : ¬ (1200 : Int) < (n : Int) := by omega
    have d3 : ¬ (2000 : Int) < (K : Int) := by omega
    have d4 : ¬ (f' : Int) < 0 := by omega
    have d5 : ¬ (n : Int) ≤ (t' : Int) := by omega
    have d6 : ¬ (t' : Int) ≤ (f' : Int) := by omega
    have d7 : f' < t' := by omega
    have d8 : t' < n := by omega
    obtain ⟨i0, hi, hz0, hz1, hz2⟩ := info_parts infoC
    obtain ⟨j0, hj, hy0, hy1, hy2⟩ := info_parts infoI
    have hn : n ≤ 1200 := by omega
    have hlen : l.length = K := h.1
    have Hlen := Lib.hid hlen
    clear c1 c2 c4 c5 c6 hlen
    go_enter Try.func3, Try.ntmps3
    generalize hXe : w.alloc (.cells #[.int .i64 f', .int .i64 t'] 24) = X at *
    have hXw : w.heap.size + 1 ≤ X.heap.size := by omega
    go_wp2_with (refine wpList_make_full _ rfl (.tmp 48) (.tmp 48) 22 rfl X.heap.size 3 j0 (.int .i64 0) 1 Try.underlying22 hj hy0 hy1 .i64 .i64 n n n rfl rfl rfl rfl (by rw [hy2]; omega) (by unfold maxLen; omega) (Nat.le_refl _) ?_)
    intro w2 hown2 hgrow2
    have hb2 : Below X.heap.size X w2 := (Below.refl _ X).grown hgrow2 (Nat.le_refl _) (fun j hj => by cases hj)
    have hown2' : w2.ownsRow X.heap.size 3 1 (.slice (some ⟨X.heap.size, 0, none⟩) n n) n (int1 (sumT l n 0)) := by
      rw [sumT_zero, ← made_zeros, hXs]; exact hown2
    rw [hXs] at HB hX hb2 hown2' hXw
    clear hown2 hgrow2 g0 g1 hXe hX0
    have hXg := hXs
    clear hXs
    generalize hg : w.heap.size + 1 = g at *
    go_wp2_with fail
    go_loopw [7, 9] (fun tl i wr => ∃ j : Nat, j + 1 ≤ n ∧ i = .int .i64 j ∧ ∃ (A' : Option Addr) (n' c' : Nat) (xs : List Value), tl = .slice A' n' c' ∧ wr.ownsRow g 32 4 (.slice A' n' c') j xs ∧ wr.ownsRow g 3 1 (.slice (some ⟨g, 0, none⟩) n n) n (int1 (sumT l n j)) ∧ LV wr xs l j ∧ Below g X wr) (fun _ i _ => n - (intOf i).toNat)
    case atStart => exact ⟨0, by omega, rfl, none, 0, 0, [], rfl, World.ownsRow_nil _ _ _ _, hown2', LV.nil _ _, hb2⟩
    case round =>
      clear hown2' hb2
      obtain ⟨j, hj1, rfl, A', n', c', xs, rfl, hown, hsum, hLV, hbr⟩ := hrel
      obtain ⟨x0, x1, hbw, hsw⟩ := HB.out wr hbr
      by_cases hlt : j + 1 < n
      · have hji : (j : Int) + 1 < (n : Int) := by omega
        go_upto_region 9 with fail
        go_cut [73] (fun b wx => b = .bool (inB l j) ∧ wx = wr)
        case first =>
          by_cases hjK : j < K
          · obtain ⟨b, off, x, rfl, hbl, hx, hx0⟩ := (h.below hbw).at_ hjK
            have Hin := Lib.hid (inB_at hx)
            by_cases hx1 : 0 ≤ x
            · by_cases hx2 : x ≤ 1000
              · go_wp2_with fail
                go_meet
                exact ⟨by rw [Hin.out, decide_eq_true (by omega)], rfl⟩
              · go_wp2_with fail
                go_meet
                exact ⟨by rw [Hin.out, decide_eq_false (by omega)], rfl⟩
            · go_wp2_with fail
              go_meet
              exact ⟨by rw [Hin.out, decide_eq_false (by omega)], rfl⟩
          · have Hin : Hid (inB l j = false) := by
              unfold Hid inB
              rw [List.getElem?_eq_none (by have := Hlen.out; omega)]
            go_wp2_with fail
            go_meet
            exact ⟨by rw [Hin.out], rfl⟩
        case rest =>
          obtain ⟨rfl, rfl⟩ := hcut
          go_upto_if 73 with fail
          go_cut [10] (fun tv wx => tv = .int .i64 (stp l j) ∧ wx = wc)
          case first =>
            cases hin : inB l j
            · have Hs := Lib.hid (inB_no hin)
              go_wp2_with fail
              go_meet
              exact ⟨by rw [Hs.out], rfl⟩
            · obtain ⟨x, hx, hs⟩ := inB_yes hin
              have Hs := Lib.hid hs
              have hjK : j < K := by have := (List.getElem?_eq_some_iff.1 hx).1; have := Hlen.out; omega
              obtain ⟨b, off, y, rfl, hbl, hy, hy0⟩ := (h.below hbw).at_ hjK
              obtain rfl : x = y := Option.some.inj (hx.symm.trans hy)
              clear hs
              go_wp2_with fail
              go_meet
              exact ⟨by rw [Hs.out], rfl⟩
          case rest =>
            obtain ⟨rfl, rfl⟩ := hcut
            have Hset := Lib.hid (sumT_set (l := l) (n := n) (j := j))
            have Hs0 := Lib.hid (sumT_at (l := l) (n := n) (j := j) (v := j) (by omega) (Nat.le_refl _))
            have Hs1 := Lib.hid (sumT_above (l := l) (n := n) (j := j) (v := j + 1) (by omega) (by omega))
            have HLs := Lib.hid (fun (W : World) ys q1 q2 => LV.snoc (w := W) (xs := ys) (l := l) (j := j) (q1 := q1) (q2 := q2))
            have b1 := suF_nn l j
            have b2 := suF_le l j
            have b3 := stp_ok l j
            generalize stp l j = d at *
            generalize suF l j = s at *
            have HA1 := Lib.hid (at_heap j d wc)
            go_wp2_with fail
            refine HA1.out.mono ?_
            rintro e w3 ⟨q1, rfl, hq1, hb3⟩
            have HA2 := Lib.hid (at_heap ((j : Int) + 1) 0 w3)
            go_wp2_with fail
            refine HA2.out.mono ?_
            rintro e w4 ⟨q2, rfl, hq2, hb4⟩
            have hb34 := hb3.trans (hb4.mono hb3.size)
            have hb5 : Below wc.heap.size wc (w4.alloc (.cells #[.int .i64 0, .slice (some ⟨q1, 0, none⟩) 1 1, .int .i64 0, .slice (some ⟨q2, 0, none⟩) 1 1] 32)) := hb34.alloc hb34.size _
            have k45 : KV w4 (w4.alloc (.cells #[.int .i64 0, .slice (some ⟨q1, 0, none⟩) 1 1, .int .i64 0, .slice (some ⟨q2, 0, none⟩) 1 1] 32)) := KV.below ((Below.refl _ w4).alloc (Nat.le_refl _) _)
            have hown5 := own_below hown hb5
            have hsum5 := own_below hsum hb5
            have hLV5 := hLV.keep (KV.below hb5)
            have hq15 := k45 _ _ (KV.below hb4 _ _ hq1)
            have hq25 := k45 _ _ hq2
            have hbr5 := hbr.trans (hb5.mono hsw)
            have hone : ∀ u ∈ [Value.int .i64 0, .slice (some ⟨q1, 0, none⟩) 1 1, .int .i64 0, .slice (some ⟨q2, 0, none⟩) 1 1], u.oneCell' = true := by simp [Value.oneCell']
            have hszg : g ≤ w4.heap.size := Nat.le_trans hsw hb34.size
            clear hown hsum hLV k45
            go_wp2_with (at_builtin; refine wpList_append_own _ rfl _ _ 26 rfl g 32 i0 (.agg #[.int .i64 0, .slice none 0 0, .int .i64 0, .slice none 0 0]) 4 64 Try.underlying26 hi hz0 hz1 hz2 rfl (by decide) _ j xs rfl hown5 _ 1 1 [.int .i64 0, .slice (some ⟨q1, 0, none⟩) 1 1, .int .i64 0, .slice (some ⟨q2, 0, none⟩) 1 1] rfl rfl (news4c rfl) hone (by unfold maxLen; omega) (by omega) (by simp; omega) ?_)
            intro v6 w6 hown6 hgrow6 _
            have k56 := KV.grown hown5 hgrow6
            have hsum6 := sum_grown hsum5 hown5 hgrow6
            have hLV6 := HLs.out w6 xs q1 q2 (hLV5.keep k56) (k56 _ _ hq15) (k56 _ _ hq25)
            have hb6 : Below g X w6 := hbr5.grown hgrow6 (by simp; omega) (fun j hj => (hown5.lt j hj).1)
            obtain ⟨A7, c7, rfl, _, _, _⟩ := CL.of_own hown6 hLV6.cv (Nat.le_refl _)
            obtain ⟨e0, _⟩ := own_cell hsum6 Hs0.out
            obtain ⟨e1, f1⟩ := own_cell hsum6 Hs1.out
            have hsum7 := own_store hsum6 (j + 1) (s + d)
            rw [Hset.out] at hsum7
            have hown7 := own_other hown6 (rows_apart hsum6 hown6) (j + 1) (.int .i64 (s + d))
            have hLV7 := hLV6.keep (KV.setCell hsum6 (j + 1) (.int .i64 (s + d)))
            have hb7 : Below g X (w6.setCell ⟨g, j + 1, none⟩ (.int .i64 (s + d))) := hb6.setCell (Nat.le_refl _) _
            have hsd : IntKind.i64.wrap (s + d) = s + d := by rw [IntKind.wrap_i64]; omega
            clear hown5 hsum5 hLV5 hq15 hq25 k56 hsum6 hown6 hLV6
            go_wp2_with fail
            go_roundw
            case rel => exact ⟨j + 1, by omega, by go_num, A7, _, c7, _, rfl, hown7, hsum7, hLV7, hb7⟩
            case measure => simp [intOf]; omega
      · have hji : ¬ (j : Int) + 1 < (n : Int) := by omega
        have hjn : n - 1 = j := by omega
        have hgv : gvld (n : Int) (chS l j) = true := by rw [← hjn]; exact chS_gvld l (by omega) hn
        have Hgv := Lib.hid hgv
        have hsat : Hid (∃ y, Sat (fun e => e ∈ esA n (chS l j)) y) := ⟨suN l n, by rw [← hjn]; exact suN_sat l n⟩
        have hsol : Hid (∀ ys, Lst (fun e => e ∈ esA n (chS l j)) (gx ys) → solL n ys = sums l n) := fun ys hy => ch_sol (by rw [hjn]; exact hy)
        have hyes : Hid (∀ d : Int, 0 ≤ d → d ≤ 1000 → d ≤ suF l t' - suF l f' → folV (n : Int) (chS l j) (lnk f' d t') = true ∧ folC (n : Int) (chS l j) (lnk f' d t') = 0) := fun d h0 h1 h2 => by
          have hok := ch_ok (l := l) (n := n) (f := f') (t := t') (d := d) (by omega) hn d7 d8 ⟨h0, h1⟩
          rw [hjn] at hok
          obtain ⟨e1, e2⟩ := folOk_true hok
          refine ⟨?_, e2⟩
          rw [e1, Int.toNat_natCast, ← hjn]
          exact ch_yes d7 d8 h2
        have hno : Hid (∀ d : Int, 0 ≤ d → d ≤ 1000 → suF l t' - suF l f' < d → folV (n : Int) (chS l j) (lnk f' d t') = false ∧ folC (n : Int) (chS l j) (lnk f' d t') = 0) := fun d h0 h1 h2 => by
          have hok := ch_ok (l := l) (n := n) (f := f') (t := t') (d := d) (by omega) hn d7 d8 ⟨h0, h1⟩
          rw [hjn] at hok
          obtain ⟨e1, e2⟩ := folOk_true hok
          refine ⟨?_, e2⟩
          rw [e1, Int.toNat_natCast, ← hjn]
          exact ch_no d7 d8 h2
        have hst := sumT_all (l := l) (n := n) (j := j) (by omega)
        rw [hst] at hsum
        obtain ⟨B1, k1, he, hCL, _, hk1⟩ := CL.of_own hown hLV.cv (Nat.le_refl _)
        cases he
        have hIs := own_il hsum (own_lt hsum).2
        have HS := Lib.hid (solve_any n A' j c' (chS l j) wr hCL (by omega))
        have Hs0 := Lib.hid (sums_at (l := l) (n := n) (v := f') (by omega))
        have Hs1 := Lib.hid (sums_at (l := l) (n := n) (v := t') d8)
        have b1 := suF_nn l f'
        have b2 := suF_mono l (Nat.le_of_lt d7)
        have b3 := suF_le l t'
        have b4 : (t' : Int) ≤ 1200 := by omega
        clear hgv hst hown hLV
        generalize chS l j = cs at *
        generalize suF l t' = a at *
        generalize suF l f' = b at *
        generalize hSu : sums l n = su at *
        clear hSu
        go_wp2_with fail
        with_reducible refine HS.out.mono ?_
        rintro e w3 ⟨hb3, hr3⟩
        have Hr3 := Lib.hid hr3
        clear hr3
        have hq3 : ∃ A3 c3, e = .returned (.tuple #[.slice A3 n c3, .int .i64 0]) ∧ IL w3 w3.heap.size A3 n su := by
          rcases Hr3.out with ⟨h9, _⟩ | ⟨_, m, hm, ⟨_, hno9⟩ | ⟨u3, ys, he3, hown3, hL3⟩⟩
          · exact absurd h9 (by rw [Hgv.out]; simp)
          · obtain rfl : n = m := by omega
            obtain ⟨y, hy⟩ := hsat.out
            exact (hno9 y hy).elim
          · obtain rfl : n = m := by omega
            rw [hsol.out _ hL3] at hown3
            obtain ⟨A3, c3, rfl, hI3⟩ := il_own hown3
            exact ⟨A3, c3, he3, hI3⟩
        obtain ⟨A3, c3, rfl, hI3⟩ := hq3
        have HQ := Lib.hid (eqInts_true A3 n c3 (some ⟨g, 0, none⟩) n su w3 hI3 (hIs.lift hb3) (by omega))
        clear hI3 hIs Hr3
        go_wp2_with fail
        with_reducible refine HQ.out.mono ?_
        rintro e w4 ⟨rfl, hb4⟩
        have hb34 := hb3.trans (hb4.mono hb3.size)
        have hbr4 := hbr.trans (hb34.mono hsw)
        obtain ⟨z0, z1, hbw4, hsw4⟩ := HB.out w4 hbr4
        have hsum4 := own_below hsum hb34
        have hCL4 := hCL.lift hb34
        obtain ⟨y0, _⟩ := own_cell hsum4 Hs0.out
        obtain ⟨y1, _⟩ := own_cell hsum4 Hs1.out
        clear hsum hCL x0 x1 hbw
        go_upto_region 16 with fail
        go_cut [13] (fun dv wx => ∃ d : Int, dv = .int .i64 d ∧ 0 ≤ d ∧ d ≤ 1000 ∧ d ≤ a - b ∧ (d < 1000 → d = a - b) ∧ Below w4.heap.size w4 wx)
        case first =>
          have e1 : IntKind.i64.wrap (a - b) = a - b := by rw [IntKind.wrap_i64]; omega
          by_cases hab : a - b ≤ 1000
          · go_quiet (fail)
            go_wp2_with fail
            go_meet
            exact ⟨_, rfl, by omega, by omega, by omega, fun _ => by omega, below_drewN (Below.refl _ _) _⟩
          · go_quiet (fail)
            go_wp2_with fail
            go_meet
            exact ⟨_, rfl, by omega, by omega, by omega, fun _ => by omega, below_drewN (Below.refl _ _) _⟩
        case rest =>
          obtain ⟨d, rfl, p0, p1, p2, p3, hbc⟩ := hcut
          obtain ⟨wq, hwq⟩ : ∃ wq, wq = wc := ⟨_, rfl⟩
          subst hwq
          have hbr5 := hbr4.trans (hbc.mono hsw4)
          clear z0 z1 y0 y1
          obtain ⟨z0, z1, hbw5, hsw5⟩ := HB.out wq hbr5
          have hCL5 := hCL4.lift hbc
          have HS5 : Hid (∀ W, Below wq.heap.size wq W → W.cell? ⟨w.heap.size, 0, none⟩ = some (.int .i64 f') ∧ W.cell? ⟨w.heap.size, 1, none⟩ = some (.int .i64 t')) := fun W hW => by
            obtain ⟨z0, z1, _, _⟩ := HB.out W (hbr5.trans (hW.mono hsw5))
            exact ⟨z0, z1⟩
          have kA := Lib.hid (kA_of wq f' d)
          have kB := Lib.hid (kB_of wq f' d t' 0)
          have kF := Lib.hid (kF_of (c' := c') hCL5 (by omega) (hyes.out d p0 p1 p2))
          have hzr : Below wq.heap.size wq wq := Below.refl _ _
          have Hp3 := Lib.hid p3
          clear p3 hCL4 hsum4 hbr hbr4 hb3 hb4 hb34
          go_upto_region 17 with fail
          go_cut [14, 15] (fun p q wx => p = .bool true ∧ q = .int .i64 0 ∧ Below wq.heap.size wq wx)
          case first =>
            go_region_held3 (fun w' => w'.cell? ⟨w.heap.size, 0, none⟩ = some (.int .i64 f') ∧ w'.cell? ⟨w.heap.size, 1, none⟩ = some (.int .i64 t'))
              (first | exact HS5.out _ (by first | assumption | exact hzr.drew))
              (first | (go_at_call 5; with_reducible refine (kA.out _ (by first | assumption | exact hzr.drew)).mono ?_; rintro e w5 ⟨q1, rfl, hq1, hz⟩) | (go_at_call 5; with_reducible refine (kB.out _ _ (by first | assumption | exact hzr.drew) (by assumption)).mono ?_; rintro e w5 ⟨q2, rfl, hq1, hq2, hz⟩) | (go_at_call 8; with_reducible refine (kF.out _ _ _ (by assumption) (by assumption) (by assumption)).mono ?_; rintro e w5 ⟨rfl, hz⟩))
            all_goals
              go_wp2_with fail
              go_meet
              exact ⟨rfl, rfl, by assumption⟩
          case rest =>
            obtain ⟨rfl, rfl, hbd⟩ := hcut
            obtain ⟨wd, hwd⟩ : ∃ wd, wd = wc := ⟨_, rfl⟩
            subst hwd
            have hbr6 := hbr5.trans (hbd.mono hsw5)
            clear z0 z1 kA kB kF
            obtain ⟨z0, z1, hbw6, hsw6⟩ := HB.out wd hbr6
            by_cases hd : d = 1000
            · go_wp2_with fail
              refine (awake_any _).mono ?_
              rintro e w6 ⟨rfl, hb6⟩
              go_wp2_with fail
              go_ret
              exact ⟨rfl, hbw6.trans (hb6.mono hbw6.size)⟩
            · have hCL6 := hCL5.lift hbd
              have hdd : IntKind.i64.wrap (d + 1) = d + 1 := by rw [IntKind.wrap_i64]; omega
              have HS6 : Hid (∀ W, Below wd.heap.size wd W → W.cell? ⟨w.heap.size, 0, none⟩ = some (.int .i64 f') ∧ W.cell? ⟨w.heap.size, 1, none⟩ = some (.int .i64 t')) := fun W hW => by
                obtain ⟨z0, z1, _, _⟩ := HB.out W (hbr6.trans (hW.mono hsw6))
                exact ⟨z0, z1⟩
              clear hzr
              have kA := Lib.hid (kA_of wd f' (d + 1))
              have kB := Lib.hid (kB_of wd f' (d + 1) t' 0)
              have kF := Lib.hid (kF_of (c' := c') hCL6 (by omega) (hno.out (d + 1) (by omega) (by omega) (by have := Hp3.out (by omega); omega)))
              have hzr : Below wd.heap.size wd wd := Below.refl _ _
              clear hCL5
              go_upto_region 22 with fail
              go_cut [16, 17] (fun p q wx => p = .bool false ∧ q = .int .i64 0 ∧ Below wd.heap.size wd wx)
              case first =>
                go_region_held3 (fun w' => w'.cell? ⟨w.heap.size, 0, none⟩ = some (.int .i64 f') ∧ w'.cell? ⟨w.heap.size, 1, none⟩ = some (.int .i64 t'))
                  (first | exact HS6.out _ (by first | assumption | exact hzr.drew))
                  (first | (go_at_call 5; with_reducible refine (kA.out _ (by first | assumption | exact hzr.drew)).mono ?_; rintro e w5 ⟨q1, rfl, hq1, hz⟩) | (go_at_call 5; with_reducible refine (kB.out _ _ (by first | assumption | exact hzr.drew) (by assumption)).mono ?_; rintro e w5 ⟨q2, rfl, hq1, hq2, hz⟩) | (go_at_call 8; with_reducible refine (kF.out _ _ _ (by assumption) (by assumption) (by assumption)).mono ?_; rintro e w5 ⟨rfl, hz⟩))
                all_goals
                  go_wp2_with fail
                  go_meet
                  exact ⟨rfl, rfl, by assumption⟩
              case rest =>
                obtain ⟨rfl, rfl, hbe⟩ := hcut
                have hbw7 := hbw6.trans (hbe.mono hbw6.size)
                go_wp2_with fail
                refine (awake_any _).mono ?_
                rintro e w6 ⟨rfl, hb6⟩
                go_wp2_with fail
                go_ret
                exact ⟨rfl, hbw7.trans (hb6.mono hbw7.size)⟩
  · have hno : v < 2 ∨ ¬ v < 2 ∧ (1200 < v ∨ ¬ 1200 < v ∧ (2000 < (K : Int) ∨ ¬ 2000 < (K : Int) ∧ (f < 0 ∨ ¬ f < 0 ∧ (v ≤ t ∨ ¬ v ≤ t ∧ t ≤ f)))) := by omega
    clear hcond
    rcases hno with c1 | ⟨c1, c2 | ⟨c2, c3 | ⟨c3, c4 | ⟨c4, c5 | ⟨c5, c6⟩⟩⟩⟩⟩
    all_goals
      go_enter Try.func3, Try.ntmps3
      go_wp2_with fail
      refine (awake_any _).mono ?_
      rintro e w6 ⟨rfl, hb6⟩
      go_wp2_with fail
      go_ret
      exact ⟨rfl, hX0.trans (hb6.mono hX0.size)⟩
end Go.Proofs.Ytklnjaafdjhkfaa
