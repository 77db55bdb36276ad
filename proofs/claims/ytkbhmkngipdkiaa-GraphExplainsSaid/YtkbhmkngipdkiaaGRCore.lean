/-
  'without' and 'Core' of the reference.
-/
import Derived.Test.YtkbhmkngipdkiaaGExpl
import Derived.Test.YtkbhmkngipdkiaaGApp
import Derived.Test.YtkbhmkngipdkiaaGRSol
namespace Go.Proofs.Ytkbhmkngipdkiaa
open Go Go.RowKit

theorem erase_next {cs : List LCn} {i j : Nat} {c : LCn} (h : cs[j]? = some c) : (cs.take (j + 1)).eraseIdx i = (cs.take j).eraseIdx i ++ (if j = i then [] else [c]) := by
  have hj : j < cs.length := (List.getElem?_eq_some_iff.1 h).1
  have hl : (cs.take j).length = j := by simp; omega
  rw [take_snoc h]
  rcases Nat.lt_trichotomy j i with h1 | h1 | h1
  · rw [List.eraseIdx_append_of_length_le (by omega), List.eraseIdx_of_length_le (by omega : (cs.take j).length ≤ i), hl, if_neg (by omega), List.eraseIdx_of_length_le (by simp; omega)]
  · subst h1
    rw [List.eraseIdx_append_of_length_le (by omega), List.eraseIdx_of_length_le (by omega : (cs.take j).length ≤ j), hl, if_pos rfl, Nat.sub_self]
    rfl
  · rw [List.eraseIdx_append_of_lt_length (by omega), if_neg (by omega)]
theorem pick_at {cs : List LCn} : ∀ {l : List Nat} {k : Nat}, (∀ i ∈ l, i < cs.length) → (pick cs l)[k]? = (l[k]?).bind fun i => cs[i]?
  | [], k, _ => by simp [pick]
  | i :: l, k, h => by
    have hi := h i (by simp)
    have e : pick cs (i :: l) = cs[i] :: pick cs l := by
      show pick cs ([i] ++ l) = _
      rw [pick_app, pick_one (List.getElem?_eq_getElem hi)]
      rfl
    rw [e]
    cases k with
    | zero => simp [List.getElem?_eq_getElem hi]
    | succ k =>
      rw [List.getElem?_cons_succ, List.getElem?_cons_succ]
      exact pick_at fun j hj => h j (List.mem_cons_of_mem _ hj)
/-- without one of them there is a solution -/
theorem core_need {n : Nat} {cs : List LCn} {l : List Nat} (h : CoreOf n cs l) {i : Nat} (hi : i < l.length) : ∃ y, Sat (fun e => e ∈ esA n ((pick cs l).eraseIdx i)) y := by
  obtain ⟨y, hy⟩ := h.need _ (List.getElem_mem hi)
  refine ⟨y, ?_⟩
  rw [sat_es] at hy ⊢
  refine ⟨hy.1, fun c hc => hy.2 c ?_⟩
  obtain ⟨k, hk1, hk2⟩ := List.mem_eraseIdx_iff_getElem?.1 hc
  rw [pick_at h.lt] at hk2
  cases hk : l[k]? with
  | none => rw [hk] at hk2; cases hk2
  | some x =>
    rw [hk] at hk2
    have hkl := (List.getElem?_eq_some_iff.1 hk).1
    have hxe := (List.getElem?_eq_some_iff.1 hk).2
    refine pick_mem.2 ⟨x, List.mem_filter.2 ⟨List.mem_of_getElem? hk, ?_⟩, hk2⟩
    have hne : x ≠ l[i] := fun e => hk1 (by
      rw [← hxe] at e
      rcases Nat.lt_trichotomy k i with h1 | h1 | h1
      · exact (List.pairwise_iff_getElem.1 h.nd k i hkl hi h1 e).elim
      · exact h1
      · exact (List.pairwise_iff_getElem.1 h.nd i k hi hkl h1 e.symm).elim)
    simpa using hne

set_option maxRecDepth 100000 in
set_option maxHeartbeats 4000000 in
theorem without_any (A : Option Addr) (K cap : Nat) (cs : List LCn) (i : Nat) (w : World) (h : CL w w.heap.size A K cs) (hK : K ≤ 3000) (hik : i < K) :
    Calls Try.prog 39 #[.slice A K cap, .int .i64 i] w fun e w' => ∃ A' c', e = .returned (.slice A' (K - 1) c') ∧ CL w' w'.heap.size A' (K - 1) (cs.eraseIdx i) ∧ Below w.heap.size w w' := by
  obtain ⟨i0, hi, hz0, hz1, hz2⟩ := info_parts infoC
  have hlen : cs.length = K := h.1
  go_enter Try.func39, Try.ntmps39
  go_wp2_with fail
  go_loopw [5, 6] (fun t a wr => ∃ j : Nat, j ≤ K ∧ a = .int .i64 j ∧ ∃ (A' : Option Addr) (m c' : Nat) (xs : List Value), t = .slice A' m c' ∧ wr.ownsRow w.heap.size 46 4 (.slice A' m c') m xs ∧ CV wr w.heap.size xs ((cs.take j).eraseIdx i) ∧ m ≤ j ∧ Below w.heap.size w wr) (fun _ a _ => K - (intOf a).toNat)
  case atStart => exact ⟨0, Nat.zero_le _, rfl, none, 0, 0, [], rfl, World.ownsRow_nil _ _ _ _, by simpa using CV.nil _ _, Nat.le_refl _, Below.refl _ _⟩
  case round =>
    obtain ⟨j, hj, rfl, A', m, c', xs, rfl, hown, hcv, hmj, hbr⟩ := hrel
    by_cases hlt : j < K
    · obtain ⟨b, off, x, D1, k1, e1, D2, k2, e2, rfl, hbl, hx, g0, g1, g2, g3, px, py, s1, t1, s2, t2⟩ := (h.below hbr).at_ hlt
      have Hst := Lib.hid (erase_next (i := i) hx)
      by_cases hji : j = i
      · subst hji
        have hcv1 : CV wr w.heap.size xs ((cs.take (j + 1)).eraseIdx j) := by rw [Hst.out, if_pos rfl, List.append_nil]; exact hcv
        have Hcv := Lib.hid hcv1
        clear hcv hcv1 Hst hx
        go_wp2_with fail
        go_roundw
        case rel => exact ⟨j + 1, by omega, by go_num, A', m, c', xs, rfl, hown, Hcv.out, by omega, hbr⟩
        case measure => simp [intOf]; omega
      · have hcv1 := hcv.append (CV.one (w := wr) (B := w.heap.size) (c := x) ⟨D1, k1, e1, rfl, px, s1, t1⟩ ⟨D2, k2, e2, rfl, py, s2, t2⟩)
        have hone := (CV.one (w := wr) (B := w.heap.size) (c := x) ⟨D1, k1, e1, rfl, px, s1, t1⟩ ⟨D2, k2, e2, rfl, py, s2, t2⟩).oneCell
        have hone' : ∀ u ∈ conV x D1 k1 e1 D2 k2 e2, u.oneCell' = true := hone
        rw [show (cs.take j).eraseIdx i ++ [x] = (cs.take (j + 1)).eraseIdx i by rw [Hst.out, if_neg hji]] at hcv1
        have hji2 : ¬ (j : Int) = (i : Int) := by omega
        have hszr := hbr.size
        clear hcv Hst hx hone
        go_wp2_with (at_builtin; refine wpList_append_own _ rfl _ _ 22 rfl w.heap.size 46 i0 (.agg #[.int .i64 0, .slice none 0 0, .int .i64 0, .slice none 0 0]) 4 64 Try.underlying22 hi hz0 hz1 hz2 rfl (by decide) _ m xs rfl (own_below hown ((Below.refl _ _).alloc (Nat.le_refl _) _)) _ 1 1 (conV x D1 k1 e1 D2 k2 e2) rfl rfl (news4c rfl) hone' (by unfold maxLen; omega) (by omega) (by simp; omega) ?_)
        intro v6 w6 hown6 hgrow6 _
        have hb6 : Below w.heap.size wr w6 := ((Below.refl _ wr).alloc (by omega) _).grown hgrow6 (by simp; omega) (fun j hj => (hown.lt j hj).1)
        have hbr6 := hbr.trans hb6
        have hcv6 := hcv1.below hb6
        obtain ⟨A7, c7, rfl, _, _, _⟩ := CL.of_own hown6 hcv6 hbr6.size
        go_wp2_with fail
        go_roundw
        case rel => exact ⟨j + 1, by omega, by go_num, A7, _, c7, _, rfl, hown6, hcv6, by omega, hbr6⟩
        case measure => simp [intOf]; omega
    · obtain rfl : j = K := by omega
      have hki : ¬ (j : Int) < (j : Int) := by omega
      rw [List.take_of_length_le (by omega)] at hcv
      obtain ⟨A7, c7, he7, hcl7, _, _⟩ := CL.of_own hown hcv hbr.size
      cases he7
      have hm : m = j - 1 := by
        have h1 := hcl7.1
        rw [List.length_eraseIdx_of_lt (by omega)] at h1
        omega
      subst hm
      go_wp2_with fail
      go_ret
      first | exact ⟨A', c', rfl, hcl7, hbr⟩ | exact ⟨A', ⟨c', rfl⟩, hcl7, hbr⟩

set_option maxRecDepth 100000 in
set_option maxHeartbeats 4000000 in
theorem rcore_any (n : Nat) (A : Option Addr) (K cap : Nat) (cs : List LCn) (C : Option Addr) (z cC : Nat) (ls : List Nat) (w : World) (h : CL w w.heap.size A K cs) (hI : IL w w.heap.size C z (ls.map fun i : Nat => (i : Int))) (hcs : ∀ c ∈ cs, Con n c) (hn : n ≤ 1200) (hco : CoreOf n cs ls) (hso : ls.Pairwise (· < ·)) (hz3 : z ≤ 3000) :
    Calls Try.prog 17 #[.int .i64 n, .slice A K cap, .slice C z cC] w fun e w' => e = .returned (.bool true) ∧ Below w.heap.size w w' := by
  obtain ⟨i0, hi, hz0, hz1, hz2⟩ := info_parts infoC
  have hlen : cs.length = K := h.1
  have Hz : Hid (ls.length = z) := by have h1 := hI.1; rw [List.length_map] at h1; exact h1
  have Hbd : Hid (∀ i ∈ ls, i < K) := fun i hi => by have := hco.lt i hi; omega
  have Hso := Lib.hid hso
  have Hco := Lib.hid hco
  have Hcs := Lib.hid (pick_con hcs ls)
  clear hso hco hcs hlen
  go_enter Try.func17, Try.ntmps17
  go_wp2_with fail
  go_loopw [7, 8] (fun t i wr => ∃ j : Nat, j ≤ z ∧ i = .int .i64 j ∧ ∃ (A' : Option Addr) (n' c' : Nat) (xs : List Value), t = .slice A' n' c' ∧ wr.ownsRow w.heap.size 46 4 (.slice A' n' c') j xs ∧ CV wr w.heap.size xs (pick cs (ls.take j)) ∧ Below w.heap.size w wr) (fun _ i _ => z - (intOf i).toNat)
  case atStart => exact ⟨0, Nat.zero_le _, rfl, none, 0, 0, [], rfl, World.ownsRow_nil _ _ _ _, CV.nil _ _, Below.refl _ _⟩
  case round =>
    obtain ⟨j, hj, rfl, A', n', c', xs, rfl, hown, hcv, hbr⟩ := hrel
    by_cases hlt : j < z
    · obtain ⟨k, hk⟩ : ∃ k, ls[j]? = some k := ⟨_, List.getElem?_eq_getElem (by have := Hz.out; omega)⟩
      have hkK := Hbd.out k (List.mem_of_getElem? hk)
      obtain ⟨b1, o1, x1, rfl, hbl1, hx1, y1⟩ := (hI.below hbr).at_ hlt
      obtain rfl : x1 = (k : Int) := by
        simp [hk] at hx1
        exact hx1.symm
      obtain ⟨b, off, x, D1, k1, e1, D2, k2, e2, rfl, hbl, hx, g0, g1, g2, g3, px, py, s1, t1, s2, t2⟩ := (h.below hbr).at_ hkK
      have Hst : Hid (pick cs (ls.take (j + 1)) = pick cs (ls.take j) ++ [x]) := by rw [Hid, take_snoc hk, pick_app, pick_one hx]
      have hcv1 := hcv.append (CV.one (w := wr) (B := w.heap.size) (c := x) ⟨D1, k1, e1, rfl, px, s1, t1⟩ ⟨D2, k2, e2, rfl, py, s2, t2⟩)
      rw [← Hst.out] at hcv1
      have hone := (CV.one (w := wr) (B := w.heap.size) (c := x) ⟨D1, k1, e1, rfl, px, s1, t1⟩ ⟨D2, k2, e2, rfl, py, s2, t2⟩).oneCell
      have hone' : ∀ u ∈ conV x D1 k1 e1 D2 k2 e2, u.oneCell' = true := hone
      have hki : ¬ (k : Int) < 0 := by omega
      have hki2 : ¬ (K : Int) ≤ (k : Int) := by omega
      have hki3 : (k : Int) < (K : Int) := by omega
      have hownX : ∀ W, Below wr.heap.size wr W → W.ownsRow w.heap.size 46 4 (.slice A' n' c') j xs := fun W hW => own_below hown hW
      have hszr := hbr.size
      have hbb : b < wr.heap.size := by omega
      have hbb1 : b1 < wr.heap.size := by omega
      have hHc : Hid (∀ W, Below wr.heap.size wr W → W.cell? ⟨b, off + k * 4, none⟩ = some (.int .i64 x.1.1) ∧ W.cell? ⟨b, off + k * 4 + 1, none⟩ = some (.slice D1 k1 e1) ∧ W.cell? ⟨b, off + k * 4 + 2, none⟩ = some (.int .i64 x.2.1) ∧ W.cell? ⟨b, off + k * 4 + 3, none⟩ = some (.slice D2 k2 e2) ∧ W.cell? ⟨b1, o1 + j, none⟩ = some (.int .i64 k)) := fun W hW =>
        ⟨(hW.cell (p := ⟨b, _, none⟩) hbb).trans g0, (hW.cell (p := ⟨b, _, none⟩) hbb).trans g1, (hW.cell (p := ⟨b, _, none⟩) hbb).trans g2, (hW.cell (p := ⟨b, _, none⟩) hbb).trans g3, (hW.cell (p := ⟨b1, _, none⟩) hbb1).trans y1⟩
      have hprev : Hid (∀ p, j = p + 1 → ∃ kp : Nat, kp < k ∧ wr.cell? ⟨b1, o1 + p, none⟩ = some (.int .i64 kp)) := fun p hp => by
        obtain ⟨kp, hkp⟩ : ∃ kp, ls[p]? = some kp := ⟨_, List.getElem?_eq_getElem (by have := Hz.out; omega)⟩
        obtain ⟨b2, o2, x2, e9, _, hx2, y2⟩ := (hI.below hbr).at_ (show p < z by omega)
        cases e9
        obtain rfl : x2 = (kp : Int) := by
          simp [hkp] at hx2
          exact hx2.symm
        refine ⟨kp, ?_, y2⟩
        have h8 := List.pairwise_iff_getElem.1 Hso.out p j (by have := (List.getElem?_eq_some_iff.1 hkp).1; omega) (by have := (List.getElem?_eq_some_iff.1 hk).1; omega) (by omega)
        rw [(List.getElem?_eq_some_iff.1 hkp).2, (List.getElem?_eq_some_iff.1 hk).2] at h8
        exact h8
      clear hk hx hx1 px py hone hcv
      go_upto_region 5 with fail
      go_cut [49] (fun t wx => t = .bool false ∧ Below wr.heap.size wr wx)
      case first =>
        by_cases hj0 : j = 0
        · subst hj0
          have y1' : wr.cell? ⟨b1, o1, none⟩ = some (.int .i64 k) := by simpa using y1
          have hz0 : (0 : Int) < (z : Int) := by omega
          go_quiet (fail)
          go_wp2_with fail
          go_meet
          exact ⟨rfl, below_drewN (Below.refl _ _) _⟩
        · obtain ⟨p, rfl⟩ : ∃ p, j = p + 1 := ⟨j - 1, by omega⟩
          obtain ⟨kp, hkp, y2⟩ := hprev.out p rfl
          have j1 : (0 : Int) < ((p + 1 : Nat) : Int) := by omega
          have j2 : ((p + 1 : Nat) : Int) - 1 = (p : Int) := by omega
          have j3 : (p : Int) < (z : Int) := by omega
          have j4 : (p : Int) + 1 < (z : Int) := by omega
          have j5 : ¬ (k : Int) ≤ (kp : Int) := by omega
          have j6 : (0 : Int) < (p : Int) + 1 := by omega
          go_quiet (fail)
          go_wp2_with fail
          go_meet
          exact ⟨rfl, below_drewN (Below.refl _ _) _⟩
      case rest =>
        obtain ⟨rfl, hbc⟩ := hcut
        clear g0 g1 g2 g3 y1
        obtain ⟨g0, g1, g2, g3, y1⟩ := hHc.out _ hbc
        have hown2 := hownX _ hbc
        have hcv2 := hcv1.below (hbc.mono hszr)
        have hbr2 := hbr.trans (hbc.mono hszr)
        have hszc := hbr2.size
        clear hownX hHc hcv1
        go_wp2_with (at_builtin; refine wpList_append_own _ rfl _ _ 22 rfl w.heap.size 46 i0 (.agg #[.int .i64 0, .slice none 0 0, .int .i64 0, .slice none 0 0]) 4 64 Try.underlying22 hi hz0 hz1 hz2 rfl (by decide) _ j xs rfl (own_below hown2 ((Below.refl _ _).alloc (Nat.le_refl _) _)) _ 1 1 (conV x D1 k1 e1 D2 k2 e2) rfl rfl (news4c rfl) hone' (by unfold maxLen; omega) (by omega) (by simp; omega) ?_)
        intro v6 w6 hown6 hgrow6 _
        have hb6 : Below w.heap.size wc w6 := ((Below.refl _ wc).alloc (by omega) _).grown hgrow6 (by simp; omega) (fun j hj => (hown2.lt j hj).1)
        have hbr6 := hbr2.trans hb6
        have hcv6 := hcv2.below hb6
        obtain ⟨A7, c7, rfl, _, _, _⟩ := CL.of_own hown6 hcv6 hbr6.size
        go_wp2_with fail
        go_roundw
        case rel => exact ⟨j + 1, by omega, by go_num, A7, _, c7, _, rfl, hown6, hcv6, hbr6⟩
        case measure => simp [intOf]; omega
    · obtain rfl : j = z := by omega
      have hzi : ¬ (j : Int) < (j : Int) := by omega
      rw [List.take_of_length_le (by have := Hz.out; omega)] at hcv
      obtain ⟨A7, c7, he7, hcl7, _, _⟩ := CL.of_own hown hcv hbr.size
      cases he7
      have hS := Lib.hid (rsolve_any n A' j c' (pick cs ls) wr hcl7 Hcs.out hn hz3)
      clear hown hcv
      go_wp2_with fail
      refine hS.out.mono ?_
      rintro e w2 ⟨hb2, hr⟩
      have hbw2 := hbr.trans (hb2.mono hbr.size)
      have hcl2 := hcl7.lift hb2
      clear hcl7 hS
      rcases hr with ⟨rfl, _⟩ | ⟨u, L, _, _, hRS⟩
      · go_wp2_with fail
        go_loopw [11] (fun i wx => ∃ a : Nat, a ≤ j ∧ i = .int .i64 a ∧ Below w2.heap.size w2 wx) (fun i _ => j - (intOf i).toNat)
        case atStart => exact ⟨0, Nat.zero_le _, rfl, Below.refl _ _⟩
        case round =>
          obtain ⟨a, ha, rfl, hbx⟩ := hrel
          have hbwx := hbw2.trans (hbx.mono hbw2.size)
          by_cases haj : a < j
          · have hai : (a : Int) < (j : Int) := by omega
            have hneed := core_need Hco.out (i := a) (by have := Hz.out; omega)
            have Hneed := Lib.hid hneed
            have hW := Lib.hid (without_any A' j c' (pick cs ls) a wr (hcl2.lift hbx) hz3 haj)
            clear hneed
            go_wp2_with fail
            refine hW.out.mono ?_
            rintro e w3 ⟨A3, c3, rfl, hcl3, hb3⟩
            have hS := Lib.hid (rsolve_any n A3 (j - 1) c3 ((pick cs ls).eraseIdx a) w3 hcl3 (fun c hc => Hcs.out c (List.mem_of_mem_eraseIdx hc)) hn (by omega))
            clear hcl3 hW
            have hbx3 := hbx.trans (hb3.mono hbx.size)
            go_wp2_with fail
            refine hS.out.mono ?_
            rintro e w4 ⟨hb4, hr4⟩
            have hbx4 := hbx3.trans (hb4.mono hbx3.size)
            rcases hr4 with ⟨_, hno⟩ | ⟨u, L, rfl, _, _⟩
            · obtain ⟨y, hy⟩ := Hneed.out
              exact (hno y hy).elim
            · go_wp2_with fail
              go_roundw
              case rel => exact ⟨a + 1, by omega, by go_num, hbx4⟩
              case measure => simp [intOf]; omega
          · have hai : ¬ (a : Int) < (j : Int) := by omega
            go_wp2_with fail
            go_ret
            exact ⟨rfl, hbwx⟩
      · exact (Hco.out.no _ hRS.sat).elim
end Go.Proofs.Ytkbhmkngipdkiaa
