/-
  'Minimal' of the reference of package graph, and the law GraphMinimal.
-/
import Derived.Test.YtolilmodihgaiaaGKeeps
namespace Go.Proofs.Ytolilmodihgaiaa
open Go Go.RowKit

theorem own_apart {w : World} {b1 b2 : Nat} {e1 e2 : TypeId} {s1 s2 n1 n2 : Nat} {v1 v2 : Value} {x1 x2 : List Value} (h1 : w.ownsRow b1 e1 s1 v1 n1 x1) (h2 : w.ownsRow b2 e2 s2 v2 n2 x2) (he : e2 ≠ e1) : ∀ k, v1.ownBlock = some k → v2.ownBlock ≠ some k := by
  intro k hk
  rcases h1.2 with ⟨rfl, _⟩ | ⟨g, cap, cur, rfl, _, hg, _⟩
  · simp [Value.ownBlock] at hk
  · simp only [Value.ownBlock, Option.some.injEq] at hk
    subst hk
    exact rtype_ne h2 ⟨_, _, hg⟩ (Ne.symm he)
theorem filter_left {k : Nat} {l : List Nat} (h : ∀ i ∈ l, k < i) : (List.range (k + 1) ++ l).filter (fun i => i != k) = List.range k ++ l := by
  rw [List.filter_append, List.range_succ, List.filter_append]
  have h1 : (List.range k).filter (fun i => i != k) = List.range k := List.filter_eq_self.2 fun i hi => by have := List.mem_range.1 hi; simp; omega
  have h2 : l.filter (fun i => i != k) = l := List.filter_eq_self.2 fun i hi => by have := h i hi; simp; omega
  rw [h1, h2]
  simp
theorem filter_snoc {k z : Nat} {l : List Nat} : (l ++ [z]).filter (fun i => i != k) = if z = k then l.filter (fun i => i != k) else l.filter (fun i => i != k) ++ [z] := by
  rw [List.filter_append]
  by_cases h : z = k
  · simp [h]
  · simp [h]

set_option maxRecDepth 100000 in
set_option maxHeartbeats 8000000 in
theorem rminimal_any (v : Int) (A : Option Addr) (K cap : Nat) (cs : List LCn) (w : World) (h : CL w w.heap.size A K cs) (hn : K ≤ 9223372036854775807) :
    Calls Try.prog 23 #[.int .i64 v, .slice A K cap] w (MinPost v cs w) := by
  have hva := refGvalid_any v A K cap cs w h hn
  have hl : cs.length = K := h.1
  cases hg : gvld v cs
  · rw [hg] at hva
    have Hva := Lib.hid hva
    clear hva
    go_enter Try.func23, Try.ntmps23
    go_wp2_with fail
    refine Hva.out.mono ?_
    rintro e w1 ⟨rfl, hb1⟩
    go_wp2_with fail
    go_ret2
    exact ⟨hb1, .inl ⟨hg, rfl⟩⟩
  · rw [hg] at hva
    have Hva := Lib.hid hva
    have Hg := Lib.hid hg
    have Hl := Lib.hid hl
    clear hva
    by_cases h200 : 200 < K
    · have hi200 : (200 : Int) < (K : Int) := by omega
      clear hg hl
      go_enter Try.func23, Try.ntmps23
      go_wp2_with fail
      refine Hva.out.mono ?_
      rintro e w1 ⟨rfl, hb1⟩
      go_wp2_with fail
      go_ret2
      exact ⟨hb1, .inr (.inl ⟨Hg.out, by rw [Hl.out]; exact h200, rfl⟩)⟩
    · have hi200 : ¬ (200 : Int) < (K : Int) := by omega
      obtain ⟨n, rfl, f1, f2, f3⟩ := gvld_parts hg
      have Hcs := Lib.hid f3
      clear hg hl f3 f2
      go_enter Try.func23, Try.ntmps23
      go_wp2_with fail
      refine Hva.out.mono ?_
      rintro e w1 ⟨rfl, hb1⟩
      have Hso := Lib.hid (rsolve_any n A K cap cs w1 ((h.below hb1).more hb1.size) Hcs.out f1 (by omega))
      go_wp2_with fail
      refine Hso.out.mono ?_
      rintro e w2 ⟨hb2, hr⟩
      have hX2 : Below w.heap.size w w2 := hb1.trans (hb2.mono hb1.size)
      rcases hr with ⟨rfl, hno⟩ | ⟨u, L, rfl, _, hRS⟩
      · have Hno := Lib.hid hno
        clear hno
        go_wp2_with fail
        go_ret2
        exact ⟨hX2, .inr (.inr ⟨Hg.out, by rw [Hl.out]; omega, n, rfl, .inl ⟨rfl, Hno.out⟩⟩)⟩
      · have hex : Hid (∃ y, Sat (fun e => e ∈ esA n cs) y) := ⟨_, hRS.sat⟩
        have hl200 : Hid (cs.length ≤ 200) := by rw [Hid, Hl.out]; omega
        obtain ⟨i0, hi, hz0, hz1, hz2⟩ := info_parts infoI
        obtain ⟨j0, hj, hy0, hy1, hy2⟩ := info_parts infoC
        clear hRS
        go_wp2_with fail
        go_loopw [8, 9] (fun t i wr => ∃ q : Nat, q ≤ K ∧ i = .int .i64 q ∧ ∃ (A' : Option Addr) (n' c' : Nat), t = .slice A' n' c' ∧ wr.ownsRow w.heap.size 3 1 (.slice A' n' c') (List.range q).length (int1 (castL (List.range q))) ∧ Below w.heap.size w wr) (fun _ i _ => K - (intOf i).toNat)
        case atStart => exact ⟨0, Nat.zero_le _, rfl, none, 0, 0, rfl, World.ownsRow_nil _ _ _ _, hX2⟩
        case round =>
          obtain ⟨q, hq, rfl, A', n', c', rfl, hown, hbr⟩ := hrel
          by_cases hlt : q < K
          · have hqi : (q : Int) < (K : Int) := by omega
            have hql : (List.range q).length ≤ 200 := by simp; omega
            have Hst : Hid (List.range (q + 1) = List.range q ++ [q]) := List.range_succ
            have hszr := hbr.size
            generalize List.range q = lq at hown hql Hst
            have hownX : ∀ W, Below wr.heap.size wr W → W.ownsRow w.heap.size 3 1 (.slice A' n' c') lq.length (int1 (castL lq)) := fun W hW => own_below hown hW
            go_wp2_with (at_builtin; refine wpList_append_own _ rfl _ _ 25 rfl w.heap.size 3 i0 (.int .i64 0) 1 8 Try.underlying25 hi hz0 hz1 hz2 rfl (by decide) (.slice A' n' c') lq.length (int1 (castL lq)) rfl (hownX _ ((Below.refl _ wr).alloc (Nat.le_refl _) _)) _ 1 1 [.int .i64 q] rfl rfl (newI rfl) newI_one (by unfold maxLen; omega) (by omega) (by simp; omega) ?_)
            intro v6 w6 hown6 hgrow6 _
            have hbr6 : Below w.heap.size w w6 := (hbr.alloc hszr _).grown hgrow6 (by simp; omega) (fun j hj => (hown.lt j hj).1)
            have hown7 : w6.ownsRow w.heap.size 3 1 v6 (lq ++ [q]).length (int1 (castL (lq ++ [q]))) := by
              rw [castL_snoc, int1_app, List.length_append]
              exact hown6
            obtain ⟨A7, n7, c7, rfl⟩ : ∃ A n c, v6 = Value.slice A n c := by
              obtain ⟨A, c, h, _⟩ := il_own (l := castL (lq ++ [q])) hown7
              exact ⟨_, _, _, h⟩
            clear hown6 hgrow6 hownX
            go_wp2_with fail
            go_roundw
            case rel => exact ⟨q + 1, by omega, by go_num, A7, n7, c7, rfl, by rw [Hst.out]; exact hown7, hbr6⟩
            case measure => simp [intOf]; omega
          · have hqK : q = K := by omega
            have hqi : ¬ (q : Int) < (K : Int) := by omega
            have hown0 : wr.ownsRow w.heap.size 3 1 (.slice A' n' c') (List.range (K - 0) ++ mLeft n cs 0).length (int1 (castL (List.range (K - 0) ++ mLeft n cs 0))) := by
              rw [mLeft, List.append_nil, Nat.sub_zero, ← hqK]; exact hown
            clear hqK hown
            have hbr0 := hbr
            clear hbr
            go_wp2_with fail
            go_loopw [8, 10] (fun t s wr => ∃ m : Nat, m ≤ K ∧ s = .int .i64 ((K : Int) - 1 - m) ∧ ∃ (A' : Option Addr) (n' c' : Nat), t = .slice A' n' c' ∧ wr.ownsRow w.heap.size 3 1 (.slice A' n' c') (List.range (K - m) ++ mLeft n cs m).length (int1 (castL (List.range (K - m) ++ mLeft n cs m))) ∧ Below w.heap.size w wr) (fun _ s _ => ((intOf s) + 1).toNat)
            case atStart => exact ⟨0, Nat.zero_le _, by simp, A', n', c', rfl, hown0, hbr0⟩
            case round =>
              clear hown0 hbr0
              obtain ⟨m, hm, rfl, A', n', c', rfl, hown, hbr⟩ := hrel
              by_cases hltm : m < K
              · obtain ⟨k, hk⟩ : ∃ k, K = k + 1 + m := ⟨K - 1 - m, by omega⟩
                have hs : (K : Int) - 1 - (m : Int) = (k : Int) := by omega
                have hKm : K - m = k + 1 := by omega
                have hKm1 : K - (m + 1) = k := by omega
                have hlen : cs.length = k + 1 + m := by rw [Hl.out]; exact hk
                have Hidx : Hid (Value.int .i64 ((k : Int) - 1) = Value.int .i64 ((K : Int) - 1 - ((m + 1 : Nat) : Int))) := by rw [Hid]; congr 1; omega
                have hin : ∀ i ∈ mLeft n cs m, k < i ∧ i < K := fun i hi => by have := mLeft_in (n := n) (cs := cs) (m := m) (by omega) i hi; have := Hl.out; omega
                have hml : (mLeft n cs m).length ≤ m := mLeft_len
                have hfil := filter_left (k := k) (l := mLeft n cs m) (fun i hi => (hin i hi).1)
                rw [hKm] at hown
                rw [hs]
                have hyes := fun hf => mLeft_yes (n := n) hlen hf
                have hnoo := fun hf => mLeft_no (n := n) hlen hf
                have hall : ∀ i ∈ List.range (k + 1) ++ mLeft n cs m, i < K := fun i hi => by
                  rcases List.mem_append.1 hi with h9 | h9
                  · have := List.mem_range.1 h9; omega
                  · exact (hin i h9).2
                have hlist : List.range (k + 1) ++ mLeft n cs m = List.range k ++ k :: mLeft n cs m := by rw [List.range_succ]; simp
                obtain ⟨lf, hlf⟩ : ∃ lf, List.range (k + 1) ++ mLeft n cs m = lf := ⟨_, rfl⟩
                rw [hlf] at hown hfil hall hlist
                have hlfl : lf.length ≤ 400 := by rw [← hlf]; simp; omega
                have Hfil := Lib.hid hfil
                have Hall := Lib.hid hall
                have Hlist := Lib.hid hlist
                have Hyes := Lib.hid hyes
                have Hnoo := Lib.hid hnoo
                have Hlen := Lib.hid hlen
                obtain ⟨A1, c1, he1, hI⟩ := il_own hown
                cases he1
                obtain ⟨zl, hzl⟩ : ∃ zl, lf.length = zl := ⟨_, rfl⟩
                rw [hzl] at hI
                have Hzl := Lib.hid hzl
                have hkK : k < K := by omega
                have hzl4 : zl ≤ 400 := by have := Hzl.out; omega
                have hX := hbr.size
                have hmK : m < K := hltm
                rw [Hzl.out]
                obtain ⟨wo, hwo⟩ : ∃ wo, wo = wr := ⟨_, rfl⟩
                subst hwo
                clear hk hs hKm hlen hin hml hfil hyes hnoo hall hlist hlf hzl
                go_wp2_with fail
                go_loopw [11, 12, 13] (fun s t i wx => ∃ q : Nat, q ≤ zl ∧ i = .int .i64 q ∧ ∃ (A2 : Option Addr) (n2 c2 : Nat) (A3 : Option Addr) (n3 c3 : Nat) (xs : List Value), s = .slice A2 n2 c2 ∧ t = .slice A3 n3 c3 ∧ wx.ownsRow wo.heap.size 3 1 (.slice A2 n2 c2) ((lf.take q).filter fun i => i != k).length (int1 (castL ((lf.take q).filter fun i => i != k))) ∧ wx.ownsRow wo.heap.size 37 4 (.slice A3 n3 c3) ((lf.take q).filter fun i => i != k).length xs ∧ CV wx w.heap.size xs (pick cs ((lf.take q).filter fun i => i != k)) ∧ Below wo.heap.size wo wx) (fun _ _ i _ => zl - (intOf i).toNat)
                case atStart => exact ⟨0, Nat.zero_le _, rfl, none, 0, 0, none, 0, 0, [], rfl, rfl, World.ownsRow_nil _ _ _ _, World.ownsRow_nil _ _ _ _, CV.nil _ _, Below.refl _ _⟩
                case round =>
                  obtain ⟨q, hq, rfl, A2, n2, c2, A3, n3, c3, xs, rfl, rfl, hown2, hown3, hcv, hbx⟩ := hrel
                  have hbw := hbr.trans (hbx.mono hX)
                  have hszx := hbx.size
                  by_cases hltq : q < zl
                  · have hqi : (q : Int) < (zl : Int) := by omega
                    obtain ⟨z, hz⟩ : ∃ z, lf[q]? = some z := ⟨_, List.getElem?_eq_getElem (by have := Hzl.out; omega)⟩
                    have hzK := Hall.out z (List.mem_of_getElem? hz)
                    obtain ⟨b1, o1, x1, rfl, hbl1, hx1, y1⟩ := (hI.below hbx).at_ hltq
                    obtain rfl : x1 = (z : Int) := by
                      simp [castL, hz] at hx1
                      exact hx1.symm
                    have Hst : Hid ((lf.take (q + 1)).filter (fun i => i != k) = if z = k then (lf.take q).filter (fun i => i != k) else (lf.take q).filter (fun i => i != k) ++ [z]) := by rw [Hid, take_snoc hz, filter_snoc]
                    have hfq : ((lf.take q).filter fun i => i != k).length ≤ 400 := by
                      have h1 := List.length_filter_le (fun i => i != k) (lf.take q)
                      rw [List.length_take] at h1
                      omega
                    generalize (lf.take q).filter (fun i => i != k) = fq at hown2 hown3 hcv Hst hfq
                    clear hx1 hz
                    by_cases hzk : z = k
                    · subst hzk
                      rw [if_pos rfl] at Hst
                      go_wp2_with fail
                      go_roundw
                      case rel => exact ⟨q + 1, by omega, by go_num, A2, n2, c2, A3, n3, c3, xs, rfl, rfl, by rw [Hst.out]; exact hown2, by rw [Hst.out]; exact hown3, by rw [Hst.out]; exact hcv, hbx⟩
                      case measure => simp [intOf]; omega
                    · rw [if_neg hzk] at Hst
                      have hzki : ((z : Int) == (k : Int)) = false := by simp; omega
                      have hzki2 : ((z : Int) != (k : Int)) = true := by simp; omega
                      have hzk3 : ¬ (z : Int) = (k : Int) := by omega
                      have hap := own_apart hown2 hown3 (by decide)
                      have hownX : ∀ W, Below wr.heap.size wr W → W.ownsRow wo.heap.size 3 1 (.slice A2 n2 c2) fq.length (int1 (castL fq)) := fun W hW => own_below hown2 hW
                      have hbl1w : b1 < wr.heap.size := by omega
                      go_wp2_with (at_builtin; refine wpList_append_own _ rfl _ _ 25 rfl wo.heap.size 3 i0 (.int .i64 0) 1 8 Try.underlying25 hi hz0 hz1 hz2 rfl (by decide) (.slice A2 n2 c2) fq.length (int1 (castL fq)) rfl (hownX _ ((Below.refl _ wr).alloc (Nat.le_refl _) _)) _ 1 1 [.int .i64 z] rfl rfl (newI rfl) newI_one (by unfold maxLen; omega) (by omega) (by simp; omega) ?_)
                      intro v6 w6 hown6 hgrow6 _
                      have hb6 : Below wo.heap.size wr w6 := ((Below.refl _ wr).alloc (by omega) _).grown hgrow6 (by simp; omega) (fun j hj => (hown2.lt j hj).1)
                      have hown7 : w6.ownsRow wo.heap.size 3 1 v6 (fq ++ [z]).length (int1 (castL (fq ++ [z]))) := by
                        rw [castL_snoc, int1_app, List.length_append]
                        exact hown6
                      have hown3' : w6.ownsRow wo.heap.size 37 4 (.slice A3 n3 c3) fq.length xs := own_grown (own_below hown3 ((Below.refl _ wr).alloc (Nat.le_refl _) (.cells #[.int .i64 z] 3))) hgrow6 hap
                      obtain ⟨A7, n7, c7, rfl⟩ : ∃ A n c, v6 = Value.slice A n c := by
                        obtain ⟨A, c, h, _⟩ := il_own (l := castL (fq ++ [z])) hown7
                        exact ⟨_, _, _, h⟩
                      have hbx6 := hbx.trans hb6
                      have hbw6 := hbr.trans (hbx6.mono hX)
                      have hszx6 := hbx6.size
                      have y6 := (hb6.cell (p := ⟨b1, o1 + q, none⟩) hbl1).trans y1
                      have hcv6 := hcv.below (hb6.mono hX)
                      obtain ⟨b, off, x, D1, k1, e1, D2, k2, e2, rfl, hbl, hx, g0, g1, g2, g3, px, py, s1, t1, s2, t2⟩ := (h.below hbw6).at_ hzK
                      have hone := (CV.one (w := w6) (B := w.heap.size) (c := x) ⟨D1, k1, e1, rfl, px, s1, t1⟩ ⟨D2, k2, e2, rfl, py, s2, t2⟩).oneCell
                      have hone' : ∀ u ∈ conV x D1 k1 e1 D2 k2 e2, u.oneCell' = true := hone
                      have hcv7 := hcv6.append (CV.one (w := w6) (B := w.heap.size) (c := x) ⟨D1, k1, e1, rfl, px, s1, t1⟩ ⟨D2, k2, e2, rfl, py, s2, t2⟩)
                      have hpk : Hid (pick cs (fq ++ [z]) = pick cs fq ++ [x]) := by rw [Hid, pick_app, pick_one hx]
                      rw [← hpk.out] at hcv7
                      have hap2 := own_apart hown3' hown7 (by decide)
                      have hownY : ∀ W, Below w6.heap.size w6 W → W.ownsRow wo.heap.size 37 4 (.slice A3 n3 c3) fq.length xs := fun W hW => own_below hown3' hW
                      have hzki4 : (z : Int) < (K : Int) := by omega
                      have hbb : b < w6.heap.size := by have := hbw6.size; omega
                      clear hown6 hgrow6 hownX y1 hcv hcv6 hown2 hown3 hap hx px py hone
                      go_wp2_with (at_builtin; refine wpList_append_own _ rfl _ _ 22 rfl wo.heap.size 37 j0 (.agg #[.int .i64 0, .slice none 0 0, .int .i64 0, .slice none 0 0]) 4 64 Try.underlying22 hj hy0 hy1 hy2 rfl (by decide) (.slice A3 n3 c3) fq.length xs rfl (hownY _ ((Below.refl _ w6).alloc (Nat.le_refl _) _)) _ 1 1 (conV x D1 k1 e1 D2 k2 e2) rfl rfl (news4c rfl) hone' (by unfold maxLen; omega) (by omega) (by simp; omega) ?_)
                      intro v8 w8 hown8 hgrow8 _
                      have hb8 : Below wo.heap.size w6 w8 := ((Below.refl _ w6).alloc (by omega) _).grown hgrow8 (by simp; omega) (fun j hj => (hown3'.lt j hj).1)
                      have hown9 : w8.ownsRow wo.heap.size 3 1 (.slice A7 n7 c7) (fq ++ [z]).length (int1 (castL (fq ++ [z]))) := own_grown (own_below hown7 ((Below.refl _ w6).alloc (Nat.le_refl _) (.cells #[.int .i64 x.1.1, .slice D1 k1 e1, .int .i64 x.2.1, .slice D2 k2 e2] 37))) hgrow8 hap2
                      have hcv9 := hcv7.below (hb8.mono hX)
                      have hown8' : w8.ownsRow wo.heap.size 37 4 v8 (fq ++ [z]).length (xs ++ conV x D1 k1 e1 D2 k2 e2) := by rw [List.length_append]; exact hown8
                      have hbx8 := hbx6.trans hb8
                      obtain ⟨A9, c9, rfl, _, _, _⟩ := CL.of_own hown8' hcv9 (by have := hbx8.size; omega)
                      clear hown8 hgrow8 hownY
                      go_wp2_with fail
                      go_roundw
                      case rel => exact ⟨q + 1, by omega, by go_num, A7, n7, c7, A9, _, c9, _, rfl, rfl, by rw [Hst.out]; exact hown9, by rw [Hst.out]; exact hown8', by rw [Hst.out]; exact hcv9, hbx8⟩
                      case measure => simp [intOf]; omega
                  · have hqi : ¬ (q : Int) < (zl : Int) := by omega
                    have htk : (lf.take q).filter (fun i => i != k) = List.range k ++ mLeft n cs m := by rw [List.take_of_length_le (by have := Hzl.out; omega)]; exact Hfil.out
                    rw [htk] at hown2 hown3 hcv
                    obtain ⟨b, off, x, D1, k1, e1, D2, k2, e2, rfl, hbl, hx, g0, g1, g2, g3, px, py, s1, t1, s2, t2⟩ := (h.below hbw).at_ hkK
                    have hfo : foC n cs k = edgC n x k := foC_at hx
                    have hfe : Hid (folB (Sat fun e => e ∈ esA n (pick cs (List.range k ++ mLeft n cs m))) (edgC n x 0) = mFol n cs k (mLeft n cs m)) := by
                      unfold Hid mFol
                      rw [hfo]
                      exact folB_congr (fun y => Iff.rfl) (fun y => edgC_k.symm)
                    have hxc := Hcs.out x (List.mem_of_getElem? hx)
                    obtain ⟨_, _, he, hCL, _, _⟩ := CL.of_own hown3 hcv (by omega)
                    injection he with he1 he2 he3
                    subst he1
                    subst he3
                    rw [← he2] at hCL
                    have hnl : (List.range k ++ mLeft n cs m).length ≤ 400 := by
                      have := mLeft_len (n := n) (cs := cs) (m := m)
                      simp; omega
                    rw [← he2] at hnl
                    have hF := rfollows_any n _ _ c3 (pick cs (List.range k ++ mLeft n cs m)) x D1 k1 e1 D2 k2 e2 wr hCL (pick_con Hcs.out _) f1 (by omega) (px.more hbw.size) (py.more hbw.size) hxc
                    rw [hfe.out] at hF
                    have hki : (k : Int) < (K : Int) := by omega
                    clear he2 hCL hxc hfo hx hown3 hcv htk
                    cases hf : mFol n cs k (mLeft n cs m)
                    · rw [hf] at hF
                      have HF := Lib.hid hF
                      have hno := Lib.hid (Hnoo.out hf)
                      clear hF hf hfe
                      go_wp2_with fail
                      with_reducible refine HF.out.mono ?_
                      rintro e w5 ⟨rfl, hb5⟩
                      have hb5' : Below wo.heap.size wo w5 := hbx.trans (hb5.mono hszx)
                      go_wp2_with fail
                      go_roundw
                      case rel => exact ⟨m + 1, by omega, Hidx.out, A', zl, c', rfl, by rw [hKm1, hno.out, ← Hlist.out]; have h9 := own_below hown hb5'; rw [Hzl.out] at h9 ⊢; exact h9, hbr.trans (hb5'.mono hX)⟩
                      case measure => simp [intOf] <;> omega
                    · rw [hf] at hF
                      have HF := Lib.hid hF
                      have hyes := Lib.hid (Hyes.out hf)
                      clear hF hf hfe
                      go_wp2_with fail
                      with_reducible refine HF.out.mono ?_
                      rintro e w5 ⟨rfl, hb5⟩
                      have hb5' : Below wo.heap.size wo w5 := hbx.trans (hb5.mono hszx)
                      go_wp2_with fail
                      go_roundw
                      case rel => exact ⟨m + 1, by omega, Hidx.out, A2, n2, c2, rfl, by rw [hKm1, hyes.out]; exact own_lower (own_below hown2 hb5) hX, hbr.trans (hb5'.mono hX)⟩
                      case measure => simp [intOf] <;> omega
              · have hmK : m = K := by omega
                have hs : ¬ (0 : Int) ≤ (K : Int) - 1 - (m : Int) := by omega
                rw [hmK, Nat.sub_self, List.range_zero, List.nil_append] at hown
                have hmin : castL (mLeft n cs K) = minL n cs := by unfold minL; rw [Hl.out]; rfl
                have hml : (minL n cs).length = (mLeft n cs K).length := by rw [← hmin, castL_len]
                rw [hmin, ← hml] at hown
                clear hmK hmin hml
                go_wp2_with fail
                go_ret2
                exact ⟨hbr, .inr (.inr ⟨Hg.out, hl200.out, n, rfl, .inr ⟨hex.out, _, rfl, hown⟩⟩)⟩

theorem MinPost.shape {v : Int} {cs : List LCn} {w w1 : World} {e : Ending} (h : MinPost v cs w e w1) : ∃ A n c er, e = .returned (.tuple #[.slice A n c, .int .i64 er]) := by
  obtain ⟨_, h⟩ := h
  rcases h with ⟨_, rfl⟩ | ⟨_, _, rfl⟩ | ⟨_, _, n, _, ⟨rfl, _⟩ | ⟨_, u, rfl, h3⟩⟩
  · exact ⟨_, _, _, _, rfl⟩
  · exact ⟨_, _, _, _, rfl⟩
  · exact ⟨_, _, _, _, rfl⟩
  · obtain ⟨A, c, rfl, _⟩ := il_own h3
    exact ⟨_, _, _, _, rfl⟩
theorem minL_len {n : Nat} {cs : List LCn} : (minL n cs).length ≤ cs.length := by
  unfold minL
  rw [List.length_map]
  exact mLeft_len
/-- both programs leave the same -/
theorem MinPost.same {v : Int} {cs : List LCn} {w w1 w2 : World} {e d : Ending} (h : MinPost v cs w e w1) (g : MinPost v cs w1 d w2) :
    ∃ A n cA B cB er l, e = .returned (.tuple #[.slice A n cA, .int .i64 er]) ∧ d = .returned (.tuple #[.slice B n cB, .int .i64 er]) ∧ IL w2 w2.heap.size A n l ∧ IL w2 w2.heap.size B n l ∧ n ≤ 1000000 := by
  obtain ⟨hb1, h⟩ := h
  obtain ⟨hb2, g⟩ := g
  have hnil : IL w2 w2.heap.size none 0 [] := ⟨rfl, fun h => by omega⟩
  rcases h with ⟨h1, rfl⟩ | ⟨h1, h2, rfl⟩ | ⟨h1, h2, n, rfl, h3⟩ <;> rcases g with ⟨g1, rfl⟩ | ⟨g1, g2, rfl⟩ | ⟨g1, g2, m, gm, g3⟩
  · exact ⟨_, _, _, _, _, _, _, rfl, rfl, hnil, hnil, by omega⟩
  · rw [h1] at g1; cases g1
  · rw [h1] at g1; cases g1
  · rw [h1] at g1; cases g1
  · exact ⟨_, _, _, _, _, _, _, rfl, rfl, hnil, hnil, by omega⟩
  · omega
  · rw [h1] at g1; cases g1
  · omega
  · obtain rfl : n = m := by omega
    rcases h3 with ⟨rfl, h4⟩ | ⟨⟨y, hy⟩, u, rfl, h4⟩ <;> rcases g3 with ⟨rfl, g4⟩ | ⟨⟨z, hz⟩, u', rfl, g4⟩
    · exact ⟨_, _, _, _, _, _, _, rfl, rfl, hnil, hnil, by omega⟩
    · exact (h4 _ hz).elim
    · exact (g4 _ hy).elim
    · obtain ⟨A, cA, rfl, hA⟩ := il_own h4
      obtain ⟨B, cB, rfl, hB⟩ := il_own g4
      have := minL_len (n := n) (cs := cs)
      exact ⟨_, _, _, _, _, _, _, rfl, rfl, (hA.below hb2).more hb2.size, hB, by omega⟩

set_option maxRecDepth 100000 in
set_option maxHeartbeats 4000000 in
theorem lawMinimal_any (v : Int) (A : Option Addr) (K cap : Nat) (cs : List LCn) (w : World) (h : CL w w.heap.size A K cs) (hK : K ≤ 9223372036854775807) :
    Calls Try.prog 5 #[.int .i64 v, .slice A K cap] w fun e w' => e = .returned (.bool true) ∧ Below w.heap.size w w' := by
  have h40 := Lib.hid (heavy_any v 40 A K cap cs w h hK)
  have h400 := Lib.hid (heavy_any v 400 A K cap cs w h hK)
  have hA := Lib.hid (minimal_any v A K cap cs w h hK)
  go_enter Try.func5, Try.ntmps5
  go_upto_region 1 with fail
  go_cut [25] (fun t wx => wx = w ∧ (t = .bool true ∨ t = .bool false))
  case first =>
    cases b1 : heavyB v 40 cs
    · rw [b1] at h40
      go_wp2_with fail
      refine h40.out.mono ?_
      rintro e w1 ⟨rfl, rfl⟩
      go_wp2_with fail
      go_meet
      exact ⟨rfl, .inr rfl⟩
    · rw [b1] at h40
      cases b2 : heavyB v 400 cs
      · rw [b2] at h400
        by_cases c1 : (40 : Int) < v
        · go_wp2_with fail
          refine h40.out.mono ?_
          rintro e w1 ⟨rfl, rfl⟩
          go_wp2_with fail
          refine h400.out.mono ?_
          rintro e w2 ⟨rfl, rfl⟩
          go_wp2_with fail
          go_meet
          exact ⟨rfl, .inl rfl⟩
        · by_cases c2 : (K : Int) ≤ 200
          · go_wp2_with fail
            refine h40.out.mono ?_
            rintro e w1 ⟨rfl, rfl⟩
            go_wp2_with fail
            refine h400.out.mono ?_
            rintro e w2 ⟨rfl, rfl⟩
            go_wp2_with fail
            go_meet
            exact ⟨rfl, .inl rfl⟩
          · go_wp2_with fail
            refine h40.out.mono ?_
            rintro e w1 ⟨rfl, rfl⟩
            go_wp2_with fail
            refine h400.out.mono ?_
            rintro e w2 ⟨rfl, rfl⟩
            go_wp2_with fail
            go_meet
            exact ⟨rfl, .inr (congrArg Value.bool (by rw [decide_eq_false (show ¬ (40 : Int) < v by omega), decide_eq_false (show ¬ (K : Int) ≤ 200 by omega)]; rfl))⟩
      · rw [b2] at h400
        go_wp2_with fail
        refine h40.out.mono ?_
        rintro e w1 ⟨rfl, rfl⟩
        go_wp2_with fail
        refine h400.out.mono ?_
        rintro e w2 ⟨rfl, rfl⟩
        go_wp2_with fail
        go_meet
        exact ⟨rfl, .inl rfl⟩
  case rest =>
    obtain ⟨rfl, rfl | rfl⟩ := hcut
    · go_wp2_with fail
      refine (awake_any _).mono ?_
      rintro e w2 ⟨rfl, hb2⟩
      go_wp2_with fail
      go_ret
      exact ⟨rfl, hb2⟩
    · clear h40 h400
      go_wp2_with fail
      refine hA.out.mono ?_
      intro e w2 hp
      have hb2 := hp.1
      have hB := Lib.hid ((rminimal_any v A K cap cs w2 ((h.below hb2).more hb2.size) hK).mono fun d w' hd => And.intro hd.1 (hp.same hd))
      obtain ⟨A1, n1, c1, er, rfl⟩ := hp.shape
      clear hp
      go_wp2_with fail
      refine hB.out.mono ?_
      rintro d w3 ⟨hb3, A', n', cA, B, cB, er', l, e1, rfl, hIA, hIB, hn'⟩
      simp only [Ending.returned.injEq, Value.tuple.injEq, Array.mk.injEq, List.cons.injEq, Value.slice.injEq, Value.int.injEq, true_and, and_true] at e1
      obtain ⟨⟨rfl, rfl, rfl⟩, rfl⟩ := e1
      have hb23 : Below wc.heap.size wc w3 := hb2.trans (hb3.mono hb2.size)
      have HQ := Lib.hid (eqInts_true A1 n1 c1 B cB l w3 hIA hIB hn')
      clear hIA hIB hB
      go_wp2_with fail
      refine HQ.out.mono ?_
      rintro e w4 ⟨rfl, hb4⟩
      go_wp2_with fail
      refine (awake_any _).mono ?_
      rintro e w5 ⟨rfl, hb5⟩
      go_wp2_with fail
      go_ret
      exact ⟨rfl, hb23.trans ((Below.trans hb4 (hb5.mono hb4.size)).mono hb23.size)⟩
end Go.Proofs.Ytolilmodihgaiaa
