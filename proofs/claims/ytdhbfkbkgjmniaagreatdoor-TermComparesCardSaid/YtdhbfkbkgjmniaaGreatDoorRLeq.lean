/-
  'Leq' of the reference, and 'Equal' of both packages: the same Bool as package level's Leq, for every two levels.
-/
import Derived.Test.YtdhbfkbkgjmniaaGreatDoorLeq
namespace Go.Proofs.YtdhbfkbkgjmniaaGreatDoor
open Go Go.RowKit

theorem lst_le {ca cb : Int} {la lb : List (Int × Int)} (ha : 0 ≤ ca) (hb : 0 ≤ cb) (hc : ∀ x ∈ la, cov lb x = true) : lst ca la ≤ lst cb lb ↔ ca ≤ max cb (gplus lb) := by
  rw [lst_eq ha, lst_eq hb]
  have : gplus la ≤ gplus lb := gplus_le (gplus_nn lb).1 fun x hx => by
    obtain ⟨y, hy, h⟩ := List.any_eq_true.1 (hc x hx)
    simp only [Bool.and_eq_true, decide_eq_true_eq] at h
    have := (gplus_nn lb).2 y hy
    omega
  omega
theorem leqv_lst {ca cb : Int} {la lb : List (Int × Int)} (h1 : vld ca la = true) (h2 : vld cb lb = true) : leqv ca la cb lb = (decide (lst ca la ≤ lst cb lb) && la.all (cov lb)) := by
  have e1 := (vld_c h1).1
  have e2 := (vld_c h2).1
  rw [leqv, h1, h2, Bool.eq_iff_iff]
  simp only [Bool.and_eq_true, decide_eq_true_eq, List.all_eq_true, true_and]
  exact ⟨fun h => ⟨(lst_le e1 e2 h.2).2 h.1, h.2⟩, fun h => ⟨(lst_le e1 e2 h.2).1 h.1, h.2⟩⟩

set_option maxRecDepth 100000 in
set_option maxHeartbeats 4000000 in
theorem refLeq_any (ca : Int) (A : Option Addr) (n capA : Nat) (la : List (Int × Int)) (cb : Int) (B : Option Addr) (m capB : Nat) (lb : List (Int × Int)) (w : World)
    (ha : PL w w.heap.size A n la) (hn : n ≤ capA) (hca : capA ≤ 9223372036854775807) (hb : PL w w.heap.size B m lb) (hm : m ≤ capB) (hcb : capB ≤ 9223372036854775807) :
    Calls Tryz.prog 186 #[.agg #[.int .i64 ca, .slice A n capA], .agg #[.int .i64 cb, .slice B m capB]] w fun e w' => e = .returned (.bool (leqv ca la cb lb)) ∧ Below w.heap.size w w' := by
  have hl := fun p : Bel (w.heap.size + 2) ((w.alloc (.cells #[.int .i64 ca, .slice A n capA] 34)).alloc (.cells #[.int .i64 cb, .slice B m capB] 34)) => (box2 p.h).1.1
  have hl2 := fun p : Bel (w.heap.size + 2) ((w.alloc (.cells #[.int .i64 ca, .slice A n capA] 34)).alloc (.cells #[.int .i64 cb, .slice B m capB] 34)) => (box2 p.h).1.2.1
  have hl3 := fun p : Bel (w.heap.size + 2) ((w.alloc (.cells #[.int .i64 ca, .slice A n capA] 34)).alloc (.cells #[.int .i64 cb, .slice B m capB] 34)) => (box2 p.h).1.2.2.1
  have hl4 := fun p : Bel (w.heap.size + 2) ((w.alloc (.cells #[.int .i64 ca, .slice A n capA] 34)).alloc (.cells #[.int .i64 cb, .slice B m capB] 34)) => (box2 p.h).1.2.2.2
  have hvA := fun p : Bel (w.heap.size + 2) ((w.alloc (.cells #[.int .i64 ca, .slice A n capA] 34)).alloc (.cells #[.int .i64 cb, .slice B m capB] 34)) =>
    refValid_any ca A n capA la p.v (ha.lift (box2 p.h).2.2) hn hca
  have hvB := fun p : Bel (w.heap.size + 2) ((w.alloc (.cells #[.int .i64 ca, .slice A n capA] 34)).alloc (.cells #[.int .i64 cb, .slice B m capB] 34)) =>
    refValid_any cb B m capB lb p.v (hb.lift (box2 p.h).2.2) hm hcb
  have hlA := fun p : Bel (w.heap.size + 2) ((w.alloc (.cells #[.int .i64 ca, .slice A n capA] 34)).alloc (.cells #[.int .i64 cb, .slice B m capB] 34)) =>
    least_any ca A n capA la p.v (ha.lift (box2 p.h).2.2) (by omega)
  have hlB := fun p : Bel (w.heap.size + 2) ((w.alloc (.cells #[.int .i64 ca, .slice A n capA] 34)).alloc (.cells #[.int .i64 cb, .slice B m capB] 34)) =>
    least_any cb B m capB lb p.v (hb.lift (box2 p.h).2.2) (by omega)
  have HlA := Lib.hid hlA; clear hlA
  have HlB := Lib.hid hlB; clear hlB
  cases h1 : vld ca la
  · have Hf : Hid (leqv ca la cb lb = false) := leqv_not fun h => by simp [h1] at h
    rw [h1] at hvA
    have H1 := Lib.hid h1; clear h1
    have HvA := Lib.hid hvA; clear hvA
    clear hvB
    go_enter Tryz.func186, Tryz.ntmps186
    go_wp2_with fail
    refine wp_region_bel (w.heap.size + 2) _ (by kernel_rfl) (by kernel_rfl) (Below.refl _ _) ?_
    repeat (quiet_step ((go_at_call 109; exact Calls.bel_of (by simp) (HvA.out _))))
    refine wpQuiet_nil ?_
    rintro _ ⟨pq, rfl⟩
    obtain ⟨_, _, hbq⟩ := box2 pq.h
    clear hl hl2 hl3 hl4
    go_wp2
    go_ret
    exact ⟨ret_bool Hf.out.symm, hbq⟩
  rw [h1] at hvA
  have HvA := Lib.hid hvA; clear hvA
  cases h2 : vld cb lb
  · have Hf : Hid (leqv ca la cb lb = false) := leqv_not fun h => by simp [h2] at h
    rw [h2] at hvB
    have H1 := Lib.hid h1; clear h1
    have H2 := Lib.hid h2; clear h2
    have HvB := Lib.hid hvB; clear hvB
    go_enter Tryz.func186, Tryz.ntmps186
    go_wp2_with fail
    refine wp_region_bel (w.heap.size + 2) _ (by kernel_rfl) (by kernel_rfl) (Below.refl _ _) ?_
    repeat (quiet_step (first | (go_at_call 109; with_reducible exact Calls.bel_of (by simp) (HvA.out _)) | (go_at_call 109; with_reducible exact Calls.bel_of (by simp) (HvB.out _))))
    refine wpQuiet_nil ?_
    rintro _ ⟨pq, rfl⟩
    obtain ⟨_, _, hbq⟩ := box2 pq.h
    clear hl hl2 hl3 hl4
    go_wp2
    go_ret
    exact ⟨ret_bool Hf.out.symm, hbq⟩
  rw [h2] at hvB
  have HvB := Lib.hid hvB; clear hvB
  have hlv := leqv_lst h1 h2
  by_cases h3 : lst ca la ≤ lst cb lb
  case neg =>
    have Hf : Hid (leqv ca la cb lb = false) := by rw [Hid, hlv]; simp [h3]
    clear h1 h2 hlv
    go_enter Tryz.func186, Tryz.ntmps186
    go_wp2_with fail
    refine wp_region_bel (w.heap.size + 2) _ (by kernel_rfl) (by kernel_rfl) (Below.refl _ _) ?_
    repeat (quiet_step (first | (go_at_call 109; with_reducible exact Calls.bel_of (by simp) (HvA.out _)) | (go_at_call 109; with_reducible exact Calls.bel_of (by simp) (HvB.out _)) | (go_at_call 217; with_reducible exact Calls.bel_of (by simp) (HlA.out _)) | (go_at_call 217; with_reducible exact Calls.bel_of (by simp) (HlB.out _))))
    refine wpQuiet_nil ?_
    rintro _ ⟨pq, rfl⟩
    obtain ⟨_, _, hbq⟩ := box2 pq.h
    clear hl hl2 hl3 hl4
    generalize lst ca la = x1 at h3 ⊢
    generalize lst cb lb = x2 at h3 ⊢
    go_wp2
    go_ret
    exact ⟨ret_bool Hf.out.symm, hbq⟩
  have Hl : Hid (leqv ca la cb lb = la.all (cov lb)) := by rw [Hid, hlv]; simp [h3]
  clear h1 h2 hlv
  go_enter Tryz.func186, Tryz.ntmps186
  go_wp2_with fail
  refine wp_region_bel (w.heap.size + 2) _ (by kernel_rfl) (by kernel_rfl) (Below.refl _ _) ?_
  repeat (quiet_step (first | (go_at_call 109; with_reducible exact Calls.bel_of (by simp) (HvA.out _)) | (go_at_call 109; with_reducible exact Calls.bel_of (by simp) (HvB.out _)) | (go_at_call 217; with_reducible exact Calls.bel_of (by simp) (HlA.out _)) | (go_at_call 217; with_reducible exact Calls.bel_of (by simp) (HlB.out _))))
  refine wpQuiet_nil ?_
  rintro _ ⟨pq, rfl⟩
  have hbq := pq.h
  clear hl hl2 hl3 hl4
  generalize pq.v = w3 at hbq ⊢
  generalize lst ca la = x1 at h3 ⊢
  generalize lst cb lb = x2 at h3 ⊢
  go_wp2
  go_loopw [5] (fun i wr => ∃ k : Nat, k ≤ n ∧ i = .int .i64 k ∧ (∀ x ∈ la.take k, cov lb x = true) ∧ Below (w.heap.size + 2) ((w.alloc (.cells #[.int .i64 ca, .slice A n capA] 34)).alloc (.cells #[.int .i64 cb, .slice B m capB] 34)) wr) (fun i _ => n - (intOf i).toNat)
  case atStart => exact ⟨0, Nat.zero_le _, rfl, (fun x hx => by simp at hx), hbq⟩
  case round =>
    obtain ⟨k, hk, rfl, hcv, hbr⟩ := hrel
    have Hcv := Lib.hid hcv; clear hcv
    obtain ⟨⟨g1, g2, g3, g4⟩, hsr, hbwr⟩ := box2 hbr
    by_cases hlt : k < n
    · go_wp2
      obtain ⟨wo, rfl⟩ : ∃ wo : World, wo = wr := ⟨_, rfl⟩
      obtain ⟨b, off, x, rfl, hbl, hx, _, _⟩ := (ha.below hbwr).at_ hlt
      go_loopw [6, 7] (fun f i wr => ∃ j : Nat, j ≤ m ∧ i = .int .i64 j ∧ f = .bool (cov (lb.take j) x) ∧ Below (w.heap.size + 2) ((w.alloc (.cells #[.int .i64 ca, .slice (some ⟨b, off, none⟩) n capA] 34)).alloc (.cells #[.int .i64 cb, .slice B m capB] 34)) wr) (fun _ i _ => m - (intOf i).toNat)
      case atStart => exact ⟨0, Nat.zero_le _, rfl, rfl, hbr⟩
      case round =>
        obtain ⟨j, hj, rfl, rfl, hb2⟩ := hrel
        clear g1 g2 g3 g4
        obtain ⟨⟨g1, g2, g3, g4⟩, hsr2, hbw2⟩ := box2 hb2
        by_cases hjm : j < m
        · obtain ⟨b2, off2, y, rfl, _, hy, hy0, hy1⟩ := (hb.below hbw2).at_ hjm
          obtain ⟨b', off', x', hA, _, hx', hx0, hx1⟩ := (ha.below hbw2).at_ hlt
          obtain ⟨rfl, rfl⟩ : b = b' ∧ off = off' := by simpa using hA
          obtain rfl : x = x' := Option.some.inj (hx.symm.trans hx')
          clear hA
          have hcs := cov_snoc (lb.take j) x y
          rw [← take_snoc hy] at hcs
          by_cases he : y.1 = x.1
          · have hd : (y.1 == x.1) = true := by simp [he]
            by_cases hg : x.2 ≤ y.2
            · have Hs : Hid (cov (lb.take (j + 1)) x = true) := by rw [Hid, hcs, hd]; simp [hg]
              clear he hcs
              go_wp2
              go_quiet (fail)
              go_wp2
              go_roundw
              case rel => exact ⟨j + 1, by omega, by go_num, by rw [Hs.out], below_drewN hb2 _⟩
              case measure => simp [intOf]; omega
            · have Hs : Hid (cov (lb.take (j + 1)) x = cov (lb.take j) x) := by rw [Hid, hcs, hd]; simp [hg]
              clear he hcs
              go_wp2
              go_quiet (fail)
              go_wp2
              go_roundw
              case rel => exact ⟨j + 1, by omega, by go_num, by rw [Hs.out], below_drewN hb2 _⟩
              case measure => simp [intOf]; omega
          · have hd : (y.1 == x.1) = false := by simp [he]
            have Hs : Hid (cov (lb.take (j + 1)) x = cov (lb.take j) x) := by rw [Hid, hcs, hd]; simp
            clear he hcs
            go_wp2
            go_quiet (fail)
            go_wp2
            go_roundw
            case rel => exact ⟨j + 1, by omega, by go_num, by rw [Hs.out], below_drewN hb2 _⟩
            case measure => simp [intOf]; omega
        · have hfull : lb.take j = lb := List.take_of_length_le (by have := hb.1; omega)
          rw [hfull]
          clear hfull
          cases hcov : cov lb x
          · have Hf : Hid (leqv ca la cb lb = false) := by
              rw [Hid, Hl.out, List.all_eq_false]
              exact ⟨x, List.mem_of_getElem? hx, by simp [hcov]⟩
            clear hcov
            go_wp2
            go_ret
            exact ⟨ret_bool Hf.out.symm, hbw2⟩
          · have Hc := Lib.hid hcov; clear hcov
            go_wp2
            go_roundw
            case rel =>
              refine ⟨k + 1, by omega, by go_num, fun y hy => ?_, hb2⟩
              rw [take_snoc hx] at hy
              rcases List.mem_append.1 hy with hy | hy
              · exact Hcv.out y hy
              · obtain rfl := List.mem_singleton.1 hy; exact Hc.out
            case measure => simp [intOf]; omega
    · have Hf : Hid (leqv ca la cb lb = true) := by
        rw [Hid, Hl.out, List.all_eq_true]
        exact fun x hx => Hcv.out x (by rw [List.take_of_length_le (by have := ha.1; omega)]; exact hx)
      go_wp2
      go_ret
      exact ⟨ret_bool Hf.out.symm, hbwr⟩
end Go.Proofs.YtdhbfkbkgjmniaaGreatDoor
