/-
  'Leq' and 'Equal' of package level and of its reference: the same Bool for every two levels.
-/
import Derived.Test.YtdhbfkbkgjmniaaGreatDoorRVld
import Derived.Test.YtdhbfkbkgjmniaaGreatDoorCov
namespace Go.Proofs.YtdhbfkbkgjmniaaGreatDoor
open Go Go.RowKit

/-- Leq's answer -/
noncomputable def leqv (ca : Int) (la : List (Int × Int)) (cb : Int) (lb : List (Int × Int)) : Bool :=
  vld ca la && vld cb lb && decide (ca ≤ max cb (gplus lb)) && la.all (cov lb)
theorem leqv_not {ca cb : Int} {la lb : List (Int × Int)} (h : ¬ (vld ca la = true ∧ vld cb lb = true ∧ ca ≤ max cb (gplus lb) ∧ ∀ x ∈ la, cov lb x = true)) : leqv ca la cb lb = false := by
  rw [← Bool.not_eq_true]
  intro h'
  simp only [leqv, Bool.and_eq_true, decide_eq_true_eq, List.all_eq_true] at h'
  exact h ⟨h'.1.1.1, h'.1.1.2, h'.1.2, h'.2⟩
theorem leqv_of {ca cb : Int} {la lb : List (Int × Int)} (h1 : vld ca la = true) (h2 : vld cb lb = true) (h3 : ca ≤ max cb (gplus lb)) (h4 : ∀ x ∈ la, cov lb x = true) : leqv ca la cb lb = true := by
  simp only [leqv, Bool.and_eq_true, decide_eq_true_eq, List.all_eq_true]
  exact ⟨⟨⟨h1, h2⟩, h3⟩, h4⟩

theorem gplus_nn (l : List (Int × Int)) : 0 ≤ gplus l ∧ ∀ x ∈ l, x.2 ≤ gplus l := by
  have : ∀ (l : List (Int × Int)) (t : Int), t ≤ l.foldl (fun t x => if t < x.2 then x.2 else t) t ∧ ∀ x ∈ l, x.2 ≤ l.foldl (fun t x => if t < x.2 then x.2 else t) t := by
    intro l
    induction l with
    | nil => intro t; exact ⟨Int.le_refl _, fun x h => by cases h⟩
    | cons y r ih =>
      intro t
      obtain ⟨i1, i2⟩ := ih (if t < y.2 then y.2 else t)
      simp only [List.foldl_cons]
      have h1 : t ≤ (if t < y.2 then y.2 else t) ∧ y.2 ≤ (if t < y.2 then y.2 else t) := by split <;> omega
      refine ⟨by omega, fun x hx => ?_⟩
      rcases List.mem_cons.1 hx with rfl | hx
      · omega
      · exact i2 x hx
  exact this l 0
theorem gplus_le {l : List (Int × Int)} {m : Int} (h0 : 0 ≤ m) (h : ∀ x ∈ l, x.2 ≤ m) : gplus l ≤ m := by
  have : ∀ (l : List (Int × Int)) (t : Int), t ≤ m → (∀ x ∈ l, x.2 ≤ m) → l.foldl (fun t x => if t < x.2 then x.2 else t) t ≤ m := by
    intro l
    induction l with
    | nil => intro t ht _; exact ht
    | cons y r ih =>
      intro t ht hh
      simp only [List.foldl_cons]
      refine ih _ ?_ (fun x hx => hh x (List.mem_cons_of_mem _ hx))
      have := hh y (by simp)
      split <;> omega
  exact this l 0 h0 h
theorem lst_eq {c : Int} (hc : 0 ≤ c) (l : List (Int × Int)) : lst c l = max c (gplus l) := by
  have : ∀ (l : List (Int × Int)) (c t : Int), t ≤ c → l.foldl (fun t x => if t < x.2 then x.2 else t) c = max c (l.foldl (fun t x => if t < x.2 then x.2 else t) t) := by
    intro l
    induction l with
    | nil => intro c t h; simp only [List.foldl_nil]; omega
    | cons y r ih =>
      intro c t h
      simp only [List.foldl_cons]
      by_cases h1 : c < y.2
      · rw [if_pos h1, if_pos (by omega)]
        have := ih c y.2
        have g := ih y.2 y.2 (Int.le_refl _)
        have : y.2 ≤ r.foldl (fun t x => if t < x.2 then x.2 else t) y.2 := by rw [g]; omega
        omega
      · rw [if_neg h1, ih c (if t < y.2 then y.2 else t) (by split <;> omega)]
  exact this l c 0 hc

theorem vld_c {c : Int} {l : List (Int × Int)} (h : vld c l = true) : 0 ≤ c ∧ c ≤ 1000 := ⟨(vld_iff.1 h).lo, (vld_iff.1 h).hi⟩

/-- Equal's answer -/
noncomputable def eqv (ca : Int) (la : List (Int × Int)) (cb : Int) (lb : List (Int × Int)) : Bool := leqv ca la cb lb && leqv cb lb ca la

theorem box2 {w wi : World} {x0 x1 y0 y1 : Value} {t : TypeId} (hb : Below (w.heap.size + 2) ((w.alloc (.cells #[x0, x1] t)).alloc (.cells #[y0, y1] t)) wi) :
    (wi.cell? ⟨w.heap.size, 0, none⟩ = some x0 ∧ wi.cell? ⟨w.heap.size, 1, none⟩ = some x1 ∧ wi.cell? ⟨w.heap.size + 1, 0, none⟩ = some y0 ∧ wi.cell? ⟨w.heap.size + 1, 1, none⟩ = some y1) ∧
    w.heap.size + 2 ≤ wi.heap.size ∧ Below w.heap.size w wi := by
  refine ⟨⟨(hb.cell (p := ⟨w.heap.size, 0, none⟩) (by simp)).trans (by simp), (hb.cell (p := ⟨w.heap.size, 1, none⟩) (by simp)).trans (by simp), (hb.cell (p := ⟨w.heap.size + 1, 0, none⟩) (by simp)).trans (by simp), (hb.cell (p := ⟨w.heap.size + 1, 1, none⟩) (by simp)).trans (by simp)⟩, by simpa using hb.size, ?_⟩
  exact (((Below.refl _ w).alloc (Nat.le_refl _) _).alloc (by simp) _).trans (hb.mono (by omega))
theorem PL.lift {w wi : World} {n : Nat} {A : Option Addr} {l : List (Int × Int)} (h : PL w w.heap.size A n l) (hb : Below w.heap.size w wi) : PL wi wi.heap.size A n l :=
  (h.below hb).more hb.size

set_option maxRecDepth 100000 in
set_option maxHeartbeats 4000000 in
theorem leq_any (ca : Int) (A : Option Addr) (n capA : Nat) (la : List (Int × Int)) (cb : Int) (B : Option Addr) (m capB : Nat) (lb : List (Int × Int)) (w : World)
    (ha : PL w w.heap.size A n la) (hn : n ≤ capA) (hca : capA ≤ 9223372036854775807) (hb : PL w w.heap.size B m lb) (hm : m ≤ capB) (hcb : capB ≤ 9223372036854775807) :
    Calls Tryz.prog 184 #[.agg #[.int .i64 ca, .slice A n capA], .agg #[.int .i64 cb, .slice B m capB]] w fun e w' => e = .returned (.bool (leqv ca la cb lb)) ∧ Below w.heap.size w w' := by
  have hbw : Below w.heap.size w ((w.alloc (.cells #[.int .i64 ca, .slice A n capA] 34)).alloc (.cells #[.int .i64 cb, .slice B m capB] 34)) := (box2 (Below.refl _ _)).2.2
  cases h1 : vld ca la
  · have Hf : Hid (leqv ca la cb lb = false) := leqv_not fun h => by simp [h1] at h
    have H1 := Lib.hid h1; clear h1
    go_enter Tryz.func184, Tryz.ntmps184
    go_wp2_with fail
    refine (valid_any ca A n capA la _ (ha.lift hbw) hn hca).mono ?_
    rintro e w1 ⟨rfl, hb1⟩
    rw [H1.out]
    go_wp2_with fail
    go_ret
    exact ⟨ret_bool Hf.out.symm, hbw.trans (hb1.mono hbw.size)⟩
  cases h2 : vld cb lb
  · have Hf : Hid (leqv ca la cb lb = false) := leqv_not fun h => by simp [h2] at h
    have H1 := Lib.hid h1; clear h1
    have H2 := Lib.hid h2; clear h2
    go_enter Tryz.func184, Tryz.ntmps184
    go_wp2_with fail
    refine (valid_any ca A n capA la _ (ha.lift hbw) hn hca).mono ?_
    rintro e w1 ⟨rfl, hb1⟩
    rw [H1.out]
    obtain ⟨⟨_, _, f3, f4⟩, hs1, hbw1⟩ := box2 (hb1.mono (by simp))
    go_wp2_with fail
    refine (valid_any cb B m capB lb _ (hb.lift hbw1) hm hcb).mono ?_
    rintro e w2 ⟨rfl, hb2⟩
    rw [H2.out]
    go_wp2_with fail
    go_ret
    exact ⟨ret_bool Hf.out.symm, hbw1.trans (hb2.mono hbw1.size)⟩
  have H1 := Lib.hid h1; clear h1
  have H2 := Lib.hid h2; clear h2
  go_enter Tryz.func184, Tryz.ntmps184
  go_wp2_with fail
  refine (valid_any ca A n capA la _ (ha.lift hbw) hn hca).mono ?_
  rintro e w1 ⟨rfl, hb1⟩
  rw [H1.out]
  obtain ⟨⟨_, _, f3, f4⟩, hs1, hbw1⟩ := box2 (hb1.mono (by simp))
  go_wp2_with fail
  refine (valid_any cb B m capB lb _ (hb.lift hbw1) hm hcb).mono ?_
  rintro e w2 ⟨rfl, hb2⟩
  rw [H2.out]
  have hb2' : Below (w.heap.size + 2) ((w.alloc (.cells #[.int .i64 ca, .slice A n capA] 34)).alloc (.cells #[.int .i64 cb, .slice B m capB] 34)) w2 := (hb1.mono (by simp)).trans (hb2.mono hs1)
  obtain ⟨⟨g1, g2, g3, g4⟩, hs2, hbw2⟩ := box2 hb2'
  clear f3 f4
  have r1 : ∀ p : Bel w2.heap.size w2, p.v.cell? ⟨w.heap.size, 0, none⟩ = some (.int .i64 ca) := Bel.cell (by show w.heap.size < _; omega) g1
  have r3 : ∀ p : Bel w2.heap.size w2, p.v.cell? ⟨w.heap.size + 1, 0, none⟩ = some (.int .i64 cb) := Bel.cell (by show w.heap.size + 1 < _; omega) g3
  have r4 : ∀ p : Bel w2.heap.size w2, p.v.cell? ⟨w.heap.size + 1, 1, none⟩ = some (.slice B m capB) := Bel.cell (by show w.heap.size + 1 < _; omega) g4
  have r5 : ∀ p : Bel w2.heap.size w2, PL p.v p.v.heap.size B m lb := fun p => hb.lift (hbw2.trans (p.h.mono hbw2.size))
  go_wp2_with fail
  refine wp_region_bel w2.heap.size w2 (by kernel_rfl) (by kernel_rfl) (Below.refl _ _) ?_
  repeat (quiet_step ((go_at_call 159; exact Calls.bel_of (by simp) (greatestPlus_any _ _ _ _ _ (r5 _) (by omega)))))
  refine wpQuiet_nil ?_
  rintro _ ⟨pq, rfl⟩
  have hbq : Below (w.heap.size + 2) ((w.alloc (.cells #[.int .i64 ca, .slice A n capA] 34)).alloc (.cells #[.int .i64 cb, .slice B m capB] 34)) pq.v := hb2'.trans (pq.h.mono hs2)
  have hmx : (if cb < gplus lb then gplus lb else cb) = max cb (gplus lb) := by split <;> omega
  rw [hmx]
  clear hmx r1 r3 r4 r5 g1 g2 g3 g4
  generalize pq.v = w3 at hbq ⊢
  obtain ⟨⟨g1, g2, g3, g4⟩, hs3, hbw3⟩ := box2 hbq
  by_cases h3 : ca ≤ max cb (gplus lb)
  case neg =>
    have Hf : Hid (leqv ca la cb lb = false) := leqv_not fun h => h3 h.2.2.1
    generalize max cb (gplus lb) = mx at h3 ⊢
    go_wp2
    go_ret
    exact ⟨ret_bool Hf.out.symm, hbw3⟩
  have H3 := Lib.hid h3
  generalize max cb (gplus lb) = mx at h3 ⊢
  go_wp2
  go_loopw [27] (fun i wr => ∃ k : Nat, k ≤ n ∧ i = .int .i64 k ∧ (∀ x ∈ la.take k, cov lb x = true) ∧ Below (w.heap.size + 2) ((w.alloc (.cells #[.int .i64 ca, .slice A n capA] 34)).alloc (.cells #[.int .i64 cb, .slice B m capB] 34)) wr) (fun i _ => n - (intOf i).toNat)
  case atStart => exact ⟨0, Nat.zero_le _, rfl, (fun x hx => by simp at hx), hbq⟩
  case round =>
    obtain ⟨k, hk, rfl, hcv, hbr⟩ := hrel
    have Hcv := Lib.hid hcv; clear hcv g1 g2 g3 g4
    obtain ⟨⟨g1, g2, g3, g4⟩, hsr, hbwr⟩ := box2 hbr
    have hlt0 : w.heap.size + 1 < wr.heap.size := by omega
    have hne : w.heap.size + 1 ≠ wr.heap.size := by omega
    by_cases hlt : k < n
    · obtain ⟨b, off, x, rfl, hbl, hx, hx0, hx1⟩ := (ha.below hbwr).at_ hlt
      have hbx : Below w.heap.size w (wr.alloc (.cells #[.int .i64 x.1, .int .i64 x.2] 66)) := hbwr.alloc hbwr.size _
      have hcall := covers_any B m capB lb x (wr.alloc (.cells #[.int .i64 x.1, .int .i64 x.2] 66)) (hb.lift hbx) (by omega)
      cases hcov : cov lb x
      · have Hf : Hid (leqv ca la cb lb = false) := leqv_not fun h => by
          have := h.2.2.2 x (List.mem_of_getElem? hx)
          simp [hcov] at this
        rw [hcov] at hcall
        have Hc := Lib.hid hcov; clear hcov
        go_wp2_with (go_at_call 216; refine hcall.mono ?_; rintro e w4 ⟨rfl, hb4⟩)
        go_ret
        exact ⟨ret_bool Hf.out.symm, hbx.trans (hb4.mono hbx.size)⟩
      · rw [hcov] at hcall
        have Hc := Lib.hid hcov; clear hcov
        go_wp2_with (go_at_call 216; refine hcall.mono ?_; rintro e w4 ⟨rfl, hb4⟩)
        go_roundw
        case rel =>
          refine ⟨k + 1, by omega, by go_num, fun y hy => ?_, (hbr.alloc hsr _).trans (hb4.mono (by simp; omega))⟩
          rw [take_snoc hx] at hy
          rcases List.mem_append.1 hy with hy | hy
          · exact Hcv.out y hy
          · obtain rfl := List.mem_singleton.1 hy; exact Hc.out
        case measure => simp [intOf]; omega
    · have Hf : Hid (leqv ca la cb lb = true) := leqv_of H1.out H2.out H3.out fun x hx => Hcv.out x (by rw [List.take_of_length_le (by have := ha.1; omega)]; exact hx)
      go_wp2
      go_ret
      exact ⟨ret_bool Hf.out.symm, hbwr⟩
end Go.Proofs.YtdhbfkbkgjmniaaGreatDoor
