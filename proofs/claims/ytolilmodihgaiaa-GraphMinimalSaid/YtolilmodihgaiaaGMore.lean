/-
  The law GraphMore.
-/
import Derived.Test.YtolilmodihgaiaaGFolL
import Derived.Test.YtolilmodihgaiaaGLeast
import Derived.Laws.AppendOwnNone
namespace Go.Proofs.Ytolilmodihgaiaa
open Go Go.RowKit

theorem fol_own {v : Int} {cs : List LCn} {k : Nat} {x : LCn} (hg : gvld v cs = true) (hK : cs.length ≤ 2999) (hx : cs[k]? = some x) : folV v cs x = true ∧ folC v cs x = 0 := by
  have hco : conB v x = true := by
    have h1 := hg
    unfold gvld at h1
    rw [Bool.and_eq_true] at h1
    exact List.all_eq_true.1 h1.2 x (List.mem_of_getElem? hx)
  have hok : folOk v cs x = true := by unfold folOk; rw [hg, hco, decide_eq_true (by omega)]; rfl
  obtain ⟨e1, e2⟩ := folOk_true hok
  refine ⟨?_, e2⟩
  rw [e1]
  refine folB_iff.2 fun y hy => (edgC_k (k := k)).1 fun e he => hy e (List.mem_append_left _ (esC_mem.2 ⟨k, (List.getElem?_eq_some_iff.1 hx).1, ?_⟩))
  rw [foC_at hx]
  exact he
theorem sat_left {n : Nat} {cs ds : List LCn} {y : Nat → Int} (h : Sat (fun e => e ∈ esA n (cs ++ ds)) y) : Sat (fun e => e ∈ esA n cs) y := by
  refine rE_iff.1 fun e he => rE_iff.2 h e ?_
  rcases List.mem_append.1 he with he | he
  · exact List.mem_append_left _ he
  · obtain ⟨c, hc, he⟩ := List.mem_flatMap.1 he
    rw [List.take_length] at hc
    refine List.mem_append_right _ (List.mem_flatMap.2 ⟨c, ?_, he⟩)
    rw [List.take_length]
    exact List.mem_append_left _ hc
theorem fol_more {v : Int} {cs : List LCn} {c d : LCn} (hg : gvld v cs = true) (hK : cs.length ≤ 2900) (hc : conB v c = true) (hd : conB v d = true) (hf : folV v cs c = true) : folV v (cs ++ [d]) c = true ∧ folC v (cs ++ [d]) c = 0 := by
  have h1 : folOk v cs c = true := by unfold folOk; rw [hg, hc, decide_eq_true (by omega)]; rfl
  have hgd : gvld v (cs ++ [d]) = true := by
    have h2 := hg
    unfold gvld at h2 ⊢
    rw [Bool.and_eq_true, decide_eq_true_eq] at h2
    rw [fitB_snoc, h2.2, hd, List.length_append, decide_eq_true (by have := h2.1; simp; omega)]
    rfl
  have h3 : folOk v (cs ++ [d]) c = true := by unfold folOk; rw [hgd, hc, decide_eq_true (by simp; omega)]; rfl
  obtain ⟨e1, e2⟩ := folOk_true h1
  obtain ⟨e3, e4⟩ := folOk_true h3
  refine ⟨?_, e4⟩
  rw [e1] at hf
  rw [e3]
  exact folB_iff.2 fun y hy => folB_iff.1 hf y (sat_left hy)
/-- what follows holds in the least solution -/
theorem holds_fol {n : Nat} {cs : List LCn} {c : LCn} {xs : List Int} (hcs : ∀ c ∈ cs, Con n c) (hn : n ≤ 1200) (hc : conB (n : Int) c = true) (h : Lst (fun e => e ∈ esA n cs) (gx xs)) (hf : folV (n : Int) cs c = true) (hok : folOk (n : Int) cs c = true) {w w' : World} {e : Ending} (hp : HoldsPost n [c] (solL n xs) w e w') : e = .returned (.tuple #[.int .i64 (-1), .int .i64 0]) := by
  have hg1 : gvld (n : Int) [c] = true := by
    unfold gvld
    rw [show fitB (n : Int) [c] = (fitB (n : Int) [] && conB (n : Int) c) from fitB_snoc (n : Int) [] c, hc, decide_eq_true (by simp; omega)]
    rfl
  have hv := sol_vs hcs h hn
  have hb : brkB (solL n xs) c = false := by
    refine (brk_iff (k := 0) (con_of hc) (solL_len n xs) hv).2 ?_
    rw [(folOk_true hok).1, Int.toNat_natCast] at hf
    exact folB_iff.1 hf _ fun e he => by
      have := h.sat e he
      unfold hol at this ⊢
      rw [sol_gx hcs h, sol_gx hcs h]
      exact this
  obtain ⟨_, hp⟩ := hp
  rcases hp with ⟨h1, _⟩ | ⟨_, ⟨h2, _⟩ | ⟨_, _, i, rfl, h3⟩⟩
  · rw [hg1] at h1; cases h1
  · rcases h2 with h2 | h2
    · exact absurd (by rw [solL_len]) h2
    · rw [vs_out hv] at h2; cases h2
  · have : i = -1 := by
      rcases h3 with ⟨h4, _⟩ | ⟨k, h4, ⟨x, h5, h6⟩, _⟩
      · exact h4
      · match k, h5 with
        | 0, h5 => simp at h5; subst h5; rw [hb] at h6; cases h6
        | k + 1, h5 => simp at h5
    rw [this]
theorem box8 {w wi : World} {x0 x1 x2 x3 x4 x5 x6 x7 : Value} {t : TypeId} (hb : Below (w.heap.size + 1) (w.alloc (.cells #[x0, x1, x2, x3, x4, x5, x6, x7] t)) wi) :
    (wi.cell? ⟨w.heap.size, 0, none⟩ = some x0 ∧ wi.cell? ⟨w.heap.size, 1, none⟩ = some x1 ∧ wi.cell? ⟨w.heap.size, 2, none⟩ = some x2 ∧ wi.cell? ⟨w.heap.size, 3, none⟩ = some x3) ∧ (wi.cell? ⟨w.heap.size, 4, none⟩ = some x4 ∧ wi.cell? ⟨w.heap.size, 5, none⟩ = some x5 ∧ wi.cell? ⟨w.heap.size, 6, none⟩ = some x6 ∧ wi.cell? ⟨w.heap.size, 7, none⟩ = some x7) ∧ Below w.heap.size w wi ∧ w.heap.size + 1 ≤ wi.heap.size := by
  have hk : ∀ i, wi.cell? ⟨w.heap.size, i, none⟩ = (w.alloc (.cells #[x0, x1, x2, x3, x4, x5, x6, x7] t)).cell? ⟨w.heap.size, i, none⟩ := fun i => hb.cell (p := ⟨w.heap.size, i, none⟩) (by simp)
  have hs := hb.size
  simp at hs
  exact ⟨⟨(hk 0).trans (by simp), (hk 1).trans (by simp), (hk 2).trans (by simp), (hk 3).trans (by simp)⟩, ⟨(hk 4).trans (by simp), (hk 5).trans (by simp), (hk 6).trans (by simp), (hk 7).trans (by simp)⟩, back0 hb, hs⟩
/-- a new row of two constraints -/
theorem cl_new2 (w : World) (c d : LCn) (A1 : Option Addr) (n1 c1 : Nat) (A2 : Option Addr) (n2 c2 : Nat) (B1 : Option Addr) (m1 d1 : Nat) (B2 : Option Addr) (m2 d2 : Nat) (ty : TypeId) {q : Nat} (hq : q = w.heap.size) (p1 : LvOk w w.heap.size (.slice A1 n1 c1) c.1.2) (p2 : LvOk w w.heap.size (.slice A2 n2 c2) c.2.2) (p3 : LvOk w w.heap.size (.slice B1 m1 d1) d.1.2) (p4 : LvOk w w.heap.size (.slice B2 m2 d2) d.2.2) :
    CL (w.alloc (.cells #[.int .i64 c.1.1, .slice A1 n1 c1, .int .i64 c.2.1, .slice A2 n2 c2, .int .i64 d.1.1, .slice B1 m1 d1, .int .i64 d.2.1, .slice B2 m2 d2] ty)) (w.alloc (.cells #[.int .i64 c.1.1, .slice A1 n1 c1, .int .i64 c.2.1, .slice A2 n2 c2, .int .i64 d.1.1, .slice B1 m1 d1, .int .i64 d.2.1, .slice B2 m2 d2] ty)).heap.size (some ⟨q, 0, none⟩) 2 [c, d] := by
  subst hq
  have hb : Below w.heap.size w (w.alloc (.cells #[.int .i64 c.1.1, .slice A1 n1 c1, .int .i64 c.2.1, .slice A2 n2 c2, .int .i64 d.1.1, .slice B1 m1 d1, .int .i64 d.2.1, .slice B2 m2 d2] ty)) := (Below.refl _ w).alloc (Nat.le_refl _) _
  refine ⟨rfl, fun _ => ⟨w.heap.size, 0, rfl, by simp, fun j e he => ?_⟩⟩
  match j, he with
  | 0, he =>
    simp at he
    subst he
    exact ⟨.slice A1 n1 c1, .slice A2 n2 c2, by simp, by simp, by simp, by simp, (p1.below hb).more' hb.size, (p2.below hb).more' hb.size⟩
  | 1, he =>
    simp at he
    subst he
    exact ⟨.slice B1 m1 d1, .slice B2 m2 d2, by simp, by simp, by simp, by simp, (p3.below hb).more' hb.size, (p4.below hb).more' hb.size⟩
  | j + 2, he => simp at he

theorem cv_any {w : World} {B n : Nat} {ad : Addr} {cs : List LCn} (h : CL w B (some ad) n cs) : ∃ xs, CV w B xs cs ∧ ∀ j u, xs[j]? = some u → w.cell? (ad.add j) = some u := by
  have hl := h.1
  by_cases h0 : 0 < n
  · obtain ⟨b, off, e, _⟩ := h.2 h0
    cases e
    obtain ⟨xs, h1, h2⟩ := CV.of_cl h
    exact ⟨xs, h1, fun j u hj => by rw [Addr.add_lit]; exact h2 j u hj⟩
  · have hcs : cs = [] := List.eq_nil_of_length_eq_zero (by omega)
    subst hcs
    exact ⟨[], CV.nil _ _, fun j u hj => by simp at hj⟩

set_option maxRecDepth 100000 in
set_option maxHeartbeats 8000000 in
theorem lawMore_any (v : Int) (A : Option Addr) (K cap : Nat) (cs : List LCn) (c d : LCn) (A1 : Option Addr) (n1 c1 : Nat) (A2 : Option Addr) (n2 c2 : Nat) (B1 : Option Addr) (m1 d1 : Nat) (B2 : Option Addr) (m2 d2 : Nat) (w : World) (h : CL w w.heap.size A K cs) (hK : K ≤ 9223372036854775807) (hnil : A = none → K = 0 ∧ cap = 0)
    (p1 : PL w w.heap.size A1 n1 c.1.2) (p2 : PL w w.heap.size A2 n2 c.2.2) (q1 : n1 ≤ c1) (r1 : c1 ≤ 9223372036854775807) (q2 : n2 ≤ c2) (r2 : c2 ≤ 9223372036854775807)
    (p3 : PL w w.heap.size B1 m1 d.1.2) (p4 : PL w w.heap.size B2 m2 d.2.2) (q3 : m1 ≤ d1) (r3 : d1 ≤ 9223372036854775807) (q4 : m2 ≤ d2) (r4 : d2 ≤ 9223372036854775807) :
    Calls Try.prog 7 #[.int .i64 v, .slice A K cap, .agg #[.int .i64 c.1.1, .slice A1 n1 c1, .int .i64 c.2.1, .slice A2 n2 c2, .int .i64 d.1.1, .slice B1 m1 d1, .int .i64 d.2.1, .slice B2 m2 d2]] w fun e w' => e = .returned (.bool true) ∧ Below w.heap.size w w' := by
  have hX : Below (w.heap.size + 1) (w.alloc (.cells #[.int .i64 c.1.1, .slice A1 n1 c1, .int .i64 c.2.1, .slice A2 n2 c2, .int .i64 d.1.1, .slice B1 m1 d1, .int .i64 d.2.1, .slice B2 m2 d2] 43)) (w.alloc (.cells #[.int .i64 c.1.1, .slice A1 n1 c1, .int .i64 c.2.1, .slice A2 n2 c2, .int .i64 d.1.1, .slice B1 m1 d1, .int .i64 d.2.1, .slice B2 m2 d2] 43)) := Below.refl _ _
  obtain ⟨⟨g0, g1, g2, g3⟩, ⟨g4, g5, g6, g7⟩, hX0, hX1⟩ := box8 hX
  have hsX : (w.alloc (.cells #[.int .i64 c.1.1, .slice A1 n1 c1, .int .i64 c.2.1, .slice A2 n2 c2, .int .i64 d.1.1, .slice B1 m1 d1, .int .i64 d.2.1, .slice B2 m2 d2] 43)).heap.size = w.heap.size + 1 := by simp
  have HS : Hid (∀ W, Below (w.heap.size + 1) (w.alloc (.cells #[.int .i64 c.1.1, .slice A1 n1 c1, .int .i64 c.2.1, .slice A2 n2 c2, .int .i64 d.1.1, .slice B1 m1 d1, .int .i64 d.2.1, .slice B2 m2 d2] 43)) W → (W.cell? ⟨w.heap.size, 0, none⟩ = some (.int .i64 c.1.1) ∧ W.cell? ⟨w.heap.size, 1, none⟩ = some (.slice A1 n1 c1) ∧ W.cell? ⟨w.heap.size, 2, none⟩ = some (.int .i64 c.2.1) ∧ W.cell? ⟨w.heap.size, 3, none⟩ = some (.slice A2 n2 c2)) ∧ (W.cell? ⟨w.heap.size, 4, none⟩ = some (.int .i64 d.1.1) ∧ W.cell? ⟨w.heap.size, 5, none⟩ = some (.slice B1 m1 d1) ∧ W.cell? ⟨w.heap.size, 6, none⟩ = some (.int .i64 d.2.1) ∧ W.cell? ⟨w.heap.size, 7, none⟩ = some (.slice B2 m2 d2)) ∧ Below w.heap.size w W ∧ w.heap.size + 1 ≤ W.heap.size) := fun W hW => box8 hW
  have hh := heavy_any v 60 A K cap cs _ ((h.below hX0).more hX0.size) hK
  have hL : ∀ (A : Option Addr) (n c : Nat) (l : List (Int × Int)), PL w w.heap.size A n l → n ≤ c → c ≤ 9223372036854775807 → ∀ W, Below w.heap.size w W → LvOk W W.heap.size (.slice A n c) l := fun _ _ _ _ p q r W hW => ⟨_, _, _, rfl, (p.below hW).more hW.size, q, r⟩
  have hh2 := heavy_any 0 60 (some ⟨w.heap.size + 1, 0, none⟩) 2 2 [c, d] _ (cl_new2 (w.alloc (.cells #[.int .i64 c.1.1, .slice A1 n1 c1, .int .i64 c.2.1, .slice A2 n2 c2, .int .i64 d.1.1, .slice B1 m1 d1, .int .i64 d.2.1, .slice B2 m2 d2] 43)) c d A1 n1 c1 A2 n2 c2 B1 m1 d1 B2 m2 d2 37 hsX.symm (hL _ _ _ _ p1 q1 r1 _ hX0) (hL _ _ _ _ p2 q2 r2 _ hX0) (hL _ _ _ _ p3 q3 r3 _ hX0) (hL _ _ _ _ p4 q4 r4 _ hX0)) (by omega)
  have HV := Lib.hid (fun W (hW : Below w.heap.size w W) => refGvalid_any v A K cap cs W ((h.below hW).more hW.size) hK)
  have HC1 := Lib.hid (fun W (hW : Below w.heap.size w W) => constraint_any v c A1 n1 c1 A2 n2 c2 W ((p1.below hW).more hW.size) ((p2.below hW).more hW.size) q1 r1 q2 r2)
  have HC2 := Lib.hid (fun W (hW : Below w.heap.size w W) => constraint_any v d B1 m1 d1 B2 m2 d2 W ((p3.below hW).more hW.size) ((p4.below hW).more hW.size) q3 r3 q4 r4)
  have HL := Lib.hid hL
  clear hL
  generalize hXe : w.alloc (.cells #[.int .i64 c.1.1, .slice A1 n1 c1, .int .i64 c.2.1, .slice A2 n2 c2, .int .i64 d.1.1, .slice B1 m1 d1, .int .i64 d.2.1, .slice B2 m2 d2] 43) = X at *
  have HXe := Lib.hid hXe
  have Hh := Lib.hid hh
  have Hh2 := Lib.hid hh2
  clear hXe hh hh2
  go_enter Try.func7, Try.ntmps7
  go_upto_region 1 with fail
  rw [HXe.out]
  go_cut [49] (fun t wx => Below (w.heap.size + 1) X wx ∧ (t = .bool true ∨ (t = .bool false ∧ K ≤ 60 ∧ gvld v cs = true ∧ conB v c = true ∧ conB v d = true)))
  case first =>
    cases hb : heavyB v 60 cs
    · have hl := heavyB_len hb
      have hK2 : K ≤ 60 := by have := h.1; omega
      rw [hb] at Hh
      clear hl hb
      cases hb2 : heavyB 0 60 [c, d]
      · rw [hb2] at Hh2
        clear hb2
        cases hg : gvld v cs
        · rw [hg] at HV
          clear hg
          go_wp2_with fail
          refine Hh.out.mono ?_
          rintro e w1 ⟨rfl, rfl⟩
          go_wp2_with fail
          with_reducible refine Hh2.out.mono ?_
          rintro e w2 ⟨rfl, rfl⟩
          have hY := hX.alloc (by omega) (.cells #[.int .i64 c.1.1, .slice A1 n1 c1, .int .i64 c.2.1, .slice A2 n2 c2, .int .i64 d.1.1, .slice B1 m1 d1, .int .i64 d.2.1, .slice B2 m2 d2] 37)
          obtain ⟨_, _, hY0, hY1⟩ := HS.out _ hY
          go_wp2_with fail
          refine (HV.out _ hY0).mono ?_
          rintro e w3 ⟨rfl, hb3⟩
          go_wp2_with fail
          go_meet
          exact ⟨hY.trans (hb3.mono hY1), .inl rfl⟩
        · rw [hg] at HV
          cases hc : conB v c
          · rw [hc] at HC1
            clear hg hc
            go_wp2_with fail
            refine Hh.out.mono ?_
            rintro e w1 ⟨rfl, rfl⟩
            go_wp2_with fail
            with_reducible refine Hh2.out.mono ?_
            rintro e w2 ⟨rfl, rfl⟩
            have hY := hX.alloc (by omega) (.cells #[.int .i64 c.1.1, .slice A1 n1 c1, .int .i64 c.2.1, .slice A2 n2 c2, .int .i64 d.1.1, .slice B1 m1 d1, .int .i64 d.2.1, .slice B2 m2 d2] 37)
            obtain ⟨_, _, hY0, hY1⟩ := HS.out _ hY
            go_wp2_with fail
            refine (HV.out _ hY0).mono ?_
            rintro e w3 ⟨rfl, hb3⟩
            have hZ := hY.trans (hb3.mono hY1)
            clear g0 g1 g2 g3 g4 g5 g6 g7
            obtain ⟨⟨g0, g1, g2, g3⟩, _, hZ0, hZ1⟩ := HS.out _ hZ
            go_wp2_with fail
            refine (HC1.out _ hZ0).mono ?_
            rintro e w4 ⟨rfl, hb4⟩
            go_wp2_with fail
            go_meet
            exact ⟨hZ.trans (hb4.mono hZ1), .inl rfl⟩
          · rw [hc] at HC1
            have Hg := Lib.hid hg
            have Hc := Lib.hid hc
            clear hg hc
            go_wp2_with fail
            refine Hh.out.mono ?_
            rintro e w1 ⟨rfl, rfl⟩
            go_wp2_with fail
            with_reducible refine Hh2.out.mono ?_
            rintro e w2 ⟨rfl, rfl⟩
            have hY := hX.alloc (by omega) (.cells #[.int .i64 c.1.1, .slice A1 n1 c1, .int .i64 c.2.1, .slice A2 n2 c2, .int .i64 d.1.1, .slice B1 m1 d1, .int .i64 d.2.1, .slice B2 m2 d2] 37)
            obtain ⟨_, _, hY0, hY1⟩ := HS.out _ hY
            go_wp2_with fail
            refine (HV.out _ hY0).mono ?_
            rintro e w3 ⟨rfl, hb3⟩
            have hZ := hY.trans (hb3.mono hY1)
            clear g0 g1 g2 g3 g4 g5 g6 g7
            obtain ⟨⟨g0, g1, g2, g3⟩, _, hZ0, hZ1⟩ := HS.out _ hZ
            go_wp2_with fail
            refine (HC1.out _ hZ0).mono ?_
            rintro e w4 ⟨rfl, hb4⟩
            have hU := hZ.trans (hb4.mono hZ1)
            clear g0 g1 g2 g3
            obtain ⟨_, ⟨g4, g5, g6, g7⟩, hU0, hU1⟩ := HS.out _ hU
            go_wp2_with fail
            refine (HC2.out _ hU0).mono ?_
            rintro e w5 ⟨rfl, hb5⟩
            go_wp2_with fail
            go_meet
            cases hd : conB v d
            · exact ⟨hU.trans (hb5.mono hU1), .inl rfl⟩
            · exact ⟨hU.trans (hb5.mono hU1), .inr ⟨rfl, hK2, Hg.out, Hc.out, rfl⟩⟩
      · rw [hb2] at Hh2
        clear hb2
        go_wp2_with fail
        refine Hh.out.mono ?_
        rintro e w1 ⟨rfl, rfl⟩
        go_wp2_with fail
        with_reducible refine Hh2.out.mono ?_
        rintro e w2 ⟨rfl, rfl⟩
        go_wp2_with fail
        go_meet
        exact ⟨hX.alloc (by omega) _, .inl rfl⟩
    · rw [hb] at Hh
      clear hb
      go_wp2_with fail
      refine Hh.out.mono ?_
      rintro e w1 ⟨rfl, rfl⟩
      go_wp2_with fail
      go_meet
      exact ⟨hX, .inl rfl⟩
  case rest =>
    obtain ⟨hY, hcut⟩ := hcut
    clear g0 g1 g2 g3 g4 g5 g6 g7 Hh Hh2 HV HC1 HC2
    obtain ⟨_, _, hY0, hY1⟩ := HS.out _ hY
    rcases hcut with rfl | ⟨rfl, hK2, hg, hc, hd⟩
    · go_wp2_with fail
      refine (awake_any _).mono ?_
      rintro e w2 ⟨rfl, hb2⟩
      go_wp2_with fail
      go_ret
      exact ⟨rfl, hY0.trans (hb2.mono hY0.size)⟩
    · have hlen : cs.length = K := h.1
      obtain ⟨n, rfl, f1, f2, f3⟩ := gvld_parts hg
      have hokc : folOk (n : Int) cs c = true := by unfold folOk; rw [hg, hc, decide_eq_true (by omega)]; rfl
      have HO := Lib.hid hokc
      have Hg := Lib.hid hg
      have Hc := Lib.hid hc
      have Hd := Lib.hid hd
      have Hcs := Lib.hid f3
      have Hlen := Lib.hid hlen
      clear hokc hg hc hd f3 hlen f2
      go_wp2_with fail
      go_loopw [7] (fun i wr => ∃ j : Nat, j ≤ K ∧ i = .int .i64 j ∧ Below (w.heap.size + 1) X wr) (fun i _ => K - (intOf i).toNat)
      case atStart => exact ⟨0, Nat.zero_le _, rfl, hY⟩
      case round =>
        clear hY hY0 hY1
        obtain ⟨j, hj, rfl, hZ⟩ := hrel
        obtain ⟨⟨g0, g1, g2, g3⟩, _, hZ0, hZ1⟩ := HS.out _ hZ
        by_cases hlt : j < K
        · obtain ⟨b, off, x, D1, k1, e1, D2, k2, e2, rfl, hbl, hx, y0, y1, y2, y3, px, py, s1, t1, s2, t2⟩ := (h.below hZ0).at_ hlt
          have hfx := fol_own Hg.out (by have := Hlen.out; omega) hx
          have hF := follows_any n (some ⟨b, off, none⟩) K cap cs x D1 k1 e1 D2 k2 e2 wr ((h.below hZ0).more hZ0.size) (by omega) (px.more hZ0.size) (py.more hZ0.size) s1 t1 s2 t2
          rw [hfx.1, hfx.2] at hF
          have HF := Lib.hid hF
          clear hF hfx hx
          go_wp2_with fail
          refine HF.out.mono ?_
          rintro e w3 ⟨rfl, hb3⟩
          go_wp2_with fail
          go_roundw
          case rel => exact ⟨j + 1, by omega, by go_num, hZ.trans (hb3.mono hZ1)⟩
          case measure => simp [intOf]; omega
        · have hF := follows_any n A K cap cs c A1 n1 c1 A2 n2 c2 wr ((h.below hZ0).more hZ0.size) (by omega) ((p1.below hZ0).more hZ0.size) ((p2.below hZ0).more hZ0.size) q1 r1 q2 r2
          rw [(folOk_true HO.out).2] at hF
          cases hf : folV (n : Int) cs c
          · rw [hf] at hF
            have HF := Lib.hid hF
            clear hF hf
            go_wp2_with fail
            refine HF.out.mono ?_
            rintro e w3 ⟨rfl, hb3⟩
            have hZ3 := hZ0.trans (hb3.mono hZ0.size)
            go_wp2_with fail
            refine (awake_any _).mono ?_
            rintro e w4 ⟨rfl, hb4⟩
            go_wp2_with fail
            go_ret
            exact ⟨rfl, hZ3.trans (hb4.mono hZ3.size)⟩
          · rw [hf] at hF
            have HF := Lib.hid hF
            have Hf := Lib.hid hf
            clear hF hf
            go_wp2_with fail
            refine HF.out.mono ?_
            rintro e w3 ⟨rfl, hb3⟩
            have hZ3 := hZ.trans (hb3.mono hZ1)
            clear g0 g1 g2 g3 hb3
            obtain ⟨⟨g0, g1, g2, g3⟩, _, hZ30, hZ31⟩ := HS.out _ hZ3
            have hSo := Lib.hid (solve_any n A K cap cs w3 ((h.below hZ30).more hZ30.size) hK)
            go_wp2_with fail
            refine hSo.out.mono ?_
            intro e w4 hp
            have hb4 := hp.1
            obtain ⟨A3, n3, c3, er, rfl⟩ := hp.shape
            have hZ4 := hZ3.trans (hb4.mono hZ31)
            clear g0 g1 g2 g3
            obtain ⟨⟨g0, g1, g2, g3⟩, _, hZ40, hZ41⟩ := HS.out _ hZ4
            have HP := Lib.hid hp
            clear hp hZ3 hZ30 hZ31 hb4 hZ0 hZ1 hZ
            go_upto_if 93 with fail
            go_cut [14] (fun _ wx => Below (w.heap.size + 1) X wx)
            case first =>
              obtain ⟨_, hr⟩ := HP.out
              rcases hr with ⟨h9, _⟩ | ⟨_, m, hm, ⟨he, _⟩ | ⟨u, xs, he, hown, hL⟩⟩
              · rw [Hg.out] at h9; cases h9
              · have her : er = 20 := by simp at he; omega
                subst her
                clear hm he
                go_wp2_with fail
                go_meet
                exact hZ4
              · obtain rfl : n = m := by omega
                simp only [Ending.returned.injEq, Value.tuple.injEq, Array.mk.injEq, List.cons.injEq, Value.int.injEq, true_and, and_true] at he
                obtain ⟨rfl, rfl⟩ := he
                obtain ⟨A4, c4, hs4, hI⟩ := il_own hown
                cases hs4
                have hCL := cl_new w4 c A1 n1 c1 A2 n2 c2 37 rfl ((p1.below hZ40).more hZ40.size) ((p2.below hZ40).more hZ40.size) q1 r1 q2 r2
                have hBn : Below w4.heap.size w4 (w4.alloc (.cells #[.int .i64 c.1.1, .slice A1 n1 c1, .int .i64 c.2.1, .slice A2 n2 c2] 37)) := (Below.refl _ _).alloc (Nat.le_refl _) _
                have hHo := Lib.hid ((holds_any n (some ⟨w4.heap.size, 0, none⟩) 1 1 [c] A3 n c3 (solL n xs) _ hCL (by omega) ((hI.below hBn).more hBn.size) (by omega)).mono fun e w' hp => And.intro (holds_fol Hcs.out f1 Hc.out hL Hf.out HO.out hp) hp.1)
                clear hCL hI hown hm hL
                go_wp2_with fail
                with_reducible refine hHo.out.mono ?_
                rintro e w5 ⟨rfl, hb5⟩
                go_wp2_with fail
                go_meet
                exact (hZ4.trans (hBn.mono hZ41)).trans (hb5.mono (by simp; omega))
            case rest =>
              clear hZ4 hZ40 hZ41 g0 g1 g2 g3 HP
              have hZ := hcut
              clear hcut
              obtain ⟨_, _, hZ0, hZ1⟩ := HS.out _ hZ
              obtain ⟨i0, hi, hz0, hz1, hz2⟩ := info_parts infoC
              cases A with
              | none =>
                obtain ⟨hK0, hcap0⟩ := hnil rfl
                subst hK0
                subst hcap0
                have hcs0 : cs = [] := List.eq_nil_of_length_eq_zero Hlen.out
                subst hcs0
                have hown5 : (wc.alloc (.cells #[] 37)).ownsRow (w.heap.size + 1) 37 4 (.slice (some ⟨wc.heap.size, 0, none⟩) 0 0) 0 [] := World.ownsRow_made wc #[] 0 hZ1 (Nat.zero_le _) rfl
                have hZ5 : Below (w.heap.size + 1) X (wc.alloc (.cells #[] 37)) := hZ.alloc hZ1 _
                have hcv5 : CV (wc.alloc (.cells #[] 37)) w.heap.size [] [] := CV.nil _ _
                obtain ⟨_, ⟨k4, k5, k6, k7⟩, hZ50, hZ51⟩ := HS.out _ hZ5
                obtain ⟨_, ⟨g4, g5, g6, g7⟩, _, _⟩ := HS.out _ hZ
                have hown6' : ∀ W, Below (wc.alloc (.cells #[] 37)).heap.size (wc.alloc (.cells #[] 37)) W → W.ownsRow (w.heap.size + 1) 37 4 (.slice (some ⟨wc.heap.size, 0, none⟩) 0 0) 0 [] := fun W hW => own_below hown5 hW
                have hsw : (wc.alloc (.cells #[] 37)).heap.size = wc.heap.size + 1 := by simp
                have hwl : w.heap.size < wc.heap.size := by omega
                have hwn : w.heap.size ≠ wc.heap.size := by omega
                go_wp2_with (at_builtin; first
                  | refine wpList_append_own_none rfl _ _ 22 rfl (w.heap.size + 1) 37 i0 4 Try.underlying22 hi _ 0 [] rfl hown5 rfl ?_
                  | refine wpList_append_own _ rfl _ _ 22 rfl (w.heap.size + 1) 37 i0 (.agg #[.int .i64 0, .slice none 0 0, .int .i64 0, .slice none 0 0]) 4 64 Try.underlying22 hi hz0 hz1 hz2 rfl (by decide) _ 0 [] rfl (hown6' _ ((Below.refl _ (wc.alloc (.cells #[] 37))).alloc (Nat.le_refl _) _)) ⟨wc.heap.size + 1, 0, none⟩ 1 1 (conV d B1 m1 d1 B2 m2 d2) rfl rfl (news4c hsw.symm) (CV.one (w := w) (B := w.heap.size) ⟨B1, m1, d1, rfl, p3, q3, r3⟩ ⟨B2, m2, d2, rfl, p4, q4, r4⟩).oneCell (by unfold maxLen; omega) (by omega) (by simp; omega) ?_)
                intro v6 w6 hown6 hgrow6 _
                generalize hw5 : wc.alloc (.cells #[] 37) = w5 at *
                have hb56 : Below (w.heap.size + 1) w5 w6 := ((Below.refl _ w5).alloc (by omega) _).grown hgrow6 (by simp; omega) (fun j hj => (hown5.lt j hj).1)
                have hZ6 := hZ5.trans hb56
                have hcv6 := (hcv5.below (hb56.mono (by omega))).append (CV.one (w := w6) (B := w.heap.size) (c := d) ⟨B1, m1, d1, rfl, p3.below (HS.out _ hZ6).2.2.1, q3, r3⟩ ⟨B2, m2, d2, rfl, p4.below (HS.out _ hZ6).2.2.1, q4, r4⟩)
                obtain ⟨⟨g0, g1, g2, g3⟩, _, hZ60, hZ61⟩ := HS.out _ hZ6
                obtain ⟨A6, e6, rfl, hCL6, _, _⟩ := CL.of_own hown6 hcv6 hZ60.size
                have hF := follows_any n A6 (0 + 1) e6 ([] ++ [d]) c A1 n1 c1 A2 n2 c2 w6 hCL6 (by omega) ((p1.below hZ60).more hZ60.size) ((p2.below hZ60).more hZ60.size) q1 r1 q2 r2
                obtain ⟨hm1, hm2⟩ := fol_more Hg.out (by have := Hlen.out; omega) Hc.out Hd.out Hf.out
                rw [hm1, hm2] at hF
                have HF := Lib.hid hF
                clear hF hm1 hm2 hcv6 hCL6 hown6 hgrow6
                go_wp2_with fail
                refine HF.out.mono ?_
                rintro e w7 ⟨rfl, hb7⟩
                have hZ7 := hZ60.trans (hb7.mono hZ60.size)
                go_wp2_with fail
                refine (awake_any _).mono ?_
                rintro e w8 ⟨rfl, hb8⟩
                go_wp2_with fail
                go_ret
                exact ⟨rfl, hZ7.trans (hb8.mono hZ7.size)⟩
              | some ad =>
                obtain ⟨xs, hcv, hcell⟩ := cv_any (h.below hZ0)
                have hxl : xs.length = K * 4 := by rw [hcv.1, Hlen.out]
                have hone := hcv.oneCell
                have Hcell := Lib.hid hcell
                clear hcell
                go_wp2_with (at_builtin; refine wpList_append_own _ rfl _ _ 22 rfl (w.heap.size + 1) 37 i0 (.agg #[.int .i64 0, .slice none 0 0, .int .i64 0, .slice none 0 0]) 4 64 Try.underlying22 hi hz0 hz1 hz2 rfl (by decide) _ _ _ rfl (World.ownsRow_made wc #[] 0 hZ1 (Nat.zero_le _) rfl) ad K cap xs rfl ?qc1 ?qc2 hone ?qc4 ?qc5 ?qc6 ?_)
                case qc1 => exact hxl
                case qc2 =>
                  intro j u hj
                  have h1 := Hcell.out j u hj
                  exact (World.cell?_alloc_lt wc _ _ (World.block_lt_of_cell? wc _ h1)).trans h1
                case qc4 => unfold maxLen; omega
                case qc5 => omega
                case qc6 => simp; omega
                intro v5 w5 hown5 hgrow5 _
                have hb5 : Below (w.heap.size + 1) wc w5 := ((Below.refl _ wc).alloc hZ1 _).grown hgrow5 (by simp; omega) (by intro k hk; simp [Value.ownBlock] at hk; omega)
                have hZ5 := hZ.trans hb5
                have hown5 : w5.ownsRow (w.heap.size + 1) 37 4 v5 K xs := by simpa using hown5
                have hcv5 := hcv.below (hb5.mono (by omega))
                obtain ⟨_, ⟨g4, g5, g6, g7⟩, hZ50, hZ51⟩ := HS.out _ hZ5
                clear hgrow5 hone hxl
                -- the second constraint behind it
                have hown6' : ∀ W, Below w5.heap.size w5 W → W.ownsRow (w.heap.size + 1) 37 4 v5 K xs := fun W hW => own_below hown5 hW
                have hw5 := hZ5.size
                obtain ⟨A5, e5, rfl, _, _, _⟩ := CL.of_own hown5 hcv5 hZ50.size
                go_wp2_with (at_builtin; refine wpList_append_own _ rfl _ _ 22 rfl (w.heap.size + 1) 37 i0 (.agg #[.int .i64 0, .slice none 0 0, .int .i64 0, .slice none 0 0]) 4 64 Try.underlying22 hi hz0 hz1 hz2 rfl (by decide) _ K xs rfl (hown6' _ ((Below.refl _ w5).alloc (Nat.le_refl _) _)) _ 1 1 (conV d B1 m1 d1 B2 m2 d2) rfl rfl (news4c rfl) (CV.one (w := w) (B := w.heap.size) ⟨B1, m1, d1, rfl, p3, q3, r3⟩ ⟨B2, m2, d2, rfl, p4, q4, r4⟩).oneCell (by unfold maxLen; omega) (by omega) (by simp; omega) ?_)
                intro v6 w6 hown6 hgrow6 _
                have hb56 : Below (w.heap.size + 1) w5 w6 := ((Below.refl _ w5).alloc (by omega) _).grown hgrow6 (by simp; omega) (fun j hj => (hown5.lt j hj).1)
                have hZ6 := hZ5.trans hb56
                have hcv6 := (hcv5.below (hb56.mono (by omega))).append (CV.one (w := w6) (B := w.heap.size) (c := d) ⟨B1, m1, d1, rfl, p3.below (HS.out _ hZ6).2.2.1, q3, r3⟩ ⟨B2, m2, d2, rfl, p4.below (HS.out _ hZ6).2.2.1, q4, r4⟩)
                obtain ⟨⟨g0, g1, g2, g3⟩, _, hZ60, hZ61⟩ := HS.out _ hZ6
                obtain ⟨A6, e6, rfl, hCL6, _, _⟩ := CL.of_own hown6 hcv6 hZ60.size
                have hF := follows_any n A6 (K + 1) e6 (cs ++ [d]) c A1 n1 c1 A2 n2 c2 w6 hCL6 (by omega) ((p1.below hZ60).more hZ60.size) ((p2.below hZ60).more hZ60.size) q1 r1 q2 r2
                obtain ⟨hm1, hm2⟩ := fol_more Hg.out (by have := Hlen.out; omega) Hc.out Hd.out Hf.out
                rw [hm1, hm2] at hF
                have HF := Lib.hid hF
                clear hF hm1 hm2 hcv6 hCL6 hown6 hgrow6
                go_wp2_with fail
                refine HF.out.mono ?_
                rintro e w7 ⟨rfl, hb7⟩
                have hZ7 := hZ60.trans (hb7.mono hZ60.size)
                go_wp2_with fail
                refine (awake_any _).mono ?_
                rintro e w8 ⟨rfl, hb8⟩
                go_wp2_with fail
                go_ret
                exact ⟨rfl, hZ7.trans (hb8.mono hZ7.size)⟩
end Go.Proofs.Ytolilmodihgaiaa
