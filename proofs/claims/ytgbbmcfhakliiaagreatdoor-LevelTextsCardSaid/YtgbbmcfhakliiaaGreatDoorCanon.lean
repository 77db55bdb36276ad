/-
  'canonical' and 'Normal' of package level: what they return for every level.
-/
import Derived.Test.YtgbbmcfhakliiaaGreatDoorMrg
import Derived.Test.YtgbbmcfhakliiaaGreatDoorPure
import Derived.Test.YtgbbmcfhakliiaaGreatDoorLeq
import Derived.Deep.DeepCutAuto
import Derived.Deep.RegionHeld3
namespace Go.Proofs.YtgbbmcfhakliiaaGreatDoor
open Go Go.RowKit

/-- the constant, the parts and the error of a canonical form; kept within the limits -/
noncomputable def cErr (c : Int) (l : List (Int × Int)) : Int := if (canonV l).length ≤ 8 ∧ max (if c ≤ gplus (canonV l) then 0 else c) (gplus (canonV l)) ≤ 1000 then 0 else 2
noncomputable def cConst (c : Int) (l : List (Int × Int)) : Int := if cErr c l = 0 then (if c ≤ gplus (canonV l) then 0 else c) else 0
noncomputable def cVars (c : Int) (l : List (Int × Int)) : List (Int × Int) := if cErr c l = 0 then canonV l else []

/-- a level's two fields as they are returned: with its list, in memory of whatever make -/
def LvRes (B : Nat) (w' : World) (v : Value) (c : Int) (l : List (Int × Int)) : Prop :=
  ∃ A m cap, v = .agg #[.int .i64 c, .slice A m cap] ∧ PL w' w'.heap.size A m l ∧ m ≤ cap ∧ cap ≤ 9223372036854775807 ∧ ∀ b off, A = some ⟨b, off, none⟩ → B ≤ b

theorem merged_pl (A : Option Addr) (n c : Nat) (l : List (Int × Int)) (w : World) (h : PL w w.heap.size A n l) (hn : n ≤ 1000000) :
    Calls Tryz.prog 36 #[.slice A n c, .func (.func 37) #[] #[], .func (.func 38) #[] #[]] w fun e w' =>
      ∃ A' m c', e = .returned (.slice A' m c') ∧ PL w' w'.heap.size A' m (canonV l) ∧ m ≤ c' ∧ c' ≤ 9223372036854775807 ∧ Below w.heap.size w w' ∧ ∀ b off, A' = some ⟨b, off, none⟩ → w.heap.size ≤ b ∧ b < w'.heap.size := by
  refine (merged_any A n c l w h hn).mono ?_
  rintro e w' ⟨s, v, hp, hs, rfl, hown, hb⟩
  obtain ⟨A', c', rfl, h1, h2, h3, h4⟩ := PL.of_own hown
  rw [mg_eq hp hs] at h1 h3 ⊢
  unfold maxLen at h2
  refine ⟨A', _, c', rfl, h3, h1, by omega, hb, fun b off e => ?_⟩
  rcases h4 with rfl | ⟨g, rfl, hg, hg'⟩
  · cases e
  · injection e with e; injection e with e; subst e; exact ⟨hg, hg'⟩

theorem cell_alloc {w : World} {a : Addr} {v : Value} (o : Obj) (h : w.cell? a = some v) : (w.alloc o).cell? a = some v := (World.cell?_alloc_lt w o a (World.block_lt_of_cell? w a h)).trans h
theorem keep_set {w : World} {b j S i : Nat} {u v : Value} (hne : S ≠ b) (h : w.cell? ⟨S, i, none⟩ = some v) : (w.setCell ⟨b, j, none⟩ u).cell? ⟨S, i, none⟩ = some v :=
  (World.cell?_setCell_other w ⟨b, j, none⟩ ⟨S, i, none⟩ u (fun e => hne (by injection e with h1; exact h1.symm))).trans h
theorem PL.set2 {w : World} {B B' n q j j' : Nat} {A : Option Addr} {l : List (Int × Int)} (h : PL w B A n l) (u u' : Value) (hne : ∀ b off, A = some ⟨b, off, none⟩ → b ≠ q) (hB : B ≤ B') : PL ((w.setCell ⟨q, j, none⟩ u).setCell ⟨q, j', none⟩ u') B' A n l :=
  ⟨h.1, fun hn => by
    obtain ⟨b, off, e, hb, hc⟩ := h.2 hn
    have hq := hne b off e
    exact ⟨b, off, e, by omega, fun i x hx => ⟨keep_set hq (keep_set hq (hc i x hx).1), keep_set hq (keep_set hq (hc i x hx).2)⟩⟩⟩
theorem keep_off {w : World} {b i j : Nat} {u v : Value} (hne : j ≠ i) (h : w.cell? ⟨b, i, none⟩ = some v) : (w.setCell ⟨b, j, none⟩ u).cell? ⟨b, i, none⟩ = some v :=
  (World.cell?_setCell_other w ⟨b, j, none⟩ ⟨b, i, none⟩ u (fun e => hne (by injection e))).trans h
theorem PL.set1 {w : World} {B n q j : Nat} {A : Option Addr} {l : List (Int × Int)} (h : PL w B A n l) (u : Value) (hne : ∀ b off, A = some ⟨b, off, none⟩ → b ≠ q) : PL (w.setCell ⟨q, j, none⟩ u) B A n l :=
  ⟨h.1, fun hn => by
    obtain ⟨b, off, e, hb, hc⟩ := h.2 hn
    have hq := hne b off e
    exact ⟨b, off, e, hb, fun i x hx => ⟨keep_set hq (hc i x hx).1, keep_set hq (hc i x hx).2⟩⟩⟩
theorem frozen_new (W : World) (cs : Array Value) (t : TypeId) (i : Nat) : (W.alloc (.cells cs t)).drew.frozen? ⟨W.heap.size, i, none⟩ = false := by
  have h : (W.alloc (.cells cs t)).heap[W.heap.size]? = some (.cells cs t (0, 0)) := heap_alloc_new W _
  show (W.alloc (.cells cs t)).frozen? ⟨W.heap.size, i, none⟩ = false
  unfold World.frozen?
  rw [h]
  simp
theorem frozen_new' (W : World) (cs : Array Value) (t : TypeId) (i : Nat) : (W.alloc (.cells cs t)).frozen? ⟨W.heap.size, i, none⟩ = false := frozen_new W cs t i
theorem last2 {W w5 : World} {c0 c1 : Value} {t : TypeId} (hb : Below (W.alloc (.cells #[c0, c1] t)).drew.heap.size (W.alloc (.cells #[c0, c1] t)).drew w5) :
    (w5.cell? ⟨W.heap.size, 0, none⟩ = some c0 ∧ w5.cell? ⟨W.heap.size, 1, none⟩ = some c1) ∧ w5.frozen? ⟨W.heap.size, 0, none⟩ = false ∧ w5.frozen? ⟨W.heap.size, 1, none⟩ = false :=
  ⟨⟨(hb.cell (p := ⟨W.heap.size, 0, none⟩) (by simp)).trans (by simp), (hb.cell (p := ⟨W.heap.size, 1, none⟩) (by simp)).trans (by simp)⟩,
    (hb.frozen (p := ⟨W.heap.size, 0, none⟩) (by simp)).trans (frozen_new _ _ _ _), (hb.frozen (p := ⟨W.heap.size, 1, none⟩) (by simp)).trans (frozen_new _ _ _ _)⟩

set_option maxRecDepth 100000 in
set_option maxHeartbeats 4000000 in
theorem canonical_any (c : Int) (A : Option Addr) (n cap : Nat) (l : List (Int × Int)) (w : World) (h : PL w w.heap.size A n l) (hn : n ≤ 1000000) :
    Calls Tryz.prog 25 #[.agg #[.int .i64 c, .slice A n cap]] w fun e w' => ∃ v, e = .returned (.tuple #[v, .int .i64 (cErr c l)]) ∧ LvRes w.heap.size w' v (cConst c l) (cVars c l) ∧ Below w.heap.size w w' := by
  have hb0 := (box2 (w := w) (x0 := .int .i64 c) (x1 := .slice A n cap) (y0 := .int .i64 0) (y1 := .slice none 0 0) (t := 24) (Below.refl _ _)).2.2
  have hsa : ∀ (w : World) (o : Obj), (w.alloc o).heap.size = w.heap.size + 1 := fun w o => by simp
  go_enter Tryz.func25, Tryz.ntmps25
  go_upto_region 1 with fail
  go_cut [4] (fun s4 wx => ∃ (g : Nat) (A' : Option Addr) (m c' : Nat), s4 = .pointer (some ⟨g, 0, none⟩) ∧ w.heap.size + 2 ≤ g ∧ wx.cell? ⟨g, 0, none⟩ = some (.int .i64 c) ∧ wx.cell? ⟨g, 1, none⟩ = some (.slice A' m c') ∧ wx.frozen? ⟨g, 0, none⟩ = false ∧ PL wx wx.heap.size A' m (canonV l) ∧ m ≤ c' ∧ c' ≤ 9223372036854775807 ∧ Below (w.heap.size + 2) ((w.alloc (.cells #[.int .i64 c, .slice A n cap] 24)).alloc (.cells #[.int .i64 0, .slice none 0 0] 24)) wx ∧ ∀ b off, A' = some ⟨b, off, none⟩ → b ≠ g ∧ w.heap.size + 2 ≤ b)
  case first =>
    have e1 : ((w.alloc (.cells #[.int .i64 c, .slice A n cap] 24)).alloc (.cells #[.int .i64 0, .slice none 0 0] 24)).cell? ⟨w.heap.size, 0, none⟩ = some (.int .i64 c) := by simp
    have e2 : ((w.alloc (.cells #[.int .i64 c, .slice A n cap] 24)).alloc (.cells #[.int .i64 0, .slice none 0 0] 24)).cell? ⟨w.heap.size, 1, none⟩ = some (.slice A n cap) := by simp
    go_region_held3 (fun w' => w'.cell? ⟨w.heap.size, 0, none⟩ = some (.int .i64 c) ∧ w'.cell? ⟨w.heap.size, 1, none⟩ = some (.slice A n cap)) (first | exact ⟨f1, f2⟩ | exact ⟨cell_alloc _ f1, cell_alloc _ f2⟩ | exact ⟨e1, e2⟩ | exact ⟨cell_alloc _ e1, cell_alloc _ e2⟩ | exact ⟨keep_set (by omega) (keep_set (by omega) f1), keep_set (by omega) (keep_set (by omega) f2)⟩) (first | (go_at_call 36; refine (merged_pl A n cap l _ (h.lift (by first | exact hb0.drew | exact hb0.drew.alloc (by simp; omega) _ | exact (hb0.alloc (by simp; omega) _).drew)) hn).mono ?_; rintro e w5 ⟨A', m, c', rfl, h1, h2, h3, hb5, h6⟩; obtain ⟨⟨q0, q1⟩, q2, q3⟩ := last2 hb5; simp only [hsa] at q0 q1 q2 q3; have hbb : Below (w.heap.size + 2) ((w.alloc (.cells #[.int .i64 c, .slice A n cap] 24)).alloc (.cells #[.int .i64 0, .slice none 0 0] 24)) w5 := Go.RowKit.Below.trans (by first | exact (Below.refl _ _).drew | exact ((Below.refl _ _).alloc (by simp) _).drew) (hb5.mono (by simp)); obtain ⟨⟨f1, f2, f3, f4⟩, _, _⟩ := box2 hbb))
    · go_wp2_with fail
      go_meet
      refine ⟨w5.heap.size, A', m, c', rfl, (by simpa using hbb.size), by simp, by simp, frozen_new' _ _ _ _, ?_, h2, h3, hbb.alloc (by simpa using hbb.size) _, fun b off e => by have := h6 b off e; simp at this; omega⟩
      exact (h1.keep fun p hp => World.cell?_alloc_lt w5 _ p hp).more (by simp)
    · go_wp2_with fail
      go_meet
      have hS : w.heap.size + 2 < w5.heap.size := by have := hb5.size; simp at this; omega
      refine ⟨w.heap.size + 1 + 1, A', m, c', rfl, Nat.le_refl _, ?_, ?_, ?_, h1.set2 _ _ (fun b off e => by have := h6 b off e; simp at this; omega) (by simp), h2, h3, (hbb.setCell (Nat.le_refl _) _).setCell (Nat.le_refl _) _, fun b off e => by have := h6 b off e; simp at this; omega⟩
      · exact keep_off (by decide) (World.cell?_setCell_same _ _ _ q0)
      · exact World.cell?_setCell_same _ _ _ (keep_off (by decide) q1)
      · rw [World.frozen?_setCell, World.frozen?_setCell]; exact q2
  case rest =>
    obtain ⟨g, A', m, c', rfl, hg, k0, k1, k2, hP, hm, hc, hbx, hap⟩ := hcut
    obtain ⟨⟨_, _, b3, b4⟩, hsz, hbw⟩ := box2 hbx
    have b5 : wc.frozen? ⟨w.heap.size + 1, 0, none⟩ = false := (hbx.frozen (p := ⟨w.heap.size + 1, 0, none⟩) (by simp)).trans (by simp)
    have b6 : wc.frozen? ⟨w.heap.size + 1, 1, none⟩ = false := (hbx.frozen (p := ⟨w.heap.size + 1, 1, none⟩) (by simp)).trans (by simp)
    have hgl : g < wc.heap.size := World.block_lt_of_cell? wc _ k0
    have hne : g ≠ w.heap.size + 1 := by omega
    have hne' : w.heap.size + 1 ≠ g := by omega
    have hlen := Lib.hid hP.1
    go_wp2_with fail
    refine (greatestPlus_any A' m c' (canonV l) wc hP (by omega)).mono ?_
    rintro e w6 ⟨rfl, hb6⟩
    have k0 := (hb6.cell (p := ⟨g, 0, none⟩) hgl).trans k0
    have k1 := (hb6.cell (p := ⟨g, 1, none⟩) hgl).trans k1
    have k2 := (hb6.frozen (p := ⟨g, 0, none⟩) hgl).trans k2
    have b3 := (hb6.cell (p := ⟨w.heap.size + 1, 0, none⟩) (show w.heap.size + 1 < wc.heap.size by omega)).trans b3
    have b4 := (hb6.cell (p := ⟨w.heap.size + 1, 1, none⟩) (show w.heap.size + 1 < wc.heap.size by omega)).trans b4
    have b5 := (hb6.frozen (p := ⟨w.heap.size + 1, 0, none⟩) (show w.heap.size + 1 < wc.heap.size by omega)).trans b5
    have b6 := (hb6.frozen (p := ⟨w.heap.size + 1, 1, none⟩) (show w.heap.size + 1 < wc.heap.size by omega)).trans b6
    have hP6 : PL w6 w6.heap.size A' m (canonV l) := hP.lift hb6
    have hbw6 : Below w.heap.size w w6 := hbw.trans (hb6.mono hbw.size)
    clear hb6 hbx hP hsa
    by_cases h8 : 8 < (m : Int)
    · have Hr : Hid (cErr c l = 2) := by rw [Hid, cErr, hlen.out, if_neg (by omega)]
      have Hcc : Hid (cConst c l = 0) := by rw [Hid, cConst, Hr.out]; rfl
      have Hcv : Hid (cVars c l = []) := by rw [Hid, cVars, Hr.out]; rfl
      generalize gplus (canonV l) = t
      by_cases hct : c ≤ t
      · skip
        have hX0 : (w6.setCell ⟨g, 0, none⟩ (.int .i64 0)).cell? ⟨w.heap.size + 1, 0, none⟩ = some (.int .i64 0) := keep_set hne' b3
        have hX1 : (w6.setCell ⟨g, 0, none⟩ (.int .i64 0)).cell? ⟨w.heap.size + 1, 1, none⟩ = some (.slice none 0 0) := keep_set hne' b4
        have e0 := World.cell?_setCell_same (w6.setCell ⟨g, 0, none⟩ (.int .i64 0)) ⟨w.heap.size + 1, 0, none⟩ (.int .i64 0) hX0
        have e1 := World.cell?_setCell_same ((w6.setCell ⟨g, 0, none⟩ (.int .i64 0)).setCell ⟨w.heap.size + 1, 0, none⟩ (.int .i64 0)) ⟨w.heap.size + 1, 1, none⟩ (.slice none 0 0) (keep_off (by decide) hX1)
        go_wp2_with fail
        refine bodyPost_ret (v := .tuple #[.agg #[(.int .i64 0), (.slice none 0 0)], .int .i64 2]) (by simp [results, Tryz.results25, go_sem, e0, e1]) rfl ?_
        refine ⟨.agg #[.int .i64 0, .slice none 0 0], by rw [Hr.out], ⟨none, 0, 0, by rw [Hcc.out], by rw [Hcv.out]; exact PL.nil_ _, Nat.le_refl _, by omega, fun _ _ e => by cases e⟩, ((hbw6.setCell (by show w.heap.size ≤ g; omega) _).setCell (by show w.heap.size ≤ w.heap.size + 1; omega) _).setCell (by show w.heap.size ≤ w.heap.size + 1; omega) _⟩
      · skip
        have hX0 : (w6).cell? ⟨w.heap.size + 1, 0, none⟩ = some (.int .i64 0) := b3
        have hX1 : (w6).cell? ⟨w.heap.size + 1, 1, none⟩ = some (.slice none 0 0) := b4
        have e0 := World.cell?_setCell_same (w6) ⟨w.heap.size + 1, 0, none⟩ (.int .i64 0) hX0
        have e1 := World.cell?_setCell_same ((w6).setCell ⟨w.heap.size + 1, 0, none⟩ (.int .i64 0)) ⟨w.heap.size + 1, 1, none⟩ (.slice none 0 0) (keep_off (by decide) hX1)
        go_wp2_with fail
        refine bodyPost_ret (v := .tuple #[.agg #[(.int .i64 0), (.slice none 0 0)], .int .i64 2]) (by simp [results, Tryz.results25, go_sem, e0, e1]) rfl ?_
        refine ⟨.agg #[.int .i64 0, .slice none 0 0], by rw [Hr.out], ⟨none, 0, 0, by rw [Hcc.out], by rw [Hcv.out]; exact PL.nil_ _, Nat.le_refl _, by omega, fun _ _ e => by cases e⟩, (hbw6.setCell (by show w.heap.size ≤ w.heap.size + 1; omega) _).setCell (by show w.heap.size ≤ w.heap.size + 1; omega) _⟩
    · by_cases hct : c ≤ gplus (canonV l)
      · by_cases hmx : max 0 (gplus (canonV l)) ≤ 1000
        · have Hr : Hid (cErr c l = 0) := by rw [Hid, cErr, hlen.out, if_pos hct, if_pos ⟨by omega, hmx⟩]
          have Hcc : Hid (cConst c l = 0) := by rw [Hid, cConst, if_pos Hr.out, if_pos hct]
          have Hcv : Hid (cVars c l = canonV l) := by rw [Hid, cVars, if_pos Hr.out]
          generalize gplus (canonV l) = t at hct hmx ⊢
          have hX0 : (w6.setCell ⟨g, 0, none⟩ (.int .i64 0)).cell? ⟨w.heap.size + 1, 0, none⟩ = some (.int .i64 0) := keep_set hne' b3
          have hX1 : (w6.setCell ⟨g, 0, none⟩ (.int .i64 0)).cell? ⟨w.heap.size + 1, 1, none⟩ = some (.slice none 0 0) := keep_set hne' b4
          have e0 := World.cell?_setCell_same (w6.setCell ⟨g, 0, none⟩ (.int .i64 0)) ⟨w.heap.size + 1, 0, none⟩ (.int .i64 0) hX0
          have e1 := World.cell?_setCell_same ((w6.setCell ⟨g, 0, none⟩ (.int .i64 0)).setCell ⟨w.heap.size + 1, 0, none⟩ (.int .i64 0)) ⟨w.heap.size + 1, 1, none⟩ (.slice A' m c') (keep_off (by decide) hX1)
          go_wp2_with fail
          refine bodyPost_ret (v := .tuple #[.agg #[(.int .i64 0), (.slice A' m c')], .int .i64 0]) (by simp [results, Tryz.results25, go_sem, e0, e1]) rfl ?_
          refine ⟨.agg #[.int .i64 0, .slice A' m c'], by rw [Hr.out], ⟨A', m, c', by rw [Hcc.out], by rw [Hcv.out]; exact ((hP6.set1 _ fun b off e => (hap b off e).1).set2 _ _ (fun b off e => by have := (hap b off e).2; omega) (by simp)), hm, hc, fun b off e => by have := (hap b off e).2; omega⟩, ((hbw6.setCell (by show w.heap.size ≤ g; omega) _).setCell (by show w.heap.size ≤ w.heap.size + 1; omega) _).setCell (by show w.heap.size ≤ w.heap.size + 1; omega) _⟩
        · have Hr : Hid (cErr c l = 2) := by rw [Hid, cErr, hlen.out, if_pos hct, if_neg (fun h => hmx h.2)]
          have Hcc : Hid (cConst c l = 0) := by rw [Hid, cConst, Hr.out]; rfl
          have Hcv : Hid (cVars c l = []) := by rw [Hid, cVars, Hr.out]; rfl
          generalize gplus (canonV l) = t at hct hmx ⊢
          have hmx' : 1000 < max 0 t := by omega
          have hX0 : (w6.setCell ⟨g, 0, none⟩ (.int .i64 0)).cell? ⟨w.heap.size + 1, 0, none⟩ = some (.int .i64 0) := keep_set hne' b3
          have hX1 : (w6.setCell ⟨g, 0, none⟩ (.int .i64 0)).cell? ⟨w.heap.size + 1, 1, none⟩ = some (.slice none 0 0) := keep_set hne' b4
          have e0 := World.cell?_setCell_same (w6.setCell ⟨g, 0, none⟩ (.int .i64 0)) ⟨w.heap.size + 1, 0, none⟩ (.int .i64 0) hX0
          have e1 := World.cell?_setCell_same ((w6.setCell ⟨g, 0, none⟩ (.int .i64 0)).setCell ⟨w.heap.size + 1, 0, none⟩ (.int .i64 0)) ⟨w.heap.size + 1, 1, none⟩ (.slice none 0 0) (keep_off (by decide) hX1)
          go_wp2_with fail
          refine bodyPost_ret (v := .tuple #[.agg #[(.int .i64 0), (.slice none 0 0)], .int .i64 2]) (by simp [results, Tryz.results25, go_sem, e0, e1]) rfl ?_
          refine ⟨.agg #[.int .i64 0, .slice none 0 0], by rw [Hr.out], ⟨none, 0, 0, by rw [Hcc.out], by rw [Hcv.out]; exact PL.nil_ _, Nat.le_refl _, by omega, fun _ _ e => by cases e⟩, ((hbw6.setCell (by show w.heap.size ≤ g; omega) _).setCell (by show w.heap.size ≤ w.heap.size + 1; omega) _).setCell (by show w.heap.size ≤ w.heap.size + 1; omega) _⟩
      · by_cases hmx : max c (gplus (canonV l)) ≤ 1000
        · have Hr : Hid (cErr c l = 0) := by rw [Hid, cErr, hlen.out, if_neg hct, if_pos ⟨by omega, hmx⟩]
          have Hcc : Hid (cConst c l = c) := by rw [Hid, cConst, if_pos Hr.out, if_neg hct]
          have Hcv : Hid (cVars c l = canonV l) := by rw [Hid, cVars, if_pos Hr.out]
          generalize gplus (canonV l) = t at hct hmx ⊢
          have hX0 : (w6).cell? ⟨w.heap.size + 1, 0, none⟩ = some (.int .i64 0) := b3
          have hX1 : (w6).cell? ⟨w.heap.size + 1, 1, none⟩ = some (.slice none 0 0) := b4
          have e0 := World.cell?_setCell_same (w6) ⟨w.heap.size + 1, 0, none⟩ (.int .i64 c) hX0
          have e1 := World.cell?_setCell_same ((w6).setCell ⟨w.heap.size + 1, 0, none⟩ (.int .i64 c)) ⟨w.heap.size + 1, 1, none⟩ (.slice A' m c') (keep_off (by decide) hX1)
          go_wp2_with fail
          refine bodyPost_ret (v := .tuple #[.agg #[(.int .i64 c), (.slice A' m c')], .int .i64 0]) (by simp [results, Tryz.results25, go_sem, e0, e1]) rfl ?_
          refine ⟨.agg #[.int .i64 c, .slice A' m c'], by rw [Hr.out], ⟨A', m, c', by rw [Hcc.out], by rw [Hcv.out]; exact (hP6.set2 _ _ (fun b off e => by have := (hap b off e).2; omega) (by simp)), hm, hc, fun b off e => by have := (hap b off e).2; omega⟩, (hbw6.setCell (by show w.heap.size ≤ w.heap.size + 1; omega) _).setCell (by show w.heap.size ≤ w.heap.size + 1; omega) _⟩
        · have Hr : Hid (cErr c l = 2) := by rw [Hid, cErr, hlen.out, if_neg hct, if_neg (fun h => hmx h.2)]
          have Hcc : Hid (cConst c l = 0) := by rw [Hid, cConst, Hr.out]; rfl
          have Hcv : Hid (cVars c l = []) := by rw [Hid, cVars, Hr.out]; rfl
          generalize gplus (canonV l) = t at hct hmx ⊢
          have hmx' : 1000 < max c t := by omega
          have hX0 : (w6).cell? ⟨w.heap.size + 1, 0, none⟩ = some (.int .i64 0) := b3
          have hX1 : (w6).cell? ⟨w.heap.size + 1, 1, none⟩ = some (.slice none 0 0) := b4
          have e0 := World.cell?_setCell_same (w6) ⟨w.heap.size + 1, 0, none⟩ (.int .i64 0) hX0
          have e1 := World.cell?_setCell_same ((w6).setCell ⟨w.heap.size + 1, 0, none⟩ (.int .i64 0)) ⟨w.heap.size + 1, 1, none⟩ (.slice none 0 0) (keep_off (by decide) hX1)
          go_wp2_with fail
          refine bodyPost_ret (v := .tuple #[.agg #[(.int .i64 0), (.slice none 0 0)], .int .i64 2]) (by simp [results, Tryz.results25, go_sem, e0, e1]) rfl ?_
          refine ⟨.agg #[.int .i64 0, .slice none 0 0], by rw [Hr.out], ⟨none, 0, 0, by rw [Hcc.out], by rw [Hcv.out]; exact PL.nil_ _, Nat.le_refl _, by omega, fun _ _ e => by cases e⟩, (hbw6.setCell (by show w.heap.size ≤ w.heap.size + 1; omega) _).setCell (by show w.heap.size ≤ w.heap.size + 1; omega) _⟩
end Go.Proofs.YtgbbmcfhakliiaaGreatDoor
