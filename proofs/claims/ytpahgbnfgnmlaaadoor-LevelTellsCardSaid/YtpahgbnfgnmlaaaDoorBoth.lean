/-
  'both' of package level: the greater of two levels, before it is made canonical.
-/
import Derived.Test.YtpahgbnfgnmlaaaDoorConcat
import Derived.Deep.RegionHeld3
namespace Go.Proofs.YtpahgbnfgnmlaaaDoor
open Go Go.RowKit Go.Sort Go.Shelf

/-- the three boxes that 'both' and 'Max' begin with -/
structure B3 (w wr : World) (ca : Int) (A : Option Addr) (n capA : Nat) (cb : Int) (B : Option Addr) (m capB : Nat) : Prop where
  bel : Go.RowKit.Below w.heap.size w wr
  size : w.heap.size + 1 + 1 + 1 ≤ wr.heap.size
  a0 : wr.cell? ⟨w.heap.size, 0, none⟩ = some (.int .i64 ca)
  a1 : wr.cell? ⟨w.heap.size, 1, none⟩ = some (.slice A n capA)
  b0 : wr.cell? ⟨w.heap.size + 1, 0, none⟩ = some (.int .i64 cb)
  b1 : wr.cell? ⟨w.heap.size + 1, 1, none⟩ = some (.slice B m capB)
  r0 : wr.cell? ⟨w.heap.size + 1 + 1, 0, none⟩ = some (.int .i64 0)
  r1 : wr.cell? ⟨w.heap.size + 1 + 1, 1, none⟩ = some (.slice none 0 0)
  r2 : wr.frozen? ⟨w.heap.size + 1 + 1, 0, none⟩ = false
  r3 : wr.frozen? ⟨w.heap.size + 1 + 1, 1, none⟩ = false
theorem new_froz (X : World) (cs : Array Value) (t : TypeId) {k : Nat} (hk : k = X.heap.size) (i : Nat) : (X.alloc (.cells cs t)).frozen? ⟨k, i, none⟩ = false := by
  subst hk; exact frozen_new' _ _ _ _
theorem B3.start (w : World) (ca : Int) (A : Option Addr) (n capA : Nat) (cb : Int) (B : Option Addr) (m capB : Nat) :
    B3 w (((w.alloc (.cells #[.int .i64 ca, .slice A n capA] 24)).alloc (.cells #[.int .i64 cb, .slice B m capB] 24)).alloc (.cells #[.int .i64 0, .slice none 0 0] 24)) ca A n capA cb B m capB := by
  have e : ((w.alloc (.cells #[.int .i64 ca, .slice A n capA] 24)).alloc (.cells #[.int .i64 cb, .slice B m capB] 24)).heap.size = w.heap.size + 1 + 1 := by simp
  refine ⟨((((Go.RowKit.Below.refl _ w).alloc (Nat.le_refl _) _).alloc (by simp) _).alloc (by simp; omega) _), by simp, ?_, ?_, ?_, ?_, ?_, ?_, ?_, ?_⟩
  · exact cell_alloc _ (cell_alloc _ (by simp))
  · exact cell_alloc _ (cell_alloc _ (by simp))
  · exact cell_alloc _ (by simp)
  · exact cell_alloc _ (by simp)
  · exact (new_cells _ 0 _ e.symm).1
  · exact (new_cells _ 0 _ e.symm).2.1
  · exact new_froz _ _ _ e.symm _
  · exact new_froz _ _ _ e.symm _
theorem B3.go {w wr w5 : World} {ca cb : Int} {A B : Option Addr} {n capA m capB : Nat} (h : B3 w wr ca A n capA cb B m capB) (hb : Go.RowKit.Below wr.heap.size wr w5) : B3 w w5 ca A n capA cb B m capB := by
  have hs := h.size
  have k : ∀ q i, q < wr.heap.size → w5.cell? ⟨q, i, none⟩ = wr.cell? ⟨q, i, none⟩ := fun q i hq => hb.cell (p := ⟨q, i, none⟩) hq
  have f : ∀ q i, q < wr.heap.size → w5.frozen? ⟨q, i, none⟩ = wr.frozen? ⟨q, i, none⟩ := fun q i hq => hb.frozen (p := ⟨q, i, none⟩) hq
  exact ⟨h.bel.trans (hb.mono h.bel.size), by have := hb.size; omega, (k _ _ (by omega)).trans h.a0, (k _ _ (by omega)).trans h.a1, (k _ _ (by omega)).trans h.b0, (k _ _ (by omega)).trans h.b1, (k _ _ (by omega)).trans h.r0, (k _ _ (by omega)).trans h.r1, (f _ _ (by omega)).trans h.r2, (f _ _ (by omega)).trans h.r3⟩
theorem B3.put {w wr : World} {ca cb : Int} {A B : Option Addr} {n capA m capB : Nat} (h : B3 w wr ca A n capA cb B m capB) (d : Int) (v : Value) :
    ((wr.setCell ⟨w.heap.size + 1 + 1, 0, none⟩ (.int .i64 d)).setCell ⟨w.heap.size + 1 + 1, 1, none⟩ v).cell? ⟨w.heap.size + 1 + 1, 0, none⟩ = some (.int .i64 d) ∧
    ((wr.setCell ⟨w.heap.size + 1 + 1, 0, none⟩ (.int .i64 d)).setCell ⟨w.heap.size + 1 + 1, 1, none⟩ v).cell? ⟨w.heap.size + 1 + 1, 1, none⟩ = some v ∧
    Go.RowKit.Below w.heap.size w ((wr.setCell ⟨w.heap.size + 1 + 1, 0, none⟩ (.int .i64 d)).setCell ⟨w.heap.size + 1 + 1, 1, none⟩ v) :=
  ⟨keep_off (by decide) (World.cell?_setCell_same _ _ _ h.r0), World.cell?_setCell_same _ _ _ (keep_off (by decide) h.r1), (h.bel.setCell (by show w.heap.size ≤ w.heap.size + 1 + 1; omega) _).setCell (by show w.heap.size ≤ w.heap.size + 1 + 1; omega) _⟩

theorem two_cells (X : World) (v u : Value) (t : TypeId) (_hv : v.oneCell' = true) (_hu : u.oneCell' = true) : (X.alloc (.cells #[v, u] t)).cell? ⟨X.heap.size, 0, none⟩ = some v ∧ (X.alloc (.cells #[v, u] t)).cell? ⟨X.heap.size, 1, none⟩ = some u := ⟨by simp, by simp⟩

set_option maxRecDepth 100000 in
set_option maxHeartbeats 4000000 in
theorem both_anyN (ca : Int) (A : Option Addr) (n capA : Nat) (la : List (Int × Int)) (cb : Int) (B : Option Addr) (m capB : Nat) (lb : List (Int × Int)) (w : World)
    (ha : PL w w.heap.size A n la) (hb : PL w w.heap.size B m lb) (hn : n ≤ 100000) (hm : m ≤ 100000) (hA : A = none → capA = 0) (hB : B = none → capB = 0) :
    Calls Tryd.prog 47 #[.agg #[.int .i64 ca, .slice A n capA], .agg #[.int .i64 cb, .slice B m capB]] w fun e w' => ∃ v, e = .returned v ∧ LvResN w.heap.size w' v (max ca cb) (la ++ lb) ∧ Go.RowKit.Below w.heap.size w w' := by
  obtain ⟨q, hq⟩ : ∃ q, la ++ lb = q := ⟨_, rfl⟩
  rw [hq]
  have h3 := B3.start w ca A n capA cb B m capB
  go_enter Tryd.func47, Tryd.ntmps47
  go_upto_region 1 with fail
  generalize ((w.alloc (.cells #[.int .i64 ca, .slice A n capA] 24)).alloc (.cells #[.int .i64 cb, .slice B m capB] 24)).alloc (.cells #[.int .i64 0, .slice none 0 0] 24) = W at *
  have hcall : ∀ X, Go.RowKit.Below W.heap.size W X → ∀ T, T = X.heap.size → Calls Tryd.prog 64 #[.slice (some ⟨T, 0, none⟩) 2 2] (X.alloc (.cells #[.slice A n capA, .slice B m capB] 22)) fun e w' =>
      ∃ C k, e = .returned (.slice C q.length k) ∧ PL w' w'.heap.size C q.length q ∧ q.length ≤ k ∧ k ≤ 9223372036854775807 ∧ (∀ b off, C = some ⟨b, off, none⟩ → W.heap.size ≤ b) ∧ (C = none → k = 0) ∧ Go.RowKit.Below W.heap.size W w' := by
    intro X hX T hT
    subst hT
    have hXa := hX.alloc hX.size (.cells #[.slice A n capA, .slice B m capB] 22)
    obtain ⟨t0, t1⟩ := two_cells X (.slice A n capA) (.slice B m capB) 22 rfl rfl
    have hbX := h3.bel.trans (hXa.mono h3.bel.size)
    refine (concat_any A n capA la B m capB lb X.heap.size _ (ha.lift hbX) (hb.lift hbX) hn hm hA hB (by simp) t0 t1).mono ?_
    rintro e w' ⟨v, rfl, hown, hbw⟩
    rw [hq] at hown
    have hown0 := hown
    obtain ⟨C, k, rfl, hlk, hkm, hP, hC⟩ := PL.of_own hown
    refine ⟨C, k, rfl, hP, hlk, by unfold maxLen at hkm; omega, fun b off e => ?_, own_none hown0, hXa.trans (hbw.mono hXa.size)⟩
    rcases hC with rfl | ⟨g, rfl, hg, _⟩
    · cases e
    · injection e with e; injection e with e; subst e
      have := hXa.size
      omega
  have Hcall := Lib.hid hcall; clear hcall hq
  have hS : ∀ w', Go.RowKit.Below W.heap.size W w' → (w'.cell? ⟨w.heap.size, 0, none⟩ = some (.int .i64 ca) ∧ w'.cell? ⟨w.heap.size, 1, none⟩ = some (.slice A n capA) ∧ w'.cell? ⟨w.heap.size + 1, 0, none⟩ = some (.int .i64 cb) ∧ w'.cell? ⟨w.heap.size + 1, 1, none⟩ = some (.slice B m capB)) := fun w' hb => ⟨(h3.go hb).a0, (h3.go hb).a1, (h3.go hb).b0, (h3.go hb).b1⟩
  have HS := Lib.hid hS; clear hS
  have H3 := Lib.hid h3
  have hz0 : Go.RowKit.Below W.heap.size W W.drew := (Go.RowKit.Below.refl _ _).drew
  have hsz := h3.size
  clear h3
  go_region_held3 (fun w' => w'.cell? ⟨w.heap.size, 0, none⟩ = some (.int .i64 ca) ∧ w'.cell? ⟨w.heap.size, 1, none⟩ = some (.slice A n capA) ∧ w'.cell? ⟨w.heap.size + 1, 0, none⟩ = some (.int .i64 cb) ∧ w'.cell? ⟨w.heap.size + 1, 1, none⟩ = some (.slice B m capB))
    (first | exact HS.out _ (by assumption) | exact HS.out _ (hz0.alloc (Nat.le_refl _) _) | exact ⟨keep_set (by omega) (keep_set (by omega) f1), keep_set (by omega) (keep_set (by omega) f2), keep_set (by omega) (keep_set (by omega) f3), keep_set (by omega) (keep_set (by omega) f4)⟩)
    (first | (go_at_call 64; refine (Hcall.out _ hz0 _ rfl).mono ?_; rintro e w5 ⟨C, k, rfl, hPC, hlk, hk, hC, hCN, hz⟩; obtain ⟨f1, f2, f3, f4⟩ := HS.out _ hz; have y0 := (H3.out.go hz).r0; have y1 := (H3.out.go hz).r1; have y2 := (H3.out.go hz).r2; have y3 := (H3.out.go hz).r3))
  all_goals
    obtain ⟨z0, z1, z2⟩ := (H3.out.go hz).put (max ca cb) (.slice C q.length k)
    go_wp2_with fail
    refine bodyPost_ret (v := .agg #[.int .i64 (max ca cb), .slice C q.length k]) (by simp [results, Tryd.results47, go_sem, z0, z1]) rfl ?_
    refine ⟨_, rfl, ⟨C, _, k, rfl, ?_, hlk, hk, fun b off e => by have := hC b off e; omega, hCN⟩, z2⟩
    exact hPC.set2 _ _ (fun b off e => by have := hC b off e; omega) (by simp)
theorem both_any (ca : Int) (A : Option Addr) (n capA : Nat) (la : List (Int × Int)) (cb : Int) (B : Option Addr) (m capB : Nat) (lb : List (Int × Int)) (w : World)
    (ha : PL w w.heap.size A n la) (hb : PL w w.heap.size B m lb) (hn : n ≤ 100000) (hm : m ≤ 100000) (hA : A = none → capA = 0) (hB : B = none → capB = 0) :
    Calls Tryd.prog 47 #[.agg #[.int .i64 ca, .slice A n capA], .agg #[.int .i64 cb, .slice B m capB]] w fun e w' => ∃ v, e = .returned v ∧ LvRes w.heap.size w' v (max ca cb) (la ++ lb) ∧ Go.RowKit.Below w.heap.size w w' :=
  (both_anyN ca A n capA la cb B m capB lb w ha hb hn hm hA hB).mono fun _ _ ⟨v, h1, h2, h3⟩ => ⟨v, h1, h2.to, h3⟩
end Go.Proofs.YtpahgbnfgnmlaaaDoor
