/-
  'read' of package level, at every text.
-/
import Derived.Test.YtgbbmcfhakliiaaGreatDoorParts
import Derived.Test.YtgbbmcfhakliiaaGreatDoorReadBad
import Derived.Test.YtgbbmcfhakliiaaGreatDoorRRead
namespace Go.Proofs.YtgbbmcfhakliiaaGreatDoor
open Go Go.RowKit Go.Shelf

/-- box R: the result, untouched; box R + 1: the level that is read; nothing else below B is other than it was -/
structure PR (B R : Nat) (a wr : World) (c : Int) (v : Value) : Prop where
  bb : BB B (R + 1) a wr
  hB : R + 2 ≤ B
  size : B ≤ wr.heap.size
  a0 : wr.cell? ⟨R + 1, 0, none⟩ = some (.int .i64 c)
  a1 : wr.cell? ⟨R + 1, 1, none⟩ = some v
  a2 : wr.frozen? ⟨R + 1, 0, none⟩ = false
  a3 : wr.frozen? ⟨R + 1, 1, none⟩ = false
  r0 : wr.cell? ⟨R, 0, none⟩ = some (.int .i64 0)
  r1 : wr.cell? ⟨R, 1, none⟩ = some (.slice none 0 0)
  r2 : wr.frozen? ⟨R, 0, none⟩ = false
  r3 : wr.frozen? ⟨R, 1, none⟩ = false
theorem PR.then {B R : Nat} {a wr w' : World} {c : Int} {v : Value} (h : PR B R a wr c v) (hb : Below wr.heap.size wr w') : PR B R a w' c v := by
  have hs := h.size
  have hB := h.hB
  exact ⟨h.bb.then hb hs, hB, Nat.le_trans hs hb.size, (hb.cell (p := ⟨R + 1, 0, none⟩) (show R + 1 < _ by omega)).trans h.a0, (hb.cell (p := ⟨R + 1, 1, none⟩) (show R + 1 < _ by omega)).trans h.a1,
    (hb.frozen (p := ⟨R + 1, 0, none⟩) (show R + 1 < _ by omega)).trans h.a2, (hb.frozen (p := ⟨R + 1, 1, none⟩) (show R + 1 < _ by omega)).trans h.a3,
    (hb.cell (p := ⟨R, 0, none⟩) (show R < _ by omega)).trans h.r0, (hb.cell (p := ⟨R, 1, none⟩) (show R < _ by omega)).trans h.r1,
    (hb.frozen (p := ⟨R, 0, none⟩) (show R < _ by omega)).trans h.r2, (hb.frozen (p := ⟨R, 1, none⟩) (show R < _ by omega)).trans h.r3⟩
theorem PR.grown {B R : Nat} {a wr w' : World} {c : Int} {v : Value} {row : Option Nat} (h : PR B R a wr c v) (hg : wr.grownBy w' row) (hr : ∀ k, row = some k → B ≤ k) : PR B R a w' c v := by
  have hs := h.size
  have hB := h.hB
  have n0 : some R ≠ row := fun e => by have := hr R e.symm; omega
  have n1 : some (R + 1) ≠ row := fun e => by have := hr (R + 1) e.symm; omega
  have b0 := hg.block R (by omega) n0
  have b1 := hg.block (R + 1) (by omega) n1
  exact ⟨h.bb.grown hg hs hr, hB, Nat.le_trans hs hg.size, (World.cell?_of_block b1).trans h.a0, (World.cell?_of_block b1).trans h.a1, (World.frozen?_of_block b1).trans h.a2, (World.frozen?_of_block b1).trans h.a3,
    (World.cell?_of_block b0).trans h.r0, (World.cell?_of_block b0).trans h.r1, (World.frozen?_of_block b0).trans h.r2, (World.frozen?_of_block b0).trans h.r3⟩
theorem PR.put1 {B R : Nat} {a wr : World} {c : Int} {v : Value} (h : PR B R a wr c v) (v' : Value) : PR B R a (wr.setCell ⟨R + 1, 1, none⟩ v') c v' :=
  ⟨h.bb.setCell 1 v', h.hB, by rw [World.size_setCell]; exact h.size, keep_off (by decide) h.a0, World.cell?_setCell_same _ _ _ h.a1, by rw [World.frozen?_setCell]; exact h.a2, by rw [World.frozen?_setCell]; exact h.a3,
    keep_set (by omega) h.r0, keep_set (by omega) h.r1, by rw [World.frozen?_setCell]; exact h.r2, by rw [World.frozen?_setCell]; exact h.r3⟩
theorem PR.put0 {B R : Nat} {a wr : World} {c : Int} {v : Value} (h : PR B R a wr c v) (c' : Int) : PR B R a (wr.setCell ⟨R + 1, 0, none⟩ (.int .i64 c')) c' v :=
  ⟨h.bb.setCell 0 _, h.hB, by rw [World.size_setCell]; exact h.size, World.cell?_setCell_same _ _ _ h.a0, keep_off (by decide) h.a1, by rw [World.frozen?_setCell]; exact h.a2, by rw [World.frozen?_setCell]; exact h.a3,
    keep_set (by omega) h.r0, keep_set (by omega) h.r1, by rw [World.frozen?_setCell]; exact h.r2, by rw [World.frozen?_setCell]; exact h.r3⟩
theorem PR.ret {B R : Nat} {a wr : World} {c : Int} {v : Value} (h : PR B R a wr c v) (c' : Int) (v' : Value) : ((wr.setCell ⟨R, 0, none⟩ (.int .i64 c')).setCell ⟨R, 1, none⟩ v').cell? ⟨R, 0, none⟩ = some (.int .i64 c') ∧ ((wr.setCell ⟨R, 0, none⟩ (.int .i64 c')).setCell ⟨R, 1, none⟩ v').cell? ⟨R, 1, none⟩ = some v' ∧ Below R a ((wr.setCell ⟨R, 0, none⟩ (.int .i64 c')).setCell ⟨R, 1, none⟩ v') :=
  ⟨keep_off (by decide) (World.cell?_setCell_same _ _ _ h.r0), World.cell?_setCell_same _ _ _ (keep_off (by decide) h.r1), (((h.bb.below (by have := h.hB; omega)).mono (Nat.le_succ R)).setCell (Nat.le_refl _) _).setCell (Nat.le_refl _) _⟩
theorem PR.below {B R : Nat} {a wr : World} {c : Int} {v : Value} (h : PR B R a wr c v) : Below R a wr := (h.bb.below (by have := h.hB; omega)).mono (Nat.le_succ R)
theorem SL.bb {w w' : World} {B T n : Nat} {A : Option Addr} {ps : List (List UInt8)} (h : SL w B A n ps) (hb : BB B T w w') (hT : ∀ b off, A = some ⟨b, off, none⟩ → b ≠ T) : SL w' B A n ps :=
  ⟨h.1, fun hn => by
    obtain ⟨b, off, e, hB, hc⟩ := h.2 hn
    exact ⟨b, off, e, hB, fun j x hx => (hb.cell (p := ⟨b, off + j, none⟩) hB (hT b off e)).trans (hc j x hx)⟩⟩
theorem own_more {w : World} {base base' : Nat} {e : TypeId} {size n : Nat} {v : Value} {xs : List Value} (h : w.ownsRow base e size v n xs) (hb : base' ≤ base) : w.ownsRow base' e size v n xs :=
  ⟨h.1, h.2.imp id (fun ⟨g, cap, cur, e, hbg, r⟩ => ⟨g, cap, cur, e, Nat.le_trans hb hbg, r⟩)⟩
theorem drop_cons' {α : Type} {l : List α} {k : Nat} {x : α} (h : l[k]? = some x) : l.drop k = x :: l.drop (k + 1) := by
  obtain ⟨hl, rfl⟩ := List.getElem?_eq_some_iff.1 h
  exact List.drop_eq_getElem_cons hl
theorem readF_len : ∀ (ps : List (List UInt8)) (c : Int) (l : List (Int × Int)) (y : Int × List (Int × Int)), readF ps c l = some y → y.2.length ≤ l.length + ps.length
  | [], c, l, y, h => by rw [readF] at h; rw [← Option.some.inj h]; simp
  | p :: ps, c, l, y, h => by
    rw [readF] at h
    split at h
    · split at h
      · have := readF_len ps _ _ y h
        simp at this ⊢; omega
      · cases h
    · split at h
      · have := readF_len ps _ _ y h
        simp at this ⊢; omega
      · cases h

set_option maxRecDepth 100000 in
set_option maxHeartbeats 4000000 in
theorem pread_any (s : ByteArray) (w : World) (hs : s.size ≤ 1000000) (hE : ∀ w1, Below w.heap.size w w1 → w1.ShapedOpen Tryz.prog ∧ Errs w1) :
    Calls Tryz.prog 19 #[.string s] w fun e w' => ∃ (c : Int) (l : List (Int × Int)) (A : Option Addr) (n cap : Nat),
      e = .returned (.tuple #[.agg #[.int .i64 c, .slice A n cap], .bool (readF (partsF s.data.toList) 0 []).isSome]) ∧ w'.ownsRow (w.heap.size + 2) 45 2 (.slice A n cap) l.length (flat2 l) ∧ Below w.heap.size w w' ∧ (∀ y, readF (partsF s.data.toList) 0 [] = some y → y = (c, l)) := by
  obtain ⟨i0, hi, hz0, hz1, hz2⟩ := info_parts infoV
  have hl : s.data.toList.length = s.size := (Lib.size_eq s).symm
  have hpl := partsF_len s.data.toList
  rw [hl] at hpl
  obtain ⟨⟨q0, q1, q2, q3⟩, q4, q5⟩ := box2 (w := w) (x0 := .int .i64 0) (x1 := .slice none 0 0) (y0 := .int .i64 0) (y1 := .slice none 0 0) (t := 24) (Below.refl _ _)
  have hh := heap2 w (.cells #[.int .i64 0, .slice none 0 0] 24) (.cells #[.int .i64 0, .slice none 0 0] 24)
  have z0 := frozen_far (i := 0) hh.1
  have z1 := frozen_far (i := 1) hh.1
  have z2 := frozen_far (i := 0) hh.2
  have z3 := frozen_far (i := 1) hh.2
  have hpa := Lib.hid (parts_any s _ hs (hE _ q5).1)
  have Hpl := Lib.hid hpl
  clear hl hpl hh
  generalize hps : partsF s.data.toList = ps at hpa Hpl
  clear hps
  go_enter Tryz.func19, Tryz.ntmps19
  go_wp2_with fail
  refine hpa.out.mono ?_
  rintro e w2 ⟨A, n, cap, rfl, hsl, hb2, hn, hfar⟩
  have hsz2 : w.heap.size + 2 ≤ w2.heap.size := by have := hb2.size; simp at this; omega
  have hA : ∀ b off, A = some ⟨b, off, none⟩ → b ≠ w.heap.size + 1 := fun b off e => by have := hfar b off e; simp at this; omega
  have hw2 : Below w.heap.size w w2 := q5.trans (hb2.mono (by simp; omega))
  have h0 : PR w2.heap.size w.heap.size w2 w2 0 (.slice none 0 0) := by
    have e1 : w.heap.size + 1 < ((w.alloc (.cells #[.int .i64 0, .slice none 0 0] 24)).alloc (.cells #[.int .i64 0, .slice none 0 0] 24)).heap.size := by simp
    have e0 : w.heap.size < ((w.alloc (.cells #[.int .i64 0, .slice none 0 0] 24)).alloc (.cells #[.int .i64 0, .slice none 0 0] 24)).heap.size := by omega
    exact ⟨BB.of (Below.refl _ _), hsz2, Nat.le_refl _, (hb2.cell (p := ⟨w.heap.size + 1, 0, none⟩) e1).trans q2, (hb2.cell (p := ⟨w.heap.size + 1, 1, none⟩) e1).trans q3, (hb2.frozen (p := ⟨w.heap.size + 1, 0, none⟩) e1).trans z2, (hb2.frozen (p := ⟨w.heap.size + 1, 1, none⟩) e1).trans z3,
      (hb2.cell (p := ⟨w.heap.size, 0, none⟩) e0).trans q0, (hb2.cell (p := ⟨w.heap.size, 1, none⟩) e0).trans q1, (hb2.frozen (p := ⟨w.heap.size, 0, none⟩) e0).trans z0, (hb2.frozen (p := ⟨w.heap.size, 1, none⟩) e0).trans z1⟩
  clear q0 q1 q2 q3 q4 q5 z0 z1 z2 z3 hb2 hfar
  go_wp2_with fail
  go_loopw [16] (fun i wr => ∃ k : Nat, k ≤ n ∧ i = .int .i64 k ∧ ∃ (c : Int) (A' : Option Addr) (n' cap' : Nat) (l : List (Int × Int)), PR w2.heap.size w.heap.size w2 wr c (.slice A' n' cap') ∧ wr.ownsRow w2.heap.size 45 2 (.slice A' n' cap') l.length (flat2 l) ∧ l.length ≤ k ∧ readF ps 0 [] = readF (ps.drop k) c l) (fun i _ => n - (intOf i).toNat)
  case atStart => exact ⟨0, by omega, rfl, 0, none, 0, 0, [], h0, World.ownsRow_nil _ _ _ _, Nat.le_refl _, rfl⟩
  case round =>
    obtain ⟨k, hk, rfl, c, A', n', cap', l, hpr, hown, hlk, hrd⟩ := hrel
    have Hrd := Lib.hid hrd
    clear hrd h0
    have a0 := hpr.a0
    have a1 := hpr.a1
    have a2 := hpr.a2
    have a3 := hpr.a3
    have r0 := hpr.r0
    have r1 := hpr.r1
    have r2 := hpr.r2
    have r3 := hpr.r3
    have hszr := hpr.size
    have hwr : Below w.heap.size w wr := hw2.trans hpr.below
    by_cases hkn : k < n
    · obtain ⟨b, off, x, rfl, hbl, hx, hcx⟩ := (hsl.bb hpr.bb hA).at_ hkn
      have hxl : x.length ≤ 1000000 := Nat.le_trans (Hpl.out x (List.mem_of_getElem? hx)) hs
      have Hdr : Hid (ps.drop k = x :: ps.drop (k + 1)) := drop_cons' hx
      have hcut := cutPrefix_any (bs x) [117] wr
      rw [bs_data] at hcut
      cases hu : Lib.hasPrefix x [117]
      · rw [hu] at hcut
        have Hcut := Lib.hid hcut
        have Hst : Hid (readF ps 0 [] = match Lib.atoiAll x with | .ok m => readF (ps.drop (k + 1)) m l | _ => none) := by
          rw [Hid, Hrd.out, Hdr.out, readF, if_neg (by rw [hu]; decide)]
          cases Lib.atoiAll x <;> rfl
        have hat := atoi_any (bs x) (by rw [bs_size]; exact hxl) wr (hE _ hwr).2
        rw [bs_data] at hat
        have Hat := Lib.hid hat
        clear hcut hat hu
        go_wp2_with fail
        refine Hcut.out.mono ?_
        rintro e w3 ⟨rfl, rfl⟩
        go_wp2_with fail
        refine Hat.out.mono ?_
        rintro e w4 ⟨m, er, rfl, hb4, hcase⟩
        have hpr4 := hpr.then hb4
        clear a0 a1 a2 a3 r0 r1 r2 r3
        have a0 := hpr4.a0
        have a1 := hpr4.a1
        have a2 := hpr4.a2
        have a3 := hpr4.a3
        have r0 := hpr4.r0
        have r1 := hpr4.r1
        have r2 := hpr4.r2
        have r3 := hpr4.r3
        rcases hcase with ⟨hok, rfl⟩ | ⟨hno, t, p, rfl⟩
        · have Hnx : Hid (readF ps 0 [] = readF (ps.drop (k + 1)) m l) := by rw [Hid, Hst.out, hok]
          have Hok := Lib.hid hok
          clear hok
          have G := hpr4.put0 m
          go_wp2_with fail
          go_roundw
          case rel => exact ⟨k + 1, by omega, by go_num, m, A', n', cap', l, G, ownsRow_setCell_below (a := ⟨w.heap.size + 1, 0, none⟩) (own_below hown hb4) (by show w.heap.size + 1 < _; omega) _, by omega, Hnx.out⟩
          case measure => simp [intOf]; omega
        · have HN : Hid (readF ps 0 [] = none) := by
            rw [Hid, Hst.out]; split
            · exact absurd (by assumption) (hno _)
            · rfl
          clear hno
          have e := hpr4.ret 0 (.slice none 0 0)
          go_wp2_with fail
          refine bodyPost_ret (v := .tuple #[.agg #[.int .i64 0, .slice none 0 0], .bool false]) (by simp [results, Tryz.results19, go_sem, e.1, e.2.1]) rfl ?_
          refine ⟨0, [], none, 0, 0, by rw [HN.out]; rfl, World.ownsRow_nil _ _ _ _, hw2.trans e.2.2, fun y hy => ?_⟩
          rw [HN.out] at hy; cases hy
      · rw [hu] at hcut
        obtain ⟨t, ht⟩ : ∃ t, Lib.trimPrefix x [117] = t := ⟨_, rfl⟩
        have htl := trimPrefix_le x [117]
        rw [ht] at hcut htl
        have Hcut := Lib.hid hcut
        have Hst : Hid (readF ps 0 [] = match readVarF t with | some y => readF (ps.drop (k + 1)) c (l ++ [y]) | none => none) := by
          rw [Hid, Hrd.out, Hdr.out, readF, if_pos hu, ht]
          cases readVarF t <;> rfl
        have hrv := readVar_any (bs t) wr (by rw [bs_size]; omega) (fun w1 h1 => hE w1 (hwr.trans (h1.mono (by omega))))
        rw [bs_data] at hrv
        have Hrv := Lib.hid hrv
        clear hcut hrv hu ht htl
        go_wp2_with fail
        refine Hcut.out.mono ?_
        rintro e w3 ⟨rfl, rfl⟩
        go_wp2_with fail
        refine Hrv.out.mono ?_
        rintro e w4 ⟨y, rfl, hb4, hy⟩
        have hpr4 := hpr.then hb4
        clear a0 a1 a2 a3 r0 r1 r2 r3
        cases hv : readVarF t with
        | none =>
          have HN : Hid (readF ps 0 [] = none) := by rw [Hid, Hst.out, hv]
          have g4 := hpr4.then (w' := w4.alloc (.cells #[.int .i64 y.1, .int .i64 y.2] 45)) ((Below.refl _ _).alloc (Nat.le_refl _) _)
          have r0 := g4.r0
          have r1 := g4.r1
          have r2 := g4.r2
          have r3 := g4.r3
          have e := g4.ret 0 (.slice none 0 0)
          clear hy
          go_wp2_with fail
          refine bodyPost_ret (v := .tuple #[.agg #[.int .i64 0, .slice none 0 0], .bool false]) (by simp [results, Tryz.results19, go_sem, e.1, e.2.1]) rfl ?_
          refine ⟨0, [], none, 0, 0, by rw [HN.out]; rfl, World.ownsRow_nil _ _ _ _, hw2.trans e.2.2, fun y hy => ?_⟩
          rw [HN.out] at hy; cases hy
        | some z =>
          obtain rfl : z = y := hy z hv
          have Hnx : Hid (readF ps 0 [] = readF (ps.drop (k + 1)) c (l ++ [z])) := by rw [Hid, Hst.out, hv]
          have hX : Below w3.heap.size w3 ((w4.alloc (.cells #[.int .i64 z.1, .int .i64 z.2] 45)).alloc (.cells #[.int .i64 z.1, .int .i64 z.2] 45)) := (hb4.alloc hb4.size _).alloc (by have := hb4.size; simp; omega) _
          have gX := hpr.then hX
          have hownX := own_below hown hX
          have g4 := hpr4.then (w' := w4.alloc (.cells #[.int .i64 z.1, .int .i64 z.2] 45)) ((Below.refl _ _).alloc (Nat.le_refl _) _)
          have a0 := g4.a0
          have a1 := g4.a1
          have a2 := g4.a2
          have a3 := g4.a3
          have r0 := g4.r0
          have r1 := g4.r1
          clear hy hv
          have hl6 : l.length ≤ 1000001 := by omega
          go_wp2_with (at_builtin; refine wpList_append_own _ rfl _ _ 22 rfl w2.heap.size 45 i0 (.agg #[.int .i64 0, .int .i64 0]) 2 16 Tryz.underlying22 hi hz0 hz1 hz2 rfl (by decide) (.slice A' n' cap') l.length (flat2 l) rfl hownX _ 1 1 [.int .i64 z.1, .int .i64 z.2] rfl rfl (news2' (x := z) (by simp)) (news2_one (x := z)) (by unfold maxLen; omega) (by omega) (by have := gX.size; omega) ?_)
          intro v5 w5 hown5 hgrow _
          have hown6 : w5.ownsRow w2.heap.size 45 2 v5 (l ++ [z]).length (flat2 (l ++ [z])) := by rw [List.length_append, flat2_app, flat2_one]; exact hown5
          clear hown5
          have g5 := gX.grown hgrow (fun k hk => (hown.lt k hk).1)
          obtain ⟨A5, c5, rfl, _, _, _, _⟩ := PL.of_own hown6
          clear a0 a1 a2 a3 r0 r1
          have b0 := g5.a0
          have b1 := g5.a1
          have b2 := g5.a2
          have b3 := g5.a3
          have G := g5.put1 (.slice A5 (l ++ [z]).length c5)
          have O := ownsRow_setCell_below (a := ⟨w.heap.size + 1, 1, none⟩) hown6 (by show w.heap.size + 1 < _; omega) (.slice A5 (l ++ [z]).length c5)
          have hlz : (l ++ [z]).length = l.length + 1 := by simp
          go_wp2_with fail
          go_roundw
          case rel => exact ⟨k + 1, by omega, by go_num, c, A5, l.length + 1, c5, l ++ [z], by rw [← hlz]; exact G, by rw [← hlz]; exact O, by omega, Hnx.out⟩
          case measure => simp [intOf]; omega
    · have hkn' : k = n := by omega
      have HN : Hid (readF ps 0 [] = some (c, l)) := by rw [Hid, Hrd.out, List.drop_eq_nil_of_le (by have := hsl.1; omega)]; rfl
      obtain ⟨A5, c5, e5, _, _, _, _⟩ := PL.of_own hown
      injection e5 with e5 e6 e7
      subst e5 e6 e7
      have e := hpr.ret c (.slice A' l.length cap')
      go_wp2_with fail
      refine bodyPost_ret (v := .tuple #[.agg #[.int .i64 c, .slice A' l.length cap'], .bool true]) (by simp [results, Tryz.results19, go_sem, e.1, e.2.1]) rfl ?_
      refine ⟨c, l, _, _, _, by rw [HN.out]; rfl, ?_, hw2.trans e.2.2, fun y hy => ?_⟩
      · refine own_more ?_ hsz2
        exact ownsRow_setCell_below (a := ⟨w.heap.size, 1, none⟩) (ownsRow_setCell_below (a := ⟨w.heap.size, 0, none⟩) hown (by show w.heap.size < _; omega) _) (by show w.heap.size < _; omega) _
      · rw [HN.out] at hy
        exact (Option.some.inj hy).symm
end Go.Proofs.YtgbbmcfhakliiaaGreatDoor
