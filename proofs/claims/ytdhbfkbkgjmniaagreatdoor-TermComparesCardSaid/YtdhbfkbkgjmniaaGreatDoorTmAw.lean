/-
  'hasForm' of package term at nodes without a name and without levels; 'Valid' of terms of such nodes.
-/
import Derived.Test.YtdhbfkbkgjmniaaGreatDoorTmWk
import Derived.Test.YtdhbfkbkgjmniaaGreatDoorBel
import Derived.Deep.RegionHeld3
import Derived.Deep.DeepCutAuto
import Derived.Shelf.Abstract
namespace Go.Proofs.YtdhbfkbkgjmniaaGreatDoor
open Go Go.RowKit Go.Shelf

/-- a node without a name and without levels that has its form -/
def PlainN (x : Tm) : Prop := x.s = ⟨#[]⟩ ∧ x.u = [] ∧ ∃ (r : Nat) (row : ShRow), x.op = r ∧ shTab[r]? = some row ∧ 1 ≤ r ∧ r ≤ 30 ∧ r ≠ 28 ∧ row.kind = 0 ∧ x.n = 0 ∧ 0 ≤ row.most ∧ x.l.length = row.binds.size

set_option maxRecDepth 100000 in
set_option maxHeartbeats 2000000 in
theorem indexNone_any (U : Option Addr) (c : Nat) (w : World) :
    Calls Tryz.prog 182 #[.slice U 0 c, .func (.func 148) #[] #[]] w fun e w' => e = .returned (.int .i64 (-1)) ∧ Below w.heap.size w w' := by
  go_enter Tryz.func182, Tryz.ntmps182
  go_wp2
  go_loopw [8] (fun i wr => i = .int .i64 0 ∧ wr = w) (fun _ _ => 0)
  case atStart => exact ⟨rfl, rfl⟩
  case round =>
    obtain ⟨rfl, rfl⟩ := hrel
    go_wp2
    go_ret
    exact ⟨rfl, Below.refl _ _⟩
set_option maxRecDepth 100000 in
set_option maxHeartbeats 2000000 in
theorem containsNone_any (U : Option Addr) (c : Nat) (w : World) :
    Calls Tryz.prog 147 #[.slice U 0 c, .func (.func 148) #[] #[]] w fun e w' => e = .returned (.bool false) ∧ Below w.heap.size w w' := by
  go_enter Tryz.func147, Tryz.ntmps147
  go_wp2_with fail
  refine (indexNone_any U c w).mono ?_
  rintro e w1 ⟨rfl, hb⟩
  go_wp2_with fail
  go_ret
  exact ⟨rfl, hb⟩

/-- what a plain node's memory gives -/
structure PlF (w : World) (b off r : Nat) (row : ShRow) (U L : Option Addr) (cu nl cl : Nat) : Prop where
  bl : b < w.heap.size
  c0 : w.cell? ⟨b, off, none⟩ = some (.int .i64 r)
  c1 : w.cell? ⟨b, off + 1, none⟩ = some (.int .i64 0)
  c2 : w.cell? ⟨b, off + 2, none⟩ = some (.string ⟨#[]⟩)
  c3 : w.cell? ⟨b, off + 3, none⟩ = some (.slice U 0 cu)
  c4 : w.cell? ⟨b, off + 4, none⟩ = some (.slice L nl cl)
  sh : Shp w
  hr : shTab[r]? = some row
  r1 : 1 ≤ r
  r30 : r ≤ 30
  r28 : r ≠ 28
  kind : row.kind = 0
  nm : 0 ≤ row.most
  len : nl = row.binds.size
theorem PlF.below {w w' : World} {b off r : Nat} {row : ShRow} {U L : Option Addr} {cu nl cl : Nat} (h : PlF w b off r row U L cu nl cl) (hb : Below w.heap.size w w') : PlF w' b off r row U L cu nl cl :=
  { h with
    bl := Nat.lt_of_lt_of_le h.bl hb.size
    c0 := (hb.cell (p := ⟨b, off, none⟩) h.bl).trans h.c0
    c1 := (hb.cell (p := ⟨b, off + 1, none⟩) h.bl).trans h.c1
    c2 := (hb.cell (p := ⟨b, off + 2, none⟩) h.bl).trans h.c2
    c3 := (hb.cell (p := ⟨b, off + 3, none⟩) h.bl).trans h.c3
    c4 := (hb.cell (p := ⟨b, off + 4, none⟩) h.bl).trans h.c4
    sh := h.sh.lift hb }
theorem PlainN.facts {w : World} {B b off : Nat} {x : Tm} (hp : PlainN x) (h : NdAt w B b off x) (hB : B ≤ w.heap.size) (hs : Shp w) : ∃ r row U L cu nl cl, PlF w b off r row U L cu nl cl := by
  obtain ⟨h1, h2, r, row, h3, h4, h5, h6, h7, h8, h9, h10, h11⟩ := hp
  obtain ⟨hbl, U, nu, cu, L, nl, cl, c0, c1, c2, c3, c4, hu, _, _, hl, _, _⟩ := h.inv
  rw [h2] at hu
  have hnu : nu = 0 := hu.1.symm
  subst hnu
  rw [h3] at c0
  rw [h1] at c2
  rw [h9] at c1
  exact ⟨r, row, U, L, cu, nl, cl, ⟨Nat.lt_of_lt_of_le hbl hB, c0, c1, c2, c3, c4, hs, h4, h5, h6, h7, h8, h10, by rw [← hl.1]; exact h11⟩⟩

set_option maxRecDepth 100000 in
set_option maxHeartbeats 4000000 in
theorem hasParts_pl {w : World} {b off r : Nat} {row : ShRow} {U L : Option Addr} {cu nl cl : Nat} (h : PlF w b off r row U L cu nl cl) :
    Calls Tryz.prog 89 #[.pointer (some ⟨b, off, none⟩)] w fun e w' => e = .returned (.bool true) ∧ Below w.heap.size w w' := by
  obtain ⟨_, _, _, s3⟩ := h.sh.2 r row h.hr
  have c0 := h.c0
  have c4 := h.c4
  have ho : (r : Int) < 31 := by have := h.r30; omega
  have h28 : ¬ (r : Int) = 28 := by have := h.r28; omega
  have hlen : (nl : Int) = (row.binds.size : Int) := by rw [h.len]
  clear h
  go_enter Tryz.func89, Tryz.ntmps89
  go_wp2_with fail
  go_quiet (fail)
  go_wp2_with fail
  go_ret
  exact ⟨ret_bool (by simp), below_drewN (Below.refl _ _) _⟩

set_option maxRecDepth 100000 in
set_option maxHeartbeats 4000000 in
theorem hasName_pl {w : World} {b off r : Nat} {row : ShRow} {U L : Option Addr} {cu nl cl : Nat} (h : PlF w b off r row U L cu nl cl) :
    Calls Tryz.prog 90 #[.pointer (some ⟨b, off, none⟩)] w fun e w' => e = .returned (.bool true) ∧ Below w.heap.size w w' := by
  obtain ⟨_, s1, _, _⟩ := h.sh.2 r row h.hr
  rw [h.kind] at s1
  have c0 := h.c0
  have c2 := h.c2
  have ho : (r : Int) < 31 := by have := h.r30; omega
  clear h
  go_enter Tryz.func90, Tryz.ntmps90
  go_wp2_with fail
  go_ret
  exact ⟨rfl, Below.refl _ _⟩

set_option maxRecDepth 100000 in
set_option maxHeartbeats 4000000 in
theorem hasLevels_pl {w : World} {b off r : Nat} {row : ShRow} {U L : Option Addr} {cu nl cl : Nat} (h : PlF w b off r row U L cu nl cl) :
    Calls Tryz.prog 91 #[.pointer (some ⟨b, off, none⟩)] w fun e w' => e = .returned (.bool true) ∧ Below w.heap.size w w' := by
  have c3 := h.c3
  have Hh := Lib.hid h
  clear h
  go_enter Tryz.func91, Tryz.ntmps91
  go_wp2_with fail
  refine (containsNone_any U cu w).mono ?_
  rintro e w1 ⟨rfl, hb⟩
  have h := Hh.out.below hb
  clear Hh c3
  obtain ⟨_, s1, _, _⟩ := h.sh.2 r row h.hr
  rw [h.kind] at s1
  have c0 := h.c0
  have c3 := h.c3
  have ho : (r : Int) < 31 := by have := h.r30; omega
  clear h
  go_wp2_with fail
  go_ret
  exact ⟨rfl, hb⟩

set_option maxRecDepth 100000 in
set_option maxHeartbeats 4000000 in
theorem hasForm_pl {w : World} {b off r : Nat} {row : ShRow} {U L : Option Addr} {cu nl cl : Nat} (h : PlF w b off r row U L cu nl cl) :
    Calls Tryz.prog 52 #[.pointer (some ⟨b, off, none⟩)] w fun e w' => e = .returned (.bool true) ∧ Below w.heap.size w w' := by
  have HS : Hid (∀ W, Below w.heap.size w W → W.cell? ⟨b, off, none⟩ = some (.int .i64 r) ∧ W.cell? ⟨b, off + 1, none⟩ = some (.int .i64 0) ∧ W.cell? ⟨0, r * 4 + 2, none⟩ = some (.int .i64 row.most)) := Lib.hid fun W hW => ⟨(h.below hW).c0, (h.below hW).c1, ((h.below hW).sh.2 r row h.hr).2.2.1⟩
  have hop : isOpB (r : Int) = true := decide_eq_true ⟨by have := h.r1; omega, by have := h.r30; omega⟩
  have HI : Hid (∀ W, Below w.heap.size w W → Calls Tryz.prog 71 #[.int .i64 r] W fun e w' => e = .returned (.bool true) ∧ Below w.heap.size w w') := Lib.hid fun W hW => (isOp_any r W).mono fun e w' ⟨he, hw⟩ => ⟨by rw [← hop]; exact he, by rw [← hw]; exact hW⟩
  have ho : (r : Int) < 31 := by have := h.r30; omega
  have hnm : ¬ row.most < 0 := by have := h.nm; omega
  have Hh := Lib.hid h
  have hz0 : Below w.heap.size w w := Below.refl _ _
  have hz1 : Below w.heap.size w w.drew := hz0.drew
  have Hop := Lib.hid hop
  clear h hop HI hz0 hz1
  go_enter Tryz.func52, Tryz.ntmps52
  go_wp2_with fail
  have r0 : ∀ p : Bel w.heap.size w, p.v.cell? ⟨b, off, none⟩ = some (.int .i64 r) := fun p => (HS.out _ p.h).1
  have r1 : ∀ p : Bel w.heap.size w, p.v.cell? ⟨b, off + 1, none⟩ = some (.int .i64 0) := fun p => (HS.out _ p.h).2.1
  have r2 : ∀ p : Bel w.heap.size w, p.v.cell? ⟨0, r * 4 + 2, none⟩ = some (.int .i64 row.most) := fun p => (HS.out _ p.h).2.2
  have r3 : ∀ p : Bel w.heap.size w, Calls Tryz.prog 71 #[.int .i64 r] p.v fun e w' => e = .returned (.bool true) ∧ Below p.v.heap.size p.v w' := fun p => (isOp_any r p.v).mono fun e w' ⟨he, hw⟩ => ⟨by rw [← Hop.out]; exact he, by rw [← hw]; exact Below.refl _ _⟩
  refine wp_region_bel w.heap.size w (by kernel_rfl) (by kernel_rfl) (Below.refl _ _) ?_
  repeat (go_big_quiet_step ((go_at_call 71; exact Calls.bel_of (by simp) (r3 _))))
  refine wpQuiet_nil ?_
  rintro _ ⟨pq, rfl⟩
  have hb5 := pq.h
  generalize pq.v = w5 at hb5 ⊢
  have h5 := Lib.hid (Hh.out.below hb5)
  clear Hh HS Hop r0 r1 r2 r3
  go_wp2_with fail
  refine (hasParts_pl h5.out).mono ?_
  rintro e w6 ⟨rfl, hb6⟩
  have h6 := Lib.hid (h5.out.below hb6)
  go_wp2_with fail
  refine (hasName_pl h6.out).mono ?_
  rintro e w7 ⟨rfl, hb7⟩
  have h7 := Lib.hid (h6.out.below hb7)
  go_wp2_with fail
  refine (hasLevels_pl h7.out).mono ?_
  rintro e w8 ⟨rfl, hb8⟩
  go_wp2_with fail
  go_ret
  exact ⟨rfl, hb5.trans ((hb6.trans ((hb7.trans (hb8.mono hb7.size)).mono hb6.size)).mono hb5.size)⟩

/-- the state of Valid's visitor: the count, and whether all fits so far -/
abbrev VS := Int × Bool
def vGo (s : VS) (_ : Tm) (_ d : Nat) : Bool := s.2 && decide (wrap64 (s.1 + 1) ≤ 2000) && decide ((d : Int) ≤ 200)
def vStp (s : VS) (x : Tm) (b d : Nat) : VS := (wrap64 (s.1 + 1), vGo s x b d)
def VI (bn bf : Nat) (s : VS) (W : World) : Prop := W.heap[bn]? = some (.cells #[.int .i64 s.1] 3) ∧ W.heap[bf]? = some (.cells #[.bool s.2] 4)
theorem VI.keep {bn bf : Nat} {s : VS} {W W' : World} (h : VI bn bf s W) (hb : Below W.heap.size W W') : VI bn bf s W' :=
  ⟨(hb.block bn (Array.getElem?_eq_some_iff.1 h.1).1).trans h.1, (hb.block bf (Array.getElem?_eq_some_iff.1 h.2).1).trans h.2⟩
theorem one_set {W : World} {q : Nat} {v u : Value} {ty : TypeId} (h : W.heap[q]? = some (.cells #[v] ty)) : (W.setCell ⟨q, 0, none⟩ u).heap[q]? = some (.cells #[u] ty) := by
  unfold World.setCell
  simp only [Array.getElem?_modify]
  rw [if_pos trivial, h]
  rfl
theorem one_far {W : World} {q j : Nat} {u : Value} (h : j ≠ q) : (W.setCell ⟨q, 0, none⟩ u).heap[j]? = W.heap[j]? := Below.heap_setCell W ⟨q, 0, none⟩ u j h
/-- two captured boxes are written, and memory is made -/
theorem KX.two {n1 B bn bf : Nat} {W W1 W2 : World} {u v : Value} (hbn : B ≤ bn ∧ bn < n1) (hbf : B ≤ bf ∧ bf < n1) (hB : B ≤ W.heap.size) (h1 : W1 = W.setCell ⟨bn, 0, none⟩ u) (h2 : Below W1.heap.size W1 W2) : KX n1 B W (W2.setCell ⟨bf, 0, none⟩ v) := by
  subst h1
  have hs : (W.setCell ⟨bn, 0, none⟩ u).heap.size = W.heap.size := by simp [World.setCell]
  have hb1 : Below B W (W.setCell ⟨bn, 0, none⟩ u) := (Below.refl B W).setCell (show B ≤ (⟨bn, 0, none⟩ : Addr).block from hbn.1) u
  refine ⟨(hb1.trans (h2.mono (by rw [hs]; exact hB))).setCell (show B ≤ (⟨bf, 0, none⟩ : Addr).block from hbf.1) v, fun j h3 h4 => ?_⟩
  rw [one_far (by omega), h2.block j (by rw [hs]; exact h4), one_far (by omega)]

set_option maxRecDepth 100000 in
set_option maxHeartbeats 4000000 in
theorem validVis_any (bn bf n1 B : Nat) (s : VS) (W : World) (x : Tm) (b off bd dp : Nat) (hP : PlainN x) (hI : VI bn bf s W) (hne : bn ≠ bf) (hbn : B ≤ bn ∧ bn < n1) (hbf : B ≤ bf ∧ bf < n1) (hB : B ≤ W.heap.size) (hS : Shp W) (hG : 0 < B) (hN : NdAt W B b off x) :
    Calls Tryz.prog 54 #[.pointer (some ⟨b, off, none⟩), .int .i64 bd, .int .i64 dp, .pointer (some ⟨bn, 0, none⟩), .pointer (some ⟨bf, 0, none⟩)] W fun e W' => e = .returned (.bool (vGo s x bd dp)) ∧ VI bn bf (vStp s x bd dp) W' ∧ KX n1 B W W' := by
  obtain ⟨c, f⟩ := s
  obtain ⟨i1, i2⟩ := hI
  have hn0 : W.cell? ⟨bn, 0, none⟩ = some (.int .i64 c) := (cell_heap i1).trans rfl
  have hnf := frz_one i1 0
  have e1 : (W.setCell ⟨bn, 0, none⟩ (.int .i64 (wrap64 (c + 1)))).heap[bn]? = some (.cells #[.int .i64 (wrap64 (c + 1))] 3) := one_set i1
  have e2 : (W.setCell ⟨bn, 0, none⟩ (.int .i64 (wrap64 (c + 1)))).heap[bf]? = some (.cells #[.bool f] 4) := (one_far (Ne.symm hne)).trans i2
  have hs : (W.setCell ⟨bn, 0, none⟩ (.int .i64 (wrap64 (c + 1)))).heap.size = W.heap.size := by simp [World.setCell]
  have hb1 : Below B W (W.setCell ⟨bn, 0, none⟩ (.int .i64 (wrap64 (c + 1)))) := (Below.refl B W).setCell (show B ≤ (⟨bn, 0, none⟩ : Addr).block from hbn.1) _
  have hN1 := hN.below hb1
  have hS1 := hS.below hG hb1
  have hK := fun (W2 : World) (v : Value) (h2 : Below (W.setCell ⟨bn, 0, none⟩ (.int .i64 (wrap64 (c + 1)))).heap.size (W.setCell ⟨bn, 0, none⟩ (.int .i64 (wrap64 (c + 1)))) W2) => KX.two (v := v) hbn hbf hB rfl h2
  unfold vStp vGo VI
  dsimp only
  generalize hgv : (f && decide (wrap64 (c + 1) ≤ 2000) && decide ((dp : Int) ≤ 200)) = g
  have Hgv := Lib.hid hgv
  clear hgv
  go_enter Tryz.func54, Tryz.ntmps54
  go_upto_region 2 with fail
  clear i1 i2 hn0 hnf hN hS
  generalize hc1 : wrap64 (c + 1) = c1 at *
  have Hc := Lib.hid hc1
  clear hc1
  generalize W.setCell ⟨bn, 0, none⟩ (.int .i64 c1) = W1 at *
  have m0 : W1.cell? ⟨bn, 0, none⟩ = some (.int .i64 c1) := (cell_heap e1).trans rfl
  have m1 : W1.cell? ⟨bf, 0, none⟩ = some (.bool f) := (cell_heap e2).trans rfl
  have m2 := frz_one e2 0
  have hbne : bf ≠ bn := fun h => hne h.symm
  have Hk := Lib.hid hK
  have He1 := Lib.hid e1
  have He2 := Lib.hid e2
  clear hK e1 e2
  have bad : ∀ W2 : World, Below W1.heap.size W1 W2 → (∃ v : Value, v = .bool false) → ((W2.setCell ⟨bf, 0, none⟩ (.bool false)).heap[bn]? = some (.cells #[.int .i64 c1] 3) ∧ (W2.setCell ⟨bf, 0, none⟩ (.bool false)).heap[bf]? = some (.cells #[.bool false] 4)) ∧ KX n1 B W (W2.setCell ⟨bf, 0, none⟩ (.bool false)) := fun W2 h2 _ =>
    ⟨⟨(one_far hne).trans ((h2.block bn (Array.getElem?_eq_some_iff.1 He1.out).1).trans He1.out), one_set ((h2.block bf (Array.getElem?_eq_some_iff.1 He2.out).1).trans He2.out)⟩, Hk.out W2 _ h2⟩
  have Bad := Lib.hid (bad W1 (Below.refl _ _) ⟨_, rfl⟩)
  clear bad
  cases f
  · obtain rfl : false = g := by rw [← Hgv.out]; rfl
    go_wp2_with fail
    go_ret
    exact ⟨rfl, by rw [Hc.out]; exact Bad.out.1, Bad.out.2⟩
  · by_cases h1 : c1 ≤ 2000
    · by_cases h2 : (dp : Int) ≤ 200
      · obtain ⟨r, row, U, L, cu, nl, cl, hPl⟩ := hP.facts hN1 (by rw [hs]; exact hB) hS1
        have HP := Lib.hid (hasForm_pl hPl)
        clear hPl Bad
        obtain rfl : true = g := by rw [← Hgv.out]; simp [h1, h2]
        go_wp2_with fail
        refine HP.out.mono ?_
        rintro e W2 ⟨rfl, hb2⟩
        have f1 := (hb2.block bn (Array.getElem?_eq_some_iff.1 He1.out).1).trans He1.out
        have f2 := (hb2.block bf (Array.getElem?_eq_some_iff.1 He2.out).1).trans He2.out
        have F := Lib.hid (And.intro ((one_far (u := Value.bool true) hne).trans f1) (And.intro (one_set (u := .bool true) f2) (Hk.out W2 (.bool true) hb2)))
        have m1 : W2.cell? ⟨bf, 0, none⟩ = some (.bool true) := (cell_heap f2).trans rfl
        have m2 := frz_one f2 0
        clear f1 f2 m0
        go_wp2_with fail
        go_ret
        exact ⟨rfl, by rw [Hc.out]; exact ⟨F.out.1, F.out.2.1⟩, F.out.2.2⟩
      · obtain rfl : false = g := by rw [← Hgv.out]; simp [h1, h2]
        go_wp2_with fail
        go_ret
        exact ⟨rfl, by rw [Hc.out]; exact Bad.out.1, Bad.out.2⟩
    · obtain rfl : false = g := by rw [← Hgv.out]; simp [h1]
      go_wp2_with fail
      go_ret
      exact ⟨rfl, by rw [Hc.out]; exact Bad.out.1, Bad.out.2⟩

theorem heap3' (w : World) (a b c : Obj) : (((w.alloc a).alloc b).alloc c).heap[w.heap.size]? = some a ∧ (((w.alloc a).alloc b).alloc c).heap[w.heap.size + 1]? = some b ∧ (((w.alloc a).alloc b).alloc c).heap[w.heap.size + 2]? = some c := by
  have h1 := heap2 (w.alloc a) b c
  have e1 : (w.alloc a).heap.size = w.heap.size + 1 := by simp
  rw [e1] at h1
  refine ⟨?_, h1.1, h1.2⟩
  exact (Below.heap_alloc ((w.alloc a).alloc b) c w.heap.size (by simp <;> omega)).trans (heap2 w a b).1

set_option maxRecDepth 100000 in
set_option maxHeartbeats 4000000 in
theorem validPl_any (t : Tm) (c0 c1 c2 c3 c4 : Value) (w : World) (h : TmAt w w.heap.size c0 c1 c2 c3 c4 t) (hS : Shp w) (hP : ∀ x, Sub x t → PlainN x) (hnd : t.nd ≤ 100000) (hrun : (runT vStp vGo ((0 : Int), true) t 0 1).2 = true) :
    Calls Tryz.prog 19 #[.agg #[c0, c1, c2, c3, c4]] w fun e w' => e = .returned (.bool true) ∧ Below w.heap.size w w' := by
  obtain ⟨U, nu, cu, L, nl, cl, rfl, rfl, rfl, rfl, rfl, _⟩ := h.inv
  have hbx : Below w.heap.size w (w.alloc (.cells #[.int .i64 t.op, .int .i64 t.n, .string t.s, .slice U nu cu, .slice L nl cl] 25)) := (Below.refl _ _).alloc (Nat.le_refl _) _
  have H := Lib.hid h
  clear h
  go_enter Tryz.func19, Tryz.ntmps19
  go_upto_region 2 with fail
  have g0 := heap3' w (.cells #[.int .i64 t.op, .int .i64 t.n, .string t.s, .slice U nu cu, .slice L nl cl] 25) (.cells #[.bool true] 4) (.cells #[.int .i64 0] 3)
  have g1 := (hbx.alloc (by simp) (.cells #[.bool true] 4)).alloc (by simp <;> omega) (.cells #[.int .i64 0] 3)
  have g2 : (((w.alloc (.cells #[.int .i64 t.op, .int .i64 t.n, .string t.s, .slice U nu cu, .slice L nl cl] 25)).alloc (.cells #[.bool true] 4)).alloc (.cells #[.int .i64 0] 3)).heap.size = w.heap.size + 3 := by simp
  generalize ((w.alloc (.cells #[.int .i64 t.op, .int .i64 t.n, .string t.s, .slice U nu cu, .slice L nl cl] 25)).alloc (.cells #[.bool true] 4)).alloc (.cells #[.int .i64 0] 3) = W3 at *
  obtain ⟨k0, k1, k2⟩ := g0
  have hN : NdAt W3 (w.heap.size + 1) w.heap.size 0 t := ⟨Nat.lt_succ_self _, _, _, _, _, _, (H.out.stay g1).more (Nat.le_succ _), (cell_heap k0).trans rfl, (cell_heap k0).trans rfl, (cell_heap k0).trans rfl, (cell_heap k0).trans rfl, (cell_heap k0).trans rfl⟩
  have hS3 := hS.lift g1
  have HW := Lib.hid (walk_any vStp vGo PlainN 54 #[.pointer (some ⟨w.heap.size + 1 + 1, 0, none⟩), .pointer (some ⟨w.heap.size + 1, 0, none⟩)] (w.heap.size + 1) W3 (VI (w.heap.size + 2) (w.heap.size + 1)) ((0 : Int), true) t w.heap.size 0 (enters_of Tryz.func54 (by kernel_rfl) rfl) ⟨k2, k1⟩ hS3 (Nat.lt_of_lt_of_le hS.1 (Nat.le_succ _)) (by omega) hN hnd hP (fun s W W' hI _ hb => hI.keep hb) (fun s W x b off bd dp hp hI hb hs hz hn _ _ => validVis_any (w.heap.size + 2) (w.heap.size + 1) W3.heap.size (w.heap.size + 1) s W x b off bd dp hp hI (by omega) ⟨by omega, by omega⟩ ⟨by omega, by omega⟩ (by omega) hs (Nat.lt_of_lt_of_le hS.1 (Nat.le_succ _)) hn))
  clear k0 k1 k2 hN hS3 H
  go_wp2_with fail
  refine HW.out.mono ?_
  rintro e W4 ⟨rfl, ⟨_, k4⟩, hb4⟩
  rw [hrun] at k4
  have k5 : W4.cell? ⟨w.heap.size + 1, 0, none⟩ = some (.bool true) := (cell_heap k4).trans rfl
  clear k4 HW
  go_wp2_with fail
  go_ret
  exact ⟨rfl, g1.trans (hb4.mono (Nat.le_succ _))⟩
end Go.Proofs.YtdhbfkbkgjmniaaGreatDoor
