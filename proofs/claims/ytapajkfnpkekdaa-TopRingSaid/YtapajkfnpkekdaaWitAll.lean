/-
  WitAll: the texts GWith2, GWith3, GAdd3, one behind another.
-/
import Derived.Test.YtapajkfnpkekdaaGWith
import Derived.Test.YtapajkfnpkekdaaGAdd
/-
  'with' of package graph, from numbers that hold but need not be the least.
-/
namespace Go.Proofs.Ytapajkfnpkekdaa
open Go Go.RowKit

/-- numbers from 0 on for which all edges that are on hold; the least ones, if b says so -/
structure Lsw (b : Prop) (On : Edg → Prop) (x : Nat → Int) : Prop where
  sat : Sat On x
  nn : ∀ v, 0 ≤ x v
  least : b → ∀ y, Sat On y → (∀ v, 0 ≤ y v) → ∀ v, x v ≤ y v
/-- what with says -/
def WithPost2 (b : Prop) (V0 N B : Nat) (On : Edg → Prop) (more : List Edg) (w : World) (e : Ending) (w' : World) : Prop :=
  ∃ (r : Int) (V1 c1 : Nat) (xs1 : List Int), e = .returned (.tuple #[.slice (some ⟨V1, 0, none⟩) N c1, .int .i64 r]) ∧ xs1.length = N ∧ w'.ownsRow 0 3 1 (.slice (some ⟨V1, 0, none⟩) N c1) N (int1 xs1) ∧ (V1 = V0 ∨ B ≤ V1) ∧ Below w.heap.size w w' ∧
    (r = 0 ∧ Lsw b (fun e => On e ∨ e ∈ more) (gx xs1) ∨ r = 1 ∧ ∀ y, Sat On y → (∀ e ∈ more, hol y e) → False)

/-- the number of the node of more while its edges are gone through -/
structure Cur2 (b : Prop) (On : Edg → Prop) (more : List Edg) (t0 : Nat) (old : Nat → Int) (j : Nat) (z : Int) : Prop where
  lo : old t0 ≤ z
  hi : z ≤ 2000000 + 2000 * j
  ask : ∀ e ∈ more.take j, old e.f + e.b ≤ z
  least : b → ∀ y, Sat On y → (∀ v, 0 ≤ y v) → (∀ e ∈ more, hol y e) → z ≤ y t0
theorem Cur2.next {b : Prop} {On : Edg → Prop} {more : List Edg} {t0 : Nat} {old : Nat → Int} {j : Nat} {z : Int} (h : Cur2 b On more t0 old j z) {e : Edg} (he : more[j]? = some e) (ht : e.t = t0) (hb : e.b ≤ 2000) (ho : ∀ v, old v ≤ 2000000) (hL : Lsw b On old) :
    Cur2 b On more t0 old (j + 1) (max z (upd old t0 z e.f + e.b)) := by
  have hmem := List.mem_of_getElem? he
  have hle : old e.f ≤ upd old t0 z e.f := by
    by_cases hf : e.f = t0
    · rw [hf, upd_same]; exact h.lo
    · rw [upd_ne _ _ hf]; exact Int.le_refl _
  have hle2 : upd old t0 z e.f ≤ 2000000 + 2000 * j := by
    by_cases hf : e.f = t0
    · rw [hf, upd_same]; exact h.hi
    · rw [upd_ne _ _ hf]; have := ho e.f; omega
  have h1 := h.lo
  have h2 := h.hi
  refine ⟨by omega, by omega, fun e' he' => ?_, fun hbb y hy hn hm => ?_⟩
  · rw [take_snoc he] at he'
    rcases List.mem_append.1 he' with h3 | h3
    · have := h.ask e' h3; omega
    · rw [List.mem_singleton.1 h3]; omega
  · have h3 := h.least hbb y hy hn hm
    have h4 := hm e hmem
    unfold hol at h4
    rw [ht] at h4
    have h5 : upd old t0 z e.f ≤ y e.f := by
      by_cases hf : e.f = t0
      · rw [hf, upd_same]; exact h3
      · rw [upd_ne _ _ hf]; exact hL.least hbb y hy hn e.f
    omega

set_option maxRecDepth 100000 in
set_option maxHeartbeats 4000000 in
theorem with2_any (b : Prop) (S OU ON N L V0 c0 : Nat) (out : Nat → List Edg) (on : Nat → Bool) (A : Option Addr) (m c : Nat) (more : List Edg) (to0 : Nat) (xs0 : List Int) (w : World)
    (hS : ∀ V, w.heap.size ≤ V → SR w S OU ON N L out on V) (hG : OkG N L out) (h3 : w.cell? ⟨S, 3, none⟩ = some (.slice (some ⟨V0, 0, none⟩) N c0)) (hV : w.ownsRow 0 3 1 (.slice (some ⟨V0, 0, none⟩) N c0) N (int1 xs0))
    (hw : EL w w.heap.size A m more) (hm0 : 0 < m) (hm : m ≤ 1000) (hok : ∀ e ∈ more, e.f < N ∧ e.t = to0 ∧ -2000 ≤ e.b ∧ e.b ≤ 2000) (hto : to0 < N) (hN : N ≤ 2000) (hL : Lsw b (OnG out on) (gx xs0)) (hub : ∀ v, gx xs0 v ≤ 2000000) :
    Calls Try.prog 25 #[.pointer (some ⟨S, 0, none⟩), .slice A m c] w (WithPost2 b V0 N w.heap.size (OnG out on) more w) := by
  have hx0l : xs0.length = N := by have := hV.1; rw [int1_len] at this; omega
  have hVl : V0 < w.heap.size := (own_lt hV).2
  have hSl : S < w.heap.size := (hS _ (Nat.le_refl _)).lt.1
  have hokN : Ok N more := fun e he => by obtain ⟨h1, h2, h4, h5⟩ := hok e he; exact ⟨h1, by rw [h2]; exact hto, by omega, by omega⟩
  have hsm : Sm xs0 := fun z hz => by
    obtain ⟨i, hi, rfl⟩ := List.mem_iff_getElem.1 hz
    have h1 := hub i
    have h2 := hL.nn i
    rw [gx_at (List.getElem?_eq_getElem hi)] at h1 h2
    omega
  have hak := asks_any A m c more V0 N c0 xs0 w hw (by omega) (own_il hV hVl) hokN hsm
  have HS := Lib.hid hS
  have HL := Lib.hid hL
  have Hok := Lib.hid hok
  clear hS hL hok
  go_enter Try.func25, Try.ntmps25
  cases hask : asksB (gx xs0) more
  · rw [hask] at hak
    have Hak := Lib.hid hak
    clear hak
    go_wp2_with fail
    refine Hak.out.mono ?_
    rintro e w1 ⟨rfl, hb1⟩
    have g3 := (hb1.cell (p := ⟨S, 3, none⟩) hSl).trans h3
    go_wp2_with fail
    go_ret2
    exact ⟨0, V0, c0, xs0, rfl, hx0l, own_below hV hb1, .inl rfl, hb1, .inl ⟨rfl, ⟨fun e he => by
      rcases he with he | he
      · exact HL.out.sat e he
      · exact asksB_false.1 hask e he, HL.out.nn, fun hbb y hy hn v => HL.out.least hbb y (fun e he => hy e (.inl he)) hn v⟩⟩⟩
  · rw [hask] at hak
    have Hak := Lib.hid hak
    clear hak
    go_wp2_with fail
    refine Hak.out.mono ?_
    rintro e w1 ⟨rfl, hb1⟩
    have g3 := (hb1.cell (p := ⟨S, 3, none⟩) hSl).trans h3
    have hsz1 := hb1.size
    go_wp2_with fail
    refine (clone_own V0 N c0 xs0 w1 (own_below hV hb1) (by omega) (by omega)).mono ?_
    rintro e w2 ⟨V, cV, rfl, hown2, hb2⟩
    have hbw : Below w.heap.size w w2 := hb1.trans (hb2.mono hsz1)
    have hVn : w.heap.size ≤ V := Nat.le_trans hsz1 (own_lt hown2).1
    have hown0 : w2.ownsRow w.heap.size 3 1 (.slice (some ⟨V, 0, none⟩) N cV) N (int1 xs0) := own_lower hown2 hsz1
    clear hown2 hb2 hb1 g3
    obtain ⟨b0, off0, e0, rfl, hb0, he0, _, f1, _, _⟩ := (hw.below hbw).at_ hm0
    have ht0 : e0.t = to0 := (Hok.out e0 (List.mem_of_getElem? he0)).2.1
    rw [ht0] at f1
    rw [Nat.zero_mul, Nat.add_zero] at f1
    clear he0 ht0
    go_wp2_with fail
    go_loopw [33] (fun i wr => ∃ j : Nat, j ≤ m ∧ i = .int .i64 j ∧ ∃ z : Int, Hid (Cur2 b (OnG out on) more to0 (gx xs0) j z) ∧ wr.ownsRow w.heap.size 3 1 (.slice (some ⟨V, 0, none⟩) N cV) N (int1 (xs0.set to0 z)) ∧ Below w.heap.size w wr) (fun i _ => m - (intOf i).toNat)
    case atStart =>
      refine ⟨0, Nat.zero_le _, rfl, gx xs0 to0, ⟨Int.le_refl _, by have := hub to0; omega, fun e he => by simp at he, fun hbb y hy hn _ => HL.out.least hbb y hy hn to0⟩, ?_, hbw⟩
      rw [set_gx (by omega)]
      exact hown0
    case round =>
      obtain ⟨j, hj, rfl, z, Hc, hown, hbr⟩ := hrel
      have hszr := hbr.size
      by_cases hlt : j < m
      · obtain ⟨b, off, e, hbe, hbl, he, y0, y1, y2, y3⟩ := (hw.below hbr).at_ hlt
        cases hbe
        obtain ⟨q1, q2, q3, q4⟩ := Hok.out e (List.mem_of_getElem? he)
        have Hn := Lib.hid (Hc.out.next he q2 q4 hub HL.out)
        have Hzlo := Lib.hid Hc.out.lo
        have Hzhi := Lib.hid Hc.out.hi
        have hz0 : 0 ≤ z := by have := HL.out.nn to0; have := Hc.out.lo; omega
        have hz1 : z ≤ 10000000 := by have := Hc.out.hi; omega
        have hfb : 0 ≤ upd (gx xs0) to0 z e.f ∧ upd (gx xs0) to0 z e.f ≤ 10000000 := by
          by_cases hf : e.f = to0
          · rw [hf, upd_same]; omega
          · rw [upd_ne _ _ hf]; have := HL.out.nn e.f; have := hub e.f; omega
        have hgx : gx (xs0.set to0 z) = upd (gx xs0) to0 z := gx_set _ _ _ (by omega)
        have hXX : Below wr.heap.size wr (wr.alloc (.cells #[.int .i64 e.f, .int .i64 to0, .int .i64 e.b, .int .i64 e.k] 68)) := (Below.refl _ _).alloc (Nat.le_refl _) _
        have v1 := own_cell hown (gx_some (xs := xs0.set to0 z) (v := to0) (by rw [List.length_set]; omega))
        have v2 := own_cell hown (gx_some (xs := xs0.set to0 z) (v := e.f) (by rw [List.length_set]; omega))
        rw [hgx] at v1 v2
        rw [upd_same] at v1
        generalize upd (gx xs0) to0 z e.f = x at *
        have hVr : V < wr.heap.size := (own_lt hown).2
        have Hj := Lib.hid he
        have Hq2 := Lib.hid q2
        rw [q2] at y1
        clear he hgx q2
        go_wp2_with fail
        have hX0 := box4 (w := wr) (x0 := .int .i64 e.f) (x1 := .int .i64 to0) (x2 := .int .i64 e.b) (x3 := .int .i64 e.k) (t := 68) (Below.refl (wr.heap.size + 1) _)
        have hd : Below wr.heap.size wr (wr.alloc (.cells #[.int .i64 e.f, .int .i64 to0, .int .i64 e.b, .int .i64 e.k] 68)).drew := hXX.drew
        have hb3 : Below (wr.heap.size + 1) (wr.alloc (.cells #[.int .i64 e.f, .int .i64 to0, .int .i64 e.b, .int .i64 e.k] 68)) (wr.alloc (.cells #[.int .i64 e.f, .int .i64 to0, .int .i64 e.b, .int .i64 e.k] 68)).drew := (Below.refl _ _).drew
        obtain ⟨d0, d1, d2, d3, _⟩ := box4 hb3
        have g1 := v1.1
        have g2 := v2.1
        have g3 := v1.2
        have hk : ∀ v, ((wr.setCell ⟨V, to0, none⟩ v).alloc (.cells #[.int .i64 e.f, .int .i64 to0, .int .i64 e.b, .int .i64 e.k] 68)).drew.cell? ⟨wr.heap.size, 0, none⟩ = some (.int .i64 e.f) ∧ ((wr.setCell ⟨V, to0, none⟩ v).alloc (.cells #[.int .i64 e.f, .int .i64 to0, .int .i64 e.b, .int .i64 e.k] 68)).drew.cell? ⟨wr.heap.size, 2, none⟩ = some (.int .i64 e.b) ∧ Below w.heap.size w ((wr.setCell ⟨V, to0, none⟩ v).alloc (.cells #[.int .i64 e.f, .int .i64 to0, .int .i64 e.b, .int .i64 e.k] 68)).drew := fun v => by
          have h5 : (wr.setCell ⟨V, to0, none⟩ v).heap.size = wr.heap.size := World.size_setCell _ _ _
          have h6 : Below ((wr.setCell ⟨V, to0, none⟩ v).heap.size + 1) ((wr.setCell ⟨V, to0, none⟩ v).alloc (.cells #[.int .i64 e.f, .int .i64 to0, .int .i64 e.b, .int .i64 e.k] 68)) ((wr.setCell ⟨V, to0, none⟩ v).alloc (.cells #[.int .i64 e.f, .int .i64 to0, .int .i64 e.b, .int .i64 e.k] 68)).drew := (Below.refl _ _).drew
          obtain ⟨h7, _, h8, _⟩ := box4 h6
          rw [h5] at h7 h8
          exact ⟨h7, h8, ((hbr.setCell (p := ⟨V, to0, none⟩) hVn v).alloc (by rw [h5]; exact hszr) _).drew⟩
        have hko : ∀ u : Int, ((wr.setCell ⟨V, to0, none⟩ (.int .i64 u)).alloc (.cells #[.int .i64 e.f, .int .i64 to0, .int .i64 e.b, .int .i64 e.k] 68)).drew.ownsRow w.heap.size 3 1 (.slice (some ⟨V, 0, none⟩) N cV) N (int1 (xs0.set to0 u)) := fun u => by
          have h5 := own_below (own_store hown to0 u) (((Below.refl _ (wr.setCell ⟨V, to0, none⟩ (.int .i64 u))).alloc (Nat.le_refl _) (.cells #[.int .i64 e.f, .int .i64 to0, .int .i64 e.b, .int .i64 e.k] 68)).drew)
          rw [List.set_set] at h5
          exact h5
        have Hk := Lib.hid hk
        have Hko := Lib.hid hko
        have Hm : Hid (Cur2 b (OnG out on) more to0 (gx xs0) (j + 1) (if z < x + e.b then x + e.b else z)) := by
          have h5 := Hn.out
          rw [show max z (x + e.b) = if z < x + e.b then x + e.b else z by split <;> omega] at h5
          exact h5
        clear hk hko
        have i1 : (to0 : Int) < (N : Int) := by omega
        have i2 : (e.f : Int) < (N : Int) := by omega
        clear y0 y1 y2 y3 v1 v2 hX0 hb3 hXX
        refine wp_region_held_drew (S := fun w' => w'.cell? ⟨wr.heap.size, 0, none⟩ = some (.int .i64 e.f) ∧ w'.cell? ⟨wr.heap.size, 2, none⟩ = some (.int .i64 e.b)) (by kernel_rfl) ⟨d0, d2⟩ (fun hHeld => ?_)
        refine wpAnyH_take (i := 0) (oi := { dst := some 37, op := Op.move (Operand.tmp 6), type := 33, pos := "search.go:86", after := #[], guard := none }) (v := ?_) rfl (by kernel_rfl) (by kernel_rfl) (by kernel_rfl) (fun _ _ _ h => h) (Or.inl ⟨by rfl, ?_⟩) (by assumption) ?_
        rotate_left
        · (intro w hSw; (try dsimp only at hSw); go_simp; try with_reducible rfl)
        try simp only [Act.put, List.setIfInBounds_toArray, List.set_cons_zero, List.set_cons_succ]
        refine wpAnyH_take (i := 1) (oi := { dst := some 38, op := Op.move (Operand.tmp 7), type := 3, pos := "search.go:86", after := #[], guard := none }) (v := ?_) rfl (by kernel_rfl) (by kernel_rfl) (by kernel_rfl) (fun _ _ _ h => h) (Or.inl ⟨by rfl, ?_⟩) (by assumption) ?_
        rotate_left
        · (intro w hSw; (try dsimp only at hSw); go_simp; try with_reducible rfl)
        try simp only [Act.put, List.setIfInBounds_toArray, List.set_cons_zero, List.set_cons_succ]
        refine wpAnyH_take (i := 2) (oi := { dst := some 39, op := Op.move (Operand.tmp 6), type := 33, pos := "search.go:86", after := #[], guard := none }) (v := ?_) rfl (by kernel_rfl) (by kernel_rfl) (by kernel_rfl) (fun _ _ _ h => h) (Or.inl ⟨by rfl, ?_⟩) (by assumption) ?_
        rotate_left
        · (intro w hSw; (try dsimp only at hSw); go_simp; try with_reducible rfl)
        try simp only [Act.put, List.setIfInBounds_toArray, List.set_cons_zero, List.set_cons_succ]
        refine wpAnyH_take (i := 3) (oi := { dst := some 40, op := Op.move (Operand.tmp 7), type := 3, pos := "search.go:86", after := #[], guard := none }) (v := ?_) rfl (by kernel_rfl) (by kernel_rfl) (by kernel_rfl) (fun _ _ _ h => h) (Or.inl ⟨by rfl, ?_⟩) (by assumption) ?_
        rotate_left
        · (intro w hSw; (try dsimp only at hSw); go_simp; try with_reducible rfl)
        try simp only [Act.put, List.setIfInBounds_toArray, List.set_cons_zero, List.set_cons_succ]
        refine wpAnyH_take (i := 4) (oi := { dst := some 41, op := Op.indexAddr 33 (Operand.tmp 39) (Operand.tmp 40), type := 0, pos := "search.go:86", after := #[{ on := 2, ground := Ground.data }, { on := 3, ground := Ground.data }], guard := none }) (v := ?_) rfl (by kernel_rfl) (by kernel_rfl) (by kernel_rfl) (fun _ _ _ h => h) (Or.inl ⟨by rfl, ?_⟩) (by assumption) ?_
        rotate_left
        · (intro w hSw; (try dsimp only at hSw); go_simp; try with_reducible rfl)
        try simp only [Act.put, List.setIfInBounds_toArray, List.set_cons_zero, List.set_cons_succ]
        refine wpAnyH_take (i := 6) (oi := { dst := some 43, op := Op.move (Operand.tmp 6), type := 33, pos := "search.go:86", after := #[], guard := none }) (v := ?_) rfl (by kernel_rfl) (by kernel_rfl) (by kernel_rfl) (fun _ _ _ h => h) (Or.inl ⟨by rfl, ?_⟩) (by assumption) ?_
        rotate_left
        · (intro w hSw; (try dsimp only at hSw); go_simp; try with_reducible rfl)
        try simp only [Act.put, List.setIfInBounds_toArray, List.set_cons_zero, List.set_cons_succ]
        refine wpAnyH_take (i := 7) (oi := { dst := some 44, op := Op.fieldAddr 68 (Operand.tmp 9) 0, type := 0, pos := "search.go:86", after := #[], guard := none }) (v := ?_) rfl (by kernel_rfl) (by kernel_rfl) (by kernel_rfl) (fun _ _ _ h => h) (Or.inl ⟨by rfl, ?_⟩) (by assumption) ?_
        rotate_left
        · (intro w hSw; (try dsimp only at hSw); go_simp; try with_reducible rfl)
        try simp only [Act.put, List.setIfInBounds_toArray, List.set_cons_zero, List.set_cons_succ]
        refine wpAnyH_take (i := 8) (oi := { dst := some 45, op := Op.load 3 (Operand.tmp 44), type := 3, pos := "search.go:86", after := #[{ on := 7, ground := Ground.data }], guard := none }) (v := ?_) rfl (by kernel_rfl) (by kernel_rfl) (by kernel_rfl) (fun _ _ _ h => h) (Or.inl ⟨by rfl, ?_⟩) (by assumption) ?_
        rotate_left
        · (intro w hSw; (try dsimp only at hSw); go_simp; try with_reducible rfl)
        try simp only [Act.put, List.setIfInBounds_toArray, List.set_cons_zero, List.set_cons_succ]
        refine wpAnyH_take (i := 9) (oi := { dst := some 46, op := Op.indexAddr 33 (Operand.tmp 43) (Operand.tmp 45), type := 0, pos := "search.go:86", after := #[{ on := 6, ground := Ground.data }, { on := 8, ground := Ground.data }], guard := none }) (v := ?_) rfl (by kernel_rfl) (by kernel_rfl) (by kernel_rfl) (fun _ _ _ h => h) (Or.inl ⟨by rfl, ?_⟩) (by assumption) ?_
        rotate_left
        · (intro w hSw; (try dsimp only at hSw); go_simp; try with_reducible rfl)
        try simp only [Act.put, List.setIfInBounds_toArray, List.set_cons_zero, List.set_cons_succ]
        refine wpAnyH_take (i := 11) (oi := { dst := some 48, op := Op.fieldAddr 68 (Operand.tmp 9) 2, type := 0, pos := "search.go:86", after := #[], guard := none }) (v := ?_) rfl (by kernel_rfl) (by kernel_rfl) (by kernel_rfl) (fun _ _ _ h => h) (Or.inl ⟨by rfl, ?_⟩) (by assumption) ?_
        rotate_left
        · (intro w hSw; (try dsimp only at hSw); go_simp; try with_reducible rfl)
        try simp only [Act.put, List.setIfInBounds_toArray, List.set_cons_zero, List.set_cons_succ]
        refine wpAnyH_take (i := 12) (oi := { dst := some 49, op := Op.load 3 (Operand.tmp 48), type := 3, pos := "search.go:86", after := #[{ on := 11, ground := Ground.data }], guard := none }) (v := ?_) rfl (by kernel_rfl) (by kernel_rfl) (by kernel_rfl) (fun _ _ _ h => h) (Or.inl ⟨by rfl, ?_⟩) (by assumption) ?_
        rotate_left
        · (intro w hSw; (try dsimp only at hSw); go_simp; try with_reducible rfl)
        try simp only [Act.put, List.setIfInBounds_toArray, List.set_cons_zero, List.set_cons_succ]
        refine wpAnyH_ready (rs := [5, 10]) (by kernel_rfl) (by simp) (AllReadyH.cons rfl (fun K hK => ?_) (AllReadyH.cons rfl (fun K hK => ?_) AllReadyH.nil))
        · go_simp
          refine hK.out _ _ ⟨d0, d2⟩ (fun hHeld => ?_)
          clear hK K
          try simp only [Act.put, List.setIfInBounds_toArray, List.set_cons_zero, List.set_cons_succ]
          refine wpAnyH_ready (rs := [10]) (by kernel_rfl) (by simp) (AllReadyH.cons rfl (fun K hK => ?_) AllReadyH.nil)
          go_simp
          refine hK.out _ _ ⟨d0, d2⟩ (fun hHeld => ?_)
          clear hK K
          try simp only [Act.put, List.setIfInBounds_toArray, List.set_cons_zero, List.set_cons_succ]
          refine wpAnyH_take (i := 13) (oi := { dst := some 50, op := Op.binOp BinOp.add 3 (Operand.tmp 47) (Operand.tmp 49) 3, type := 3, pos := "search.go:86", after := #[{ on := 10, ground := Ground.data }, { on := 12, ground := Ground.data }], guard := none }) (v := ?_) rfl (by kernel_rfl) (by kernel_rfl) (by kernel_rfl) (fun _ _ _ h => h) (Or.inl ⟨by rfl, ?_⟩) (by assumption) ?_
          rotate_left
          · (intro w hSw; (try dsimp only at hSw); go_simp; try with_reducible rfl)
          try simp only [Act.put, List.setIfInBounds_toArray, List.set_cons_zero, List.set_cons_succ]
          refine wpAnyH_take (i := 14) (oi := { dst := some 51, op := Op.call { callee := Callee.builtin Builtin.max, args := #[Operand.tmp 42, Operand.tmp 50], argTypes := #[3, 3] }, type := 3, pos := "search.go:86", after := #[{ on := 5, ground := Ground.data }, { on := 13, ground := Ground.data }], guard := none }) (v := ?_) rfl (by kernel_rfl) (by kernel_rfl) (by kernel_rfl) (fun _ _ _ h => h) (Or.inl ⟨by rfl, ?_⟩) (by assumption) ?_
          rotate_left
          · (intro w hSw; (try dsimp only at hSw); go_simp; try with_reducible rfl)
          try simp only [Act.put, List.setIfInBounds_toArray, List.set_cons_zero, List.set_cons_succ]
          refine wpAnyH_take (i := 15) (oi := { dst := some 52, op := Op.indexAddr 33 (Operand.tmp 37) (Operand.tmp 38), type := 0, pos := "search.go:86", after := #[{ on := 0, ground := Ground.data }, { on := 1, ground := Ground.data }, { on := 0, ground := Ground.phase }, { on := 1, ground := Ground.phase }, { on := 2, ground := Ground.phase }, { on := 3, ground := Ground.phase }, { on := 4, ground := Ground.phase }, { on := 5, ground := Ground.phase }, { on := 6, ground := Ground.phase }, { on := 7, ground := Ground.phase }, { on := 8, ground := Ground.phase }, { on := 9, ground := Ground.phase }, { on := 10, ground := Ground.phase }, { on := 11, ground := Ground.phase }, { on := 12, ground := Ground.phase }, { on := 13, ground := Ground.phase }, { on := 14, ground := Ground.phase }], guard := none }) (v := ?_) rfl (by kernel_rfl) (by kernel_rfl) (by kernel_rfl) (fun _ _ _ h => h) (Or.inl ⟨by rfl, ?_⟩) (by assumption) ?_
          rotate_left
          · (intro w hSw; (try dsimp only at hSw); go_simp; try with_reducible rfl)
          try simp only [Act.put, List.setIfInBounds_toArray, List.set_cons_zero, List.set_cons_succ]
          refine wpAnyH_ready (rs := [16]) (by kernel_rfl) (by simp) (AllReadyH.cons rfl (fun K hK => ?_) AllReadyH.nil)
          go_simp
          refine hK.out _ _ ⟨(Hk.out _).1, (Hk.out _).2.1⟩ (fun hHeld => ?_)
          clear hK K
          refine wpAnyH_done (by kernel_rfl) ?_ _
          rw [show IntKind.i64.wrap (x + e.b) = x + e.b by rw [IntKind.wrap_i64]; omega]
          go_wp2_with fail
          go_roundw
          case rel =>
            exact ⟨j + 1, by omega, by go_num, _, Hm.out, Hko.out _, (Hk.out _).2.2⟩
          case measure => simp [intOf]; omega
        · go_simp
          refine hK.out _ _ ⟨d0, d2⟩ (fun hHeld => ?_)
          clear hK K
          try simp only [Act.put, List.setIfInBounds_toArray, List.set_cons_zero, List.set_cons_succ]
          refine wpAnyH_take (i := 13) (oi := { dst := some 50, op := Op.binOp BinOp.add 3 (Operand.tmp 47) (Operand.tmp 49) 3, type := 3, pos := "search.go:86", after := #[{ on := 10, ground := Ground.data }, { on := 12, ground := Ground.data }], guard := none }) (v := ?_) rfl (by kernel_rfl) (by kernel_rfl) (by kernel_rfl) (fun _ _ _ h => h) (Or.inl ⟨by rfl, ?_⟩) (by assumption) ?_
          rotate_left
          · (intro w hSw; (try dsimp only at hSw); go_simp; try with_reducible rfl)
          try simp only [Act.put, List.setIfInBounds_toArray, List.set_cons_zero, List.set_cons_succ]
          refine wpAnyH_ready (rs := [5]) (by kernel_rfl) (by simp) (AllReadyH.cons rfl (fun K hK => ?_) AllReadyH.nil)
          go_simp
          refine hK.out _ _ ⟨d0, d2⟩ (fun hHeld => ?_)
          clear hK K
          try simp only [Act.put, List.setIfInBounds_toArray, List.set_cons_zero, List.set_cons_succ]
          refine wpAnyH_take (i := 14) (oi := { dst := some 51, op := Op.call { callee := Callee.builtin Builtin.max, args := #[Operand.tmp 42, Operand.tmp 50], argTypes := #[3, 3] }, type := 3, pos := "search.go:86", after := #[{ on := 5, ground := Ground.data }, { on := 13, ground := Ground.data }], guard := none }) (v := ?_) rfl (by kernel_rfl) (by kernel_rfl) (by kernel_rfl) (fun _ _ _ h => h) (Or.inl ⟨by rfl, ?_⟩) (by assumption) ?_
          rotate_left
          · (intro w hSw; (try dsimp only at hSw); go_simp; try with_reducible rfl)
          try simp only [Act.put, List.setIfInBounds_toArray, List.set_cons_zero, List.set_cons_succ]
          refine wpAnyH_take (i := 15) (oi := { dst := some 52, op := Op.indexAddr 33 (Operand.tmp 37) (Operand.tmp 38), type := 0, pos := "search.go:86", after := #[{ on := 0, ground := Ground.data }, { on := 1, ground := Ground.data }, { on := 0, ground := Ground.phase }, { on := 1, ground := Ground.phase }, { on := 2, ground := Ground.phase }, { on := 3, ground := Ground.phase }, { on := 4, ground := Ground.phase }, { on := 5, ground := Ground.phase }, { on := 6, ground := Ground.phase }, { on := 7, ground := Ground.phase }, { on := 8, ground := Ground.phase }, { on := 9, ground := Ground.phase }, { on := 10, ground := Ground.phase }, { on := 11, ground := Ground.phase }, { on := 12, ground := Ground.phase }, { on := 13, ground := Ground.phase }, { on := 14, ground := Ground.phase }], guard := none }) (v := ?_) rfl (by kernel_rfl) (by kernel_rfl) (by kernel_rfl) (fun _ _ _ h => h) (Or.inl ⟨by rfl, ?_⟩) (by assumption) ?_
          rotate_left
          · (intro w hSw; (try dsimp only at hSw); go_simp; try with_reducible rfl)
          try simp only [Act.put, List.setIfInBounds_toArray, List.set_cons_zero, List.set_cons_succ]
          refine wpAnyH_ready (rs := [16]) (by kernel_rfl) (by simp) (AllReadyH.cons rfl (fun K hK => ?_) AllReadyH.nil)
          go_simp
          refine hK.out _ _ ⟨(Hk.out _).1, (Hk.out _).2.1⟩ (fun hHeld => ?_)
          clear hK K
          refine wpAnyH_done (by kernel_rfl) ?_ _
          rw [show IntKind.i64.wrap (x + e.b) = x + e.b by rw [IntKind.wrap_i64]; omega]
          go_wp2_with fail
          go_roundw
          case rel =>
            exact ⟨j + 1, by omega, by go_num, _, Hm.out, Hko.out _, (Hk.out _).2.2⟩
          case measure => simp [intOf]; omega
      · have hjm : j = m := by omega
        subst hjm
        have hjm2 : ¬ (j : Int) < (j : Int) := by omega
        have hl1 := Hc.out.lo
        have hl2 := Hc.out.hi
        have hgx : gx (xs0.set to0 z) = upd (gx xs0) to0 z := gx_set _ _ _ (by omega)
        have hsp := spread_any S OU ON N L V cV out on (some ⟨b0, off0, none⟩) j c more to0 (gx xs0) (fun v => gx xs0 v + (z - gx xs0 to0)) (z - gx xs0 to0) (xs0.set to0 z) wr ((HS.out V hVn).bb (BB.of hbr)) hG (own_lower hown (Nat.zero_le _)) ((hw.below hbr).more hszr)
          (fun b off e => by cases e; omega) (by omega) hokN hN hto (by rw [hgx]; congr 1; omega) (by omega) (fun _ => rfl) HL.out.sat HL.out.nn (fun v => by have := hub v; have := HL.out.nn to0; show gx xs0 v + (z - gx xs0 to0) ≤ 100000000; omega)
          (fun e he => ⟨(Hok.out e he).2.1, by have h9 := Hc.out.ask e (by rw [List.take_of_length_le (by have := hw.1; omega)]; exact he); omega⟩)
        rw [hgx] at hsp
        have Hsp := Lib.hid hsp
        clear hsp hgx
        go_wp2_with fail
        refine Hsp.out.mono ?_
        rintro e w3 ⟨r, xs, rfl, hxl, hox, hbb, hlow, hup, hres⟩
        go_wp2_with fail
        go_ret2
        refine ⟨r, V, cV, xs, rfl, hxl, hox, .inr hVn, ⟨hbb.os.trans hbr.os, hbb.tape.trans hbr.tape, hbb.output.trans hbr.output, Nat.le_trans hszr hbb.size, fun k hk => (hbb.block k (by omega) (by omega)).trans (hbr.block k hk)⟩, ?_⟩
        have hge : ∀ v, gx xs0 v ≤ upd (gx xs0) to0 z v := fun v => by
          by_cases hv : v = to0
          · rw [hv, upd_same]; exact hl1
          · rw [upd_ne _ _ hv]; exact Int.le_refl _
        rcases hres with ⟨rfl, hs, hh, hl⟩ | ⟨rfl, h⟩
        · refine .inl ⟨rfl, fun e he => ?_, fun v => ?_, fun hbb y hy hn => hl y (fun e he => hy e (.inl he)) fun v => ?_⟩
          · rcases he with he | he
            · exact hs e he
            · exact hh e he
          · exact Int.le_trans (HL.out.nn v) (Int.le_trans (hge v) (hlow v))
          · by_cases hv : v = to0
            · rw [hv, upd_same]; exact Hc.out.least hbb y (fun e he => hy e (.inl he)) hn fun e he => hy e (.inr he)
            · rw [upd_ne _ _ hv]; exact HL.out.least hbb y (fun e he => hy e (.inl he)) hn v
        · exact .inr ⟨rfl, h⟩
end Go.Proofs.Ytapajkfnpkekdaa

/-
  'with' of package graph, from numbers that hold but need not be the least, with a bound of what comes of them.
-/
namespace Go.Proofs.Ytapajkfnpkekdaa
open Go Go.RowKit

/-- a step for each node: how far above what they begin with numbers come that are no greater than they have to be -/
theorem above_bound {On : Edg → Prop} {x0 x : Nat → Int} {N : Nat} {B T : Int} (hB : 0 ≤ B) (hsat : Sat On x) (hle : ∀ v, x0 v ≤ x v) (hleast : ∀ y, Sat On y → (∀ v, x0 v ≤ y v) → ∀ v, x v ≤ y v) (hN : ∀ e, On e → e.f < N ∧ e.t < N ∧ e.b ≤ B) (hx0 : ∀ v, x0 v ≤ T) (hout : ∀ v, N ≤ v → x v ≤ T) : ∀ v, x v ≤ T + B * N := by
  intro v0
  refine Classical.byContradiction fun hv => ?_
  have hBN : 0 ≤ B * (N : Int) := Int.mul_nonneg hB (by omega)
  have hvN : v0 < N := Classical.byContradiction fun hn => by have := hout v0 (by omega); omega
  have hstep : ∀ t : Nat, B * ((t + 1 : Nat) : Int) = B * t + B := fun t => by rw [Int.natCast_add, Int.mul_add]; simp
  have hnn : ∀ t : Nat, 0 ≤ B * (t : Int) := fun t => Int.mul_nonneg hB (by omega)
  by_cases hw : ∃ j : Nat, j < N ∧ ∀ u, u < N → ¬ (T + B * (j : Int) < x u ∧ x u ≤ T + B * (j : Int) + B)
  · obtain ⟨j, hj, hno⟩ := hw
    have hjN : B * (j : Int) ≤ B * (N : Int) := Int.mul_le_mul_of_nonneg_left (by omega) hB
    have hy := hleast (fun u => if T + B * (j : Int) < x u then x u - 1 else x u) ?_ ?_ v0
    · rw [if_pos (by omega)] at hy
      omega
    · intro e he
      obtain ⟨h1, h2, h3⟩ := hN e he
      have h4 := hsat e he
      unfold hol at h4 ⊢
      have h5 := hno e.t h2
      dsimp only
      split <;> split <;> omega
    · intro u
      have h1 := hle u
      have h2 := hx0 u
      have h3 := hnn j
      split <;> omega
  · have hall : ∀ j : Nat, j < N → ∃ u, u < N ∧ T + B * (j : Int) < x u ∧ x u ≤ T + B * (j : Int) + B := fun j hj => Classical.byContradiction fun hn => hw ⟨j, hj, fun u hu hh => hn ⟨u, hu, hh⟩⟩
    have hcnt : ∀ t : Nat, t ≤ N → t ≤ (List.range N).countP fun u => decide (x u ≤ T + B * (t : Int)) := by
      intro t
      induction t with
      | zero => intro _; exact Nat.zero_le _
      | succ t ih =>
        intro ht
        obtain ⟨u, hu, h1, h2⟩ := hall t (by omega)
        have h3 := ih (by omega)
        have hs := hstep t
        have h4 := count_lt (p := fun u => decide (x u ≤ T + B * (t : Int))) (q := fun u => decide (x u ≤ T + B * ((t + 1 : Nat) : Int))) (l := List.range N) (fun a _ ha => by
          have ha := of_decide_eq_true ha
          exact decide_eq_true (by omega)) ⟨u, List.mem_range.2 hu, decide_eq_true (by omega), decide_eq_false (by omega)⟩
        omega
    have h1 := hcnt N (Nat.le_refl _)
    have h2 := count_lt (p := fun u => decide (x u ≤ T + B * (N : Int))) (q := fun _ => true) (l := List.range N) (fun _ _ _ => rfl) ⟨v0, List.mem_range.2 hvN, rfl, decide_eq_false (by omega)⟩
    rw [show (List.range N).countP (fun _ => true) = N from by simp] at h2
    omega
/-- what with says -/
def WithPost3 (b : Prop) (G : Int) (V0 N B : Nat) (On : Edg → Prop) (more : List Edg) (w : World) (e : Ending) (w' : World) : Prop :=
  ∃ (r : Int) (V1 c1 : Nat) (xs1 : List Int), e = .returned (.tuple #[.slice (some ⟨V1, 0, none⟩) N c1, .int .i64 r]) ∧ xs1.length = N ∧ w'.ownsRow 0 3 1 (.slice (some ⟨V1, 0, none⟩) N c1) N (int1 xs1) ∧ (V1 = V0 ∨ B ≤ V1) ∧ Below w.heap.size w w' ∧
    (r = 0 ∧ Lsw b (fun e => On e ∨ e ∈ more) (gx xs1) ∧ (∀ v, gx xs1 v ≤ G) ∨ r = 1 ∧ ∀ y, Sat On y → (∀ e ∈ more, hol y e) → False)

/-- the number of the node of more while its edges are gone through -/
structure Cur3 (b : Prop) (T β : Int) (On : Edg → Prop) (more : List Edg) (t0 : Nat) (old : Nat → Int) (j : Nat) (z : Int) : Prop where
  lo : old t0 ≤ z
  hi : z ≤ T + β * (j : Int)
  ask : ∀ e ∈ more.take j, old e.f + e.b ≤ z
  least : b → ∀ y, Sat On y → (∀ v, 0 ≤ y v) → (∀ e ∈ more, hol y e) → z ≤ y t0
theorem Cur3.next {b : Prop} {T β : Int} (hβ : 0 ≤ β) {On : Edg → Prop} {more : List Edg} {t0 : Nat} {old : Nat → Int} {j : Nat} {z : Int} (h : Cur3 b T β On more t0 old j z) {e : Edg} (he : more[j]? = some e) (ht : e.t = t0) (hb : e.b ≤ β) (ho : ∀ v, old v ≤ T) (hL : Lsw b On old) :
    Cur3 b T β On more t0 old (j + 1) (max z (upd old t0 z e.f + e.b)) := by
  have hmem := List.mem_of_getElem? he
  have hle : old e.f ≤ upd old t0 z e.f := by
    by_cases hf : e.f = t0
    · rw [hf, upd_same]; exact h.lo
    · rw [upd_ne _ _ hf]; exact Int.le_refl _
  have hjn : 0 ≤ β * (j : Int) := Int.mul_nonneg hβ (by omega)
  have hjs : β * ((j + 1 : Nat) : Int) = β * j + β := by rw [Int.natCast_add, Int.mul_add]; simp
  have hle2 : upd old t0 z e.f ≤ T + β * (j : Int) := by
    by_cases hf : e.f = t0
    · rw [hf, upd_same]; exact h.hi
    · rw [upd_ne _ _ hf]; have := ho e.f; omega
  have h1 := h.lo
  have h2 := h.hi
  refine ⟨by omega, by omega, fun e' he' => ?_, fun hbb y hy hn hm => ?_⟩
  · rw [take_snoc he] at he'
    rcases List.mem_append.1 he' with h3 | h3
    · have := h.ask e' h3; omega
    · rw [List.mem_singleton.1 h3]; omega
  · have h3 := h.least hbb y hy hn hm
    have h4 := hm e hmem
    unfold hol at h4
    rw [ht] at h4
    have h5 : upd old t0 z e.f ≤ y e.f := by
      by_cases hf : e.f = t0
      · rw [hf, upd_same]; exact h3
      · rw [upd_ne _ _ hf]; exact hL.least hbb y hy hn e.f
    omega

set_option maxRecDepth 100000 in
set_option maxHeartbeats 4000000 in
theorem with3_any (b : Prop) (T β : Int) (S OU ON N L V0 c0 : Nat) (out : Nat → List Edg) (on : Nat → Bool) (A : Option Addr) (m c : Nat) (more : List Edg) (to0 : Nat) (xs0 : List Int) (w : World)
    (hS : ∀ V, w.heap.size ≤ V → SR w S OU ON N L out on V) (hG : OkG N L out) (h3 : w.cell? ⟨S, 3, none⟩ = some (.slice (some ⟨V0, 0, none⟩) N c0)) (hV : w.ownsRow 0 3 1 (.slice (some ⟨V0, 0, none⟩) N c0) N (int1 xs0))
    (hw : EL w w.heap.size A m more) (hm0 : 0 < m) (hm : m ≤ 1000) (hok : ∀ e ∈ more, e.f < N ∧ e.t = to0 ∧ -2000 ≤ e.b ∧ e.b ≤ β) (hβ : 0 ≤ β ∧ β ≤ 2000) (hT : T ≤ 40000000) (hon : ∀ e, OnG out on e → e.b ≤ β) (hto : to0 < N) (hN : N ≤ 2000) (hL : Lsw b (OnG out on) (gx xs0)) (hub : ∀ v, gx xs0 v ≤ T) :
    Calls Try.prog 25 #[.pointer (some ⟨S, 0, none⟩), .slice A m c] w (WithPost3 b (T + β * m + β * N) V0 N w.heap.size (OnG out on) more w) := by
  have hx0l : xs0.length = N := by have := hV.1; rw [int1_len] at this; omega
  have hVl : V0 < w.heap.size := (own_lt hV).2
  have hSl : S < w.heap.size := (hS _ (Nat.le_refl _)).lt.1
  have hokN : Ok N more := fun e he => by obtain ⟨h1, h2, h4, h5⟩ := hok e he; exact ⟨h1, by rw [h2]; exact hto, by omega, by omega⟩
  have hsm : Sm xs0 := fun z hz => by
    obtain ⟨i, hi, rfl⟩ := List.mem_iff_getElem.1 hz
    have h1 := hub i
    have h2 := hL.nn i
    rw [gx_at (List.getElem?_eq_getElem hi)] at h1 h2
    omega
  have hak := asks_any A m c more V0 N c0 xs0 w hw (by omega) (own_il hV hVl) hokN hsm
  have HS := Lib.hid hS
  have HL := Lib.hid hL
  have Hok := Lib.hid hok
  clear hS hL hok
  go_enter Try.func25, Try.ntmps25
  cases hask : asksB (gx xs0) more
  · rw [hask] at hak
    have Hak := Lib.hid hak
    clear hak
    go_wp2_with fail
    refine Hak.out.mono ?_
    rintro e w1 ⟨rfl, hb1⟩
    have g3 := (hb1.cell (p := ⟨S, 3, none⟩) hSl).trans h3
    go_wp2_with fail
    go_ret2
    exact ⟨0, V0, c0, xs0, rfl, hx0l, own_below hV hb1, .inl rfl, hb1, .inl ⟨rfl, ⟨fun e he => by
      rcases he with he | he
      · exact HL.out.sat e he
      · exact asksB_false.1 hask e he, HL.out.nn, fun hbb y hy hn v => HL.out.least hbb y (fun e he => hy e (.inl he)) hn v⟩, fun v => by
        have h8 := hub v
        have h6 := Int.mul_nonneg hβ.1 (show (0 : Int) ≤ (m : Int) by omega)
        have h7 := Int.mul_nonneg hβ.1 (show (0 : Int) ≤ (N : Int) by omega)
        omega⟩⟩
  · rw [hask] at hak
    have Hak := Lib.hid hak
    clear hak
    go_wp2_with fail
    refine Hak.out.mono ?_
    rintro e w1 ⟨rfl, hb1⟩
    have g3 := (hb1.cell (p := ⟨S, 3, none⟩) hSl).trans h3
    have hsz1 := hb1.size
    go_wp2_with fail
    refine (clone_own V0 N c0 xs0 w1 (own_below hV hb1) (by omega) (by omega)).mono ?_
    rintro e w2 ⟨V, cV, rfl, hown2, hb2⟩
    have hbw : Below w.heap.size w w2 := hb1.trans (hb2.mono hsz1)
    have hVn : w.heap.size ≤ V := Nat.le_trans hsz1 (own_lt hown2).1
    have hown0 : w2.ownsRow w.heap.size 3 1 (.slice (some ⟨V, 0, none⟩) N cV) N (int1 xs0) := own_lower hown2 hsz1
    clear hown2 hb2 hb1 g3
    obtain ⟨b0, off0, e0, rfl, hb0, he0, _, f1, _, _⟩ := (hw.below hbw).at_ hm0
    have ht0 : e0.t = to0 := (Hok.out e0 (List.mem_of_getElem? he0)).2.1
    rw [ht0] at f1
    rw [Nat.zero_mul, Nat.add_zero] at f1
    clear he0 ht0
    go_wp2_with fail
    go_loopw [33] (fun i wr => ∃ j : Nat, j ≤ m ∧ i = .int .i64 j ∧ ∃ z : Int, Hid (Cur3 b T β (OnG out on) more to0 (gx xs0) j z) ∧ wr.ownsRow w.heap.size 3 1 (.slice (some ⟨V, 0, none⟩) N cV) N (int1 (xs0.set to0 z)) ∧ Below w.heap.size w wr) (fun i _ => m - (intOf i).toNat)
    case atStart =>
      refine ⟨0, Nat.zero_le _, rfl, gx xs0 to0, ⟨Int.le_refl _, by have := hub to0; simp; omega, fun e he => by simp at he, fun hbb y hy hn _ => HL.out.least hbb y hy hn to0⟩, ?_, hbw⟩
      rw [set_gx (by omega)]
      exact hown0
    case round =>
      obtain ⟨j, hj, rfl, z, Hc, hown, hbr⟩ := hrel
      have hszr := hbr.size
      by_cases hlt : j < m
      · obtain ⟨b, off, e, hbe, hbl, he, y0, y1, y2, y3⟩ := (hw.below hbr).at_ hlt
        cases hbe
        obtain ⟨q1, q2, q3, q4⟩ := Hok.out e (List.mem_of_getElem? he)
        have Hn := Lib.hid (Hc.out.next hβ.1 he q2 q4 hub HL.out)
        have Hzlo := Lib.hid Hc.out.lo
        have Hzhi := Lib.hid Hc.out.hi
        have hz0 : 0 ≤ z := by have := HL.out.nn to0; have := Hc.out.lo; omega
        have hz1 : z ≤ 50000000 := by
          have h8 := Hc.out.hi
          have h9 : β * (j : Int) ≤ 2000 * 1000 := Int.mul_le_mul hβ.2 (by omega) (by omega) (by omega)
          omega
        have hfb : 0 ≤ upd (gx xs0) to0 z e.f ∧ upd (gx xs0) to0 z e.f ≤ 50000000 := by
          by_cases hf : e.f = to0
          · rw [hf, upd_same]; omega
          · rw [upd_ne _ _ hf]; have := HL.out.nn e.f; have := hub e.f; omega
        have hgx : gx (xs0.set to0 z) = upd (gx xs0) to0 z := gx_set _ _ _ (by omega)
        have hXX : Below wr.heap.size wr (wr.alloc (.cells #[.int .i64 e.f, .int .i64 to0, .int .i64 e.b, .int .i64 e.k] 68)) := (Below.refl _ _).alloc (Nat.le_refl _) _
        have v1 := own_cell hown (gx_some (xs := xs0.set to0 z) (v := to0) (by rw [List.length_set]; omega))
        have v2 := own_cell hown (gx_some (xs := xs0.set to0 z) (v := e.f) (by rw [List.length_set]; omega))
        rw [hgx] at v1 v2
        rw [upd_same] at v1
        generalize upd (gx xs0) to0 z e.f = x at *
        have hVr : V < wr.heap.size := (own_lt hown).2
        have Hj := Lib.hid he
        have Hq2 := Lib.hid q2
        rw [q2] at y1
        clear he hgx q2
        go_wp2_with fail
        have hX0 := box4 (w := wr) (x0 := .int .i64 e.f) (x1 := .int .i64 to0) (x2 := .int .i64 e.b) (x3 := .int .i64 e.k) (t := 68) (Below.refl (wr.heap.size + 1) _)
        have hd : Below wr.heap.size wr (wr.alloc (.cells #[.int .i64 e.f, .int .i64 to0, .int .i64 e.b, .int .i64 e.k] 68)).drew := hXX.drew
        have hb3 : Below (wr.heap.size + 1) (wr.alloc (.cells #[.int .i64 e.f, .int .i64 to0, .int .i64 e.b, .int .i64 e.k] 68)) (wr.alloc (.cells #[.int .i64 e.f, .int .i64 to0, .int .i64 e.b, .int .i64 e.k] 68)).drew := (Below.refl _ _).drew
        obtain ⟨d0, d1, d2, d3, _⟩ := box4 hb3
        have g1 := v1.1
        have g2 := v2.1
        have g3 := v1.2
        have hk : ∀ v, ((wr.setCell ⟨V, to0, none⟩ v).alloc (.cells #[.int .i64 e.f, .int .i64 to0, .int .i64 e.b, .int .i64 e.k] 68)).drew.cell? ⟨wr.heap.size, 0, none⟩ = some (.int .i64 e.f) ∧ ((wr.setCell ⟨V, to0, none⟩ v).alloc (.cells #[.int .i64 e.f, .int .i64 to0, .int .i64 e.b, .int .i64 e.k] 68)).drew.cell? ⟨wr.heap.size, 2, none⟩ = some (.int .i64 e.b) ∧ Below w.heap.size w ((wr.setCell ⟨V, to0, none⟩ v).alloc (.cells #[.int .i64 e.f, .int .i64 to0, .int .i64 e.b, .int .i64 e.k] 68)).drew := fun v => by
          have h5 : (wr.setCell ⟨V, to0, none⟩ v).heap.size = wr.heap.size := World.size_setCell _ _ _
          have h6 : Below ((wr.setCell ⟨V, to0, none⟩ v).heap.size + 1) ((wr.setCell ⟨V, to0, none⟩ v).alloc (.cells #[.int .i64 e.f, .int .i64 to0, .int .i64 e.b, .int .i64 e.k] 68)) ((wr.setCell ⟨V, to0, none⟩ v).alloc (.cells #[.int .i64 e.f, .int .i64 to0, .int .i64 e.b, .int .i64 e.k] 68)).drew := (Below.refl _ _).drew
          obtain ⟨h7, _, h8, _⟩ := box4 h6
          rw [h5] at h7 h8
          exact ⟨h7, h8, ((hbr.setCell (p := ⟨V, to0, none⟩) hVn v).alloc (by rw [h5]; exact hszr) _).drew⟩
        have hko : ∀ u : Int, ((wr.setCell ⟨V, to0, none⟩ (.int .i64 u)).alloc (.cells #[.int .i64 e.f, .int .i64 to0, .int .i64 e.b, .int .i64 e.k] 68)).drew.ownsRow w.heap.size 3 1 (.slice (some ⟨V, 0, none⟩) N cV) N (int1 (xs0.set to0 u)) := fun u => by
          have h5 := own_below (own_store hown to0 u) (((Below.refl _ (wr.setCell ⟨V, to0, none⟩ (.int .i64 u))).alloc (Nat.le_refl _) (.cells #[.int .i64 e.f, .int .i64 to0, .int .i64 e.b, .int .i64 e.k] 68)).drew)
          rw [List.set_set] at h5
          exact h5
        have Hk := Lib.hid hk
        have Hko := Lib.hid hko
        have Hm : Hid (Cur3 b T β (OnG out on) more to0 (gx xs0) (j + 1) (if z < x + e.b then x + e.b else z)) := by
          have h5 := Hn.out
          rw [show max z (x + e.b) = if z < x + e.b then x + e.b else z by split <;> omega] at h5
          exact h5
        clear hk hko
        have i1 : (to0 : Int) < (N : Int) := by omega
        have i2 : (e.f : Int) < (N : Int) := by omega
        clear y0 y1 y2 y3 v1 v2 hX0 hb3 hXX
        refine wp_region_held_drew (S := fun w' => w'.cell? ⟨wr.heap.size, 0, none⟩ = some (.int .i64 e.f) ∧ w'.cell? ⟨wr.heap.size, 2, none⟩ = some (.int .i64 e.b)) (by kernel_rfl) ⟨d0, d2⟩ (fun hHeld => ?_)
        refine wpAnyH_take (i := 0) (oi := { dst := some 37, op := Op.move (Operand.tmp 6), type := 33, pos := "search.go:86", after := #[], guard := none }) (v := ?_) rfl (by kernel_rfl) (by kernel_rfl) (by kernel_rfl) (fun _ _ _ h => h) (Or.inl ⟨by rfl, ?_⟩) (by assumption) ?_
        rotate_left
        · (intro w hSw; (try dsimp only at hSw); go_simp; try with_reducible rfl)
        try simp only [Act.put, List.setIfInBounds_toArray, List.set_cons_zero, List.set_cons_succ]
        refine wpAnyH_take (i := 1) (oi := { dst := some 38, op := Op.move (Operand.tmp 7), type := 3, pos := "search.go:86", after := #[], guard := none }) (v := ?_) rfl (by kernel_rfl) (by kernel_rfl) (by kernel_rfl) (fun _ _ _ h => h) (Or.inl ⟨by rfl, ?_⟩) (by assumption) ?_
        rotate_left
        · (intro w hSw; (try dsimp only at hSw); go_simp; try with_reducible rfl)
        try simp only [Act.put, List.setIfInBounds_toArray, List.set_cons_zero, List.set_cons_succ]
        refine wpAnyH_take (i := 2) (oi := { dst := some 39, op := Op.move (Operand.tmp 6), type := 33, pos := "search.go:86", after := #[], guard := none }) (v := ?_) rfl (by kernel_rfl) (by kernel_rfl) (by kernel_rfl) (fun _ _ _ h => h) (Or.inl ⟨by rfl, ?_⟩) (by assumption) ?_
        rotate_left
        · (intro w hSw; (try dsimp only at hSw); go_simp; try with_reducible rfl)
        try simp only [Act.put, List.setIfInBounds_toArray, List.set_cons_zero, List.set_cons_succ]
        refine wpAnyH_take (i := 3) (oi := { dst := some 40, op := Op.move (Operand.tmp 7), type := 3, pos := "search.go:86", after := #[], guard := none }) (v := ?_) rfl (by kernel_rfl) (by kernel_rfl) (by kernel_rfl) (fun _ _ _ h => h) (Or.inl ⟨by rfl, ?_⟩) (by assumption) ?_
        rotate_left
        · (intro w hSw; (try dsimp only at hSw); go_simp; try with_reducible rfl)
        try simp only [Act.put, List.setIfInBounds_toArray, List.set_cons_zero, List.set_cons_succ]
        refine wpAnyH_take (i := 4) (oi := { dst := some 41, op := Op.indexAddr 33 (Operand.tmp 39) (Operand.tmp 40), type := 0, pos := "search.go:86", after := #[{ on := 2, ground := Ground.data }, { on := 3, ground := Ground.data }], guard := none }) (v := ?_) rfl (by kernel_rfl) (by kernel_rfl) (by kernel_rfl) (fun _ _ _ h => h) (Or.inl ⟨by rfl, ?_⟩) (by assumption) ?_
        rotate_left
        · (intro w hSw; (try dsimp only at hSw); go_simp; try with_reducible rfl)
        try simp only [Act.put, List.setIfInBounds_toArray, List.set_cons_zero, List.set_cons_succ]
        refine wpAnyH_take (i := 6) (oi := { dst := some 43, op := Op.move (Operand.tmp 6), type := 33, pos := "search.go:86", after := #[], guard := none }) (v := ?_) rfl (by kernel_rfl) (by kernel_rfl) (by kernel_rfl) (fun _ _ _ h => h) (Or.inl ⟨by rfl, ?_⟩) (by assumption) ?_
        rotate_left
        · (intro w hSw; (try dsimp only at hSw); go_simp; try with_reducible rfl)
        try simp only [Act.put, List.setIfInBounds_toArray, List.set_cons_zero, List.set_cons_succ]
        refine wpAnyH_take (i := 7) (oi := { dst := some 44, op := Op.fieldAddr 68 (Operand.tmp 9) 0, type := 0, pos := "search.go:86", after := #[], guard := none }) (v := ?_) rfl (by kernel_rfl) (by kernel_rfl) (by kernel_rfl) (fun _ _ _ h => h) (Or.inl ⟨by rfl, ?_⟩) (by assumption) ?_
        rotate_left
        · (intro w hSw; (try dsimp only at hSw); go_simp; try with_reducible rfl)
        try simp only [Act.put, List.setIfInBounds_toArray, List.set_cons_zero, List.set_cons_succ]
        refine wpAnyH_take (i := 8) (oi := { dst := some 45, op := Op.load 3 (Operand.tmp 44), type := 3, pos := "search.go:86", after := #[{ on := 7, ground := Ground.data }], guard := none }) (v := ?_) rfl (by kernel_rfl) (by kernel_rfl) (by kernel_rfl) (fun _ _ _ h => h) (Or.inl ⟨by rfl, ?_⟩) (by assumption) ?_
        rotate_left
        · (intro w hSw; (try dsimp only at hSw); go_simp; try with_reducible rfl)
        try simp only [Act.put, List.setIfInBounds_toArray, List.set_cons_zero, List.set_cons_succ]
        refine wpAnyH_take (i := 9) (oi := { dst := some 46, op := Op.indexAddr 33 (Operand.tmp 43) (Operand.tmp 45), type := 0, pos := "search.go:86", after := #[{ on := 6, ground := Ground.data }, { on := 8, ground := Ground.data }], guard := none }) (v := ?_) rfl (by kernel_rfl) (by kernel_rfl) (by kernel_rfl) (fun _ _ _ h => h) (Or.inl ⟨by rfl, ?_⟩) (by assumption) ?_
        rotate_left
        · (intro w hSw; (try dsimp only at hSw); go_simp; try with_reducible rfl)
        try simp only [Act.put, List.setIfInBounds_toArray, List.set_cons_zero, List.set_cons_succ]
        refine wpAnyH_take (i := 11) (oi := { dst := some 48, op := Op.fieldAddr 68 (Operand.tmp 9) 2, type := 0, pos := "search.go:86", after := #[], guard := none }) (v := ?_) rfl (by kernel_rfl) (by kernel_rfl) (by kernel_rfl) (fun _ _ _ h => h) (Or.inl ⟨by rfl, ?_⟩) (by assumption) ?_
        rotate_left
        · (intro w hSw; (try dsimp only at hSw); go_simp; try with_reducible rfl)
        try simp only [Act.put, List.setIfInBounds_toArray, List.set_cons_zero, List.set_cons_succ]
        refine wpAnyH_take (i := 12) (oi := { dst := some 49, op := Op.load 3 (Operand.tmp 48), type := 3, pos := "search.go:86", after := #[{ on := 11, ground := Ground.data }], guard := none }) (v := ?_) rfl (by kernel_rfl) (by kernel_rfl) (by kernel_rfl) (fun _ _ _ h => h) (Or.inl ⟨by rfl, ?_⟩) (by assumption) ?_
        rotate_left
        · (intro w hSw; (try dsimp only at hSw); go_simp; try with_reducible rfl)
        try simp only [Act.put, List.setIfInBounds_toArray, List.set_cons_zero, List.set_cons_succ]
        refine wpAnyH_ready (rs := [5, 10]) (by kernel_rfl) (by simp) (AllReadyH.cons rfl (fun K hK => ?_) (AllReadyH.cons rfl (fun K hK => ?_) AllReadyH.nil))
        · go_simp
          refine hK.out _ _ ⟨d0, d2⟩ (fun hHeld => ?_)
          clear hK K
          try simp only [Act.put, List.setIfInBounds_toArray, List.set_cons_zero, List.set_cons_succ]
          refine wpAnyH_ready (rs := [10]) (by kernel_rfl) (by simp) (AllReadyH.cons rfl (fun K hK => ?_) AllReadyH.nil)
          go_simp
          refine hK.out _ _ ⟨d0, d2⟩ (fun hHeld => ?_)
          clear hK K
          try simp only [Act.put, List.setIfInBounds_toArray, List.set_cons_zero, List.set_cons_succ]
          refine wpAnyH_take (i := 13) (oi := { dst := some 50, op := Op.binOp BinOp.add 3 (Operand.tmp 47) (Operand.tmp 49) 3, type := 3, pos := "search.go:86", after := #[{ on := 10, ground := Ground.data }, { on := 12, ground := Ground.data }], guard := none }) (v := ?_) rfl (by kernel_rfl) (by kernel_rfl) (by kernel_rfl) (fun _ _ _ h => h) (Or.inl ⟨by rfl, ?_⟩) (by assumption) ?_
          rotate_left
          · (intro w hSw; (try dsimp only at hSw); go_simp; try with_reducible rfl)
          try simp only [Act.put, List.setIfInBounds_toArray, List.set_cons_zero, List.set_cons_succ]
          refine wpAnyH_take (i := 14) (oi := { dst := some 51, op := Op.call { callee := Callee.builtin Builtin.max, args := #[Operand.tmp 42, Operand.tmp 50], argTypes := #[3, 3] }, type := 3, pos := "search.go:86", after := #[{ on := 5, ground := Ground.data }, { on := 13, ground := Ground.data }], guard := none }) (v := ?_) rfl (by kernel_rfl) (by kernel_rfl) (by kernel_rfl) (fun _ _ _ h => h) (Or.inl ⟨by rfl, ?_⟩) (by assumption) ?_
          rotate_left
          · (intro w hSw; (try dsimp only at hSw); go_simp; try with_reducible rfl)
          try simp only [Act.put, List.setIfInBounds_toArray, List.set_cons_zero, List.set_cons_succ]
          refine wpAnyH_take (i := 15) (oi := { dst := some 52, op := Op.indexAddr 33 (Operand.tmp 37) (Operand.tmp 38), type := 0, pos := "search.go:86", after := #[{ on := 0, ground := Ground.data }, { on := 1, ground := Ground.data }, { on := 0, ground := Ground.phase }, { on := 1, ground := Ground.phase }, { on := 2, ground := Ground.phase }, { on := 3, ground := Ground.phase }, { on := 4, ground := Ground.phase }, { on := 5, ground := Ground.phase }, { on := 6, ground := Ground.phase }, { on := 7, ground := Ground.phase }, { on := 8, ground := Ground.phase }, { on := 9, ground := Ground.phase }, { on := 10, ground := Ground.phase }, { on := 11, ground := Ground.phase }, { on := 12, ground := Ground.phase }, { on := 13, ground := Ground.phase }, { on := 14, ground := Ground.phase }], guard := none }) (v := ?_) rfl (by kernel_rfl) (by kernel_rfl) (by kernel_rfl) (fun _ _ _ h => h) (Or.inl ⟨by rfl, ?_⟩) (by assumption) ?_
          rotate_left
          · (intro w hSw; (try dsimp only at hSw); go_simp; try with_reducible rfl)
          try simp only [Act.put, List.setIfInBounds_toArray, List.set_cons_zero, List.set_cons_succ]
          refine wpAnyH_ready (rs := [16]) (by kernel_rfl) (by simp) (AllReadyH.cons rfl (fun K hK => ?_) AllReadyH.nil)
          go_simp
          refine hK.out _ _ ⟨(Hk.out _).1, (Hk.out _).2.1⟩ (fun hHeld => ?_)
          clear hK K
          refine wpAnyH_done (by kernel_rfl) ?_ _
          rw [show IntKind.i64.wrap (x + e.b) = x + e.b by rw [IntKind.wrap_i64]; omega]
          go_wp2_with fail
          go_roundw
          case rel =>
            exact ⟨j + 1, by omega, by go_num, _, Hm.out, Hko.out _, (Hk.out _).2.2⟩
          case measure => simp [intOf]; omega
        · go_simp
          refine hK.out _ _ ⟨d0, d2⟩ (fun hHeld => ?_)
          clear hK K
          try simp only [Act.put, List.setIfInBounds_toArray, List.set_cons_zero, List.set_cons_succ]
          refine wpAnyH_take (i := 13) (oi := { dst := some 50, op := Op.binOp BinOp.add 3 (Operand.tmp 47) (Operand.tmp 49) 3, type := 3, pos := "search.go:86", after := #[{ on := 10, ground := Ground.data }, { on := 12, ground := Ground.data }], guard := none }) (v := ?_) rfl (by kernel_rfl) (by kernel_rfl) (by kernel_rfl) (fun _ _ _ h => h) (Or.inl ⟨by rfl, ?_⟩) (by assumption) ?_
          rotate_left
          · (intro w hSw; (try dsimp only at hSw); go_simp; try with_reducible rfl)
          try simp only [Act.put, List.setIfInBounds_toArray, List.set_cons_zero, List.set_cons_succ]
          refine wpAnyH_ready (rs := [5]) (by kernel_rfl) (by simp) (AllReadyH.cons rfl (fun K hK => ?_) AllReadyH.nil)
          go_simp
          refine hK.out _ _ ⟨d0, d2⟩ (fun hHeld => ?_)
          clear hK K
          try simp only [Act.put, List.setIfInBounds_toArray, List.set_cons_zero, List.set_cons_succ]
          refine wpAnyH_take (i := 14) (oi := { dst := some 51, op := Op.call { callee := Callee.builtin Builtin.max, args := #[Operand.tmp 42, Operand.tmp 50], argTypes := #[3, 3] }, type := 3, pos := "search.go:86", after := #[{ on := 5, ground := Ground.data }, { on := 13, ground := Ground.data }], guard := none }) (v := ?_) rfl (by kernel_rfl) (by kernel_rfl) (by kernel_rfl) (fun _ _ _ h => h) (Or.inl ⟨by rfl, ?_⟩) (by assumption) ?_
          rotate_left
          · (intro w hSw; (try dsimp only at hSw); go_simp; try with_reducible rfl)
          try simp only [Act.put, List.setIfInBounds_toArray, List.set_cons_zero, List.set_cons_succ]
          refine wpAnyH_take (i := 15) (oi := { dst := some 52, op := Op.indexAddr 33 (Operand.tmp 37) (Operand.tmp 38), type := 0, pos := "search.go:86", after := #[{ on := 0, ground := Ground.data }, { on := 1, ground := Ground.data }, { on := 0, ground := Ground.phase }, { on := 1, ground := Ground.phase }, { on := 2, ground := Ground.phase }, { on := 3, ground := Ground.phase }, { on := 4, ground := Ground.phase }, { on := 5, ground := Ground.phase }, { on := 6, ground := Ground.phase }, { on := 7, ground := Ground.phase }, { on := 8, ground := Ground.phase }, { on := 9, ground := Ground.phase }, { on := 10, ground := Ground.phase }, { on := 11, ground := Ground.phase }, { on := 12, ground := Ground.phase }, { on := 13, ground := Ground.phase }, { on := 14, ground := Ground.phase }], guard := none }) (v := ?_) rfl (by kernel_rfl) (by kernel_rfl) (by kernel_rfl) (fun _ _ _ h => h) (Or.inl ⟨by rfl, ?_⟩) (by assumption) ?_
          rotate_left
          · (intro w hSw; (try dsimp only at hSw); go_simp; try with_reducible rfl)
          try simp only [Act.put, List.setIfInBounds_toArray, List.set_cons_zero, List.set_cons_succ]
          refine wpAnyH_ready (rs := [16]) (by kernel_rfl) (by simp) (AllReadyH.cons rfl (fun K hK => ?_) AllReadyH.nil)
          go_simp
          refine hK.out _ _ ⟨(Hk.out _).1, (Hk.out _).2.1⟩ (fun hHeld => ?_)
          clear hK K
          refine wpAnyH_done (by kernel_rfl) ?_ _
          rw [show IntKind.i64.wrap (x + e.b) = x + e.b by rw [IntKind.wrap_i64]; omega]
          go_wp2_with fail
          go_roundw
          case rel =>
            exact ⟨j + 1, by omega, by go_num, _, Hm.out, Hko.out _, (Hk.out _).2.2⟩
          case measure => simp [intOf]; omega
      · have hjm : j = m := by omega
        subst hjm
        have hjm2 : ¬ (j : Int) < (j : Int) := by omega
        have hl1 := Hc.out.lo
        have hl2 := Hc.out.hi
        have hl3 : β * (j : Int) ≤ 2000 * 1000 := Int.mul_le_mul hβ.2 (by omega) (by omega) (by omega)
        have hl4 : 0 ≤ β * (j : Int) := Int.mul_nonneg hβ.1 (by omega)
        have hgx : gx (xs0.set to0 z) = upd (gx xs0) to0 z := gx_set _ _ _ (by omega)
        have hsp := spread_any S OU ON N L V cV out on (some ⟨b0, off0, none⟩) j c more to0 (gx xs0) (fun v => gx xs0 v + (z - gx xs0 to0)) (z - gx xs0 to0) (xs0.set to0 z) wr ((HS.out V hVn).bb (BB.of hbr)) hG (own_lower hown (Nat.zero_le _)) ((hw.below hbr).more hszr)
          (fun b off e => by cases e; omega) (by omega) hokN hN hto (by rw [hgx]; congr 1; omega) (by omega) (fun _ => rfl) HL.out.sat HL.out.nn (fun v => by have := hub v; have := HL.out.nn to0; show gx xs0 v + (z - gx xs0 to0) ≤ 100000000; omega)
          (fun e he => ⟨(Hok.out e he).2.1, by have h9 := Hc.out.ask e (by rw [List.take_of_length_le (by have := hw.1; omega)]; exact he); omega⟩)
        rw [hgx] at hsp
        have Hsp := Lib.hid hsp
        clear hsp hgx
        go_wp2_with fail
        refine Hsp.out.mono ?_
        rintro e w3 ⟨r, xs, rfl, hxl, hox, hbb, hlow, hup, hres⟩
        go_wp2_with fail
        go_ret2
        refine ⟨r, V, cV, xs, rfl, hxl, hox, .inr hVn, ⟨hbb.os.trans hbr.os, hbb.tape.trans hbr.tape, hbb.output.trans hbr.output, Nat.le_trans hszr hbb.size, fun k hk => (hbb.block k (by omega) (by omega)).trans (hbr.block k hk)⟩, ?_⟩
        have hge : ∀ v, gx xs0 v ≤ upd (gx xs0) to0 z v := fun v => by
          by_cases hv : v = to0
          · rw [hv, upd_same]; exact hl1
          · rw [upd_ne _ _ hv]; exact Int.le_refl _
        have hbnd : ∀ xs : List Int, Sat (OnG out on) (gx xs) → (∀ v, upd (gx xs0) to0 z v ≤ gx xs v) → (∀ y, Sat (OnG out on) y → (∀ v, upd (gx xs0) to0 z v ≤ y v) → ∀ v, gx xs v ≤ y v) → xs.length = N → ∀ v, gx xs v ≤ T + β * (j : Int) + β * (N : Int) := fun xs h1 h2 h3 h4 => above_bound hβ.1 h1 h2 h3 (fun e he => ⟨Classical.byContradiction fun h5 => (by
            have h6 := he.1
            rw [hG.hi e.f (by omega)] at h6
            cases h6), (hG.ok e.f e he.1).2.1, hon e he⟩) (fun v => by
            by_cases hv : v = to0
            · rw [hv, upd_same]; exact hl2
            · rw [upd_ne _ _ hv]; have := hub v; omega) (fun v hv => by
            have h0 : gx xs v = 0 := by unfold gx; rw [List.getD_eq_getElem?_getD, List.getElem?_eq_none (by omega)]; rfl
            have := HL.out.nn to0
            have := hub to0
            omega)
        rcases hres with ⟨rfl, hs, hh, hl⟩ | ⟨rfl, h⟩
        · refine .inl ⟨rfl, ⟨fun e he => ?_, fun v => ?_, fun hbb y hy hn => hl y (fun e he => hy e (.inl he)) fun v => ?_⟩, hbnd xs hs hlow hl hxl⟩
          · rcases he with he | he
            · exact hs e he
            · exact hh e he
          · exact Int.le_trans (HL.out.nn v) (Int.le_trans (hge v) (hlow v))
          · by_cases hv : v = to0
            · rw [hv, upd_same]; exact Hc.out.least hbb y (fun e he => hy e (.inl he)) hn fun e he => hy e (.inr he)
            · rw [upd_ne _ _ hv]; exact HL.out.least hbb y (fun e he => hy e (.inl he)) hn v
        · exact .inr ⟨rfl, h⟩
end Go.Proofs.Ytapajkfnpkekdaa

/-
  'add' of package graph, from numbers that hold but need not be the least, with a bound of what comes of them.
-/
namespace Go.Proofs.Ytapajkfnpkekdaa
open Go Go.RowKit

/-- what add says then -/
def AddPost3 (G : Int) (B0 S OF OU ON N K V0 : Nat) (fo out : Nat → List Edg) (on : Nat → Bool) (xs : List Int) (k : Nat) (w : World) (e : Ending) (w' : World) : Prop :=
  ∃ r : Int, e = .returned (.int .i64 r) ∧ Below B0 w w' ∧ (∀ b, b < w.heap.size → b ≠ S → b ≠ ON → w'.heap[b]? = w.heap[b]?) ∧ (r = 0 ∧ SE w' S OF OU ON N K fo out (fun i => if i = k then true else on i) ∧ (∃ V c ys, VS w' S ON N V c ys ∧ (V = V0 ∨ w.heap.size ≤ V) ∧ Sat (OnG out (fun i => if i = k then true else on i)) (gx ys) ∧ (∀ v, 0 ≤ gx ys v) ∧ ∀ v, gx ys v ≤ G) ∨
    r = 1 ∧ SE w' S OF OU ON N K fo out on ∧ (∃ c, VS w' S ON N V0 c xs) ∧ ∀ y, Sat (OnG out (fun i => if i = k then true else on i)) y → False)

set_option maxRecDepth 100000 in
set_option maxHeartbeats 2000000 in
theorem add3_any (T β : Int) (mm : Nat) (B0 S OF OU ON N K V c : Nat) (fo out : Nat → List Edg) (on : Nat → Bool) (xs : List Int) (k : Nat) (w : World) (hE : SE w S OF OU ON N K fo out on) (hV : VS w S ON N V c xs) (hG : GE N K fo out) (hk : k < K) (hN : N ≤ 2000)
    (hL : Sat (OnG out on) (gx xs)) (hnn : ∀ v, 0 ≤ gx xs v) (hub : ∀ v, gx xs v ≤ T) (hT : T ≤ 40000000) (hβ : 0 ≤ β ∧ β ≤ 2000) (hβ2 : ∀ v, ∀ e ∈ out v, e.b ≤ β) (hmm : (fo k).length ≤ mm) (hB : B0 ≤ S ∧ B0 ≤ ON ∧ B0 ≤ w.heap.size) :
    Calls Try.prog 18 #[.pointer (some ⟨S, 0, none⟩), .int .i64 k] w (AddPost3 (T + β * mm + β * N) B0 S OF OU ON N K V fo out on xs k w) := by
  obtain ⟨B1, B2, B3⟩ := hB
  obtain ⟨A, m, cf, hc, hel, hm, hblk⟩ := hE.f k hk
  obtain ⟨t, ht, hto⟩ := hG.one k hk
  have hon : ∀ e, OnG out (fun i => if i = k then true else on i) e → OnG out on e ∨ e ∈ fo k := fun e he => by
    by_cases h1 : e.k = k
    · exact .inr ((hG.of k hk e).2 ⟨he.1, h1⟩)
    · have h2 := he.2; dsimp only at h2; rw [if_neg h1] at h2; exact .inl ⟨he.1, h2⟩
  have hon2 : ∀ e, OnG out on e ∨ e ∈ fo k → OnG out (fun i => if i = k then true else on i) e := fun e he => by
    rcases he with he | he
    · refine ⟨he.1, ?_⟩
      by_cases h1 : e.k = k
      · simp [h1]
      · simp [h1, he.2]
    · have h1 := (hG.of k hk e).1 he
      exact ⟨h1.1, by simp [h1.2]⟩
  have hlk : (fo k).length = m := hel.1
  have hmb : β * (m : Int) ≤ β * (mm : Int) := Int.mul_le_mul_of_nonneg_left (by omega) hβ.1
  have hwi := with3_any False T β S OU ON N (K + 1) V c out on A m cf (fo k) t xs w hE.sr hG.ok hV.s3 hV.own hel hm.1 hm.2 (fun e he => by
    have h1 := (hG.of k hk e).1 he
    have h2 := hG.ok.ok e.f e h1.1
    refine ⟨Classical.byContradiction fun h3 => ?_, hto e he, by have := h2.2.2.2.1; omega, hβ2 _ e h1.1⟩
    have h4 := hG.ok.hi e.f (by omega)
    have h5 := h1.1
    rw [h4] at h5
    cases h5) hβ hT (fun e he => hβ2 _ e he.1) ht hN ⟨hL, hnn, fun h => h.elim⟩ hub
  have Hwi := Lib.hid hwi
  have Hon := Lib.hid hon
  have Hon2 := Lib.hid hon2
  have s0 := hE.s0
  have hki : (k : Int) < (K : Int) := by omega
  have HE := Lib.hid hE
  have HV := Lib.hid hV
  clear hwi hon hon2 hE hV hel hto
  go_enter Try.func18, Try.ntmps18
  go_wp2_with fail
  refine Hwi.out.mono ?_
  rintro e w1 ⟨r, V1, c1, xs1, rfl, hl1, ho1, hv1, hb1, hr⟩
  have hE1 := HE.out.below hb1
  have hV1 := HV.out.below HE.out.lt.1 hb1
  obtain ⟨l1, l2, l3, l4⟩ := HE.out.lt
  have hVne : V1 ≠ S ∧ V1 ≠ ON := by
    rcases hv1 with rfl | h
    · exact HV.out.ne
    · omega
  rcases hr with ⟨rfl, hL1, hG1⟩ | ⟨rfl, hno⟩
  · have t2 := hE1.s2
    have t3 := hV1.s3
    have t4 := hE1.k k (by omega)
    have t5 := hE1.fr.1
    have t6 := hE1.fr.2 k
    have hki2 : (k : Int) < (K : Int) + 1 := by omega
    have t7 := (World.cell?_setCell_other w1 ⟨S, 3, none⟩ ⟨ON, k, none⟩ (.slice (some ⟨V1, 0, none⟩) N c1) (fun e => hE1.ne.2.2.1 (by injection e))).trans t4
    have hE2 := (hE1.put (.slice (some ⟨V1, 0, none⟩) N c1)).turn (k := k) (by omega)
    have hs3 := World.cell?_setCell_same w1 ⟨S, 3, none⟩ (.slice (some ⟨V1, 0, none⟩) N c1) t3
    have hV2 : VS ((w1.setCell ⟨S, 3, none⟩ (.slice (some ⟨V1, 0, none⟩) N c1)).setCell ⟨ON, k, none⟩ (.bool true)) S ON N V1 c1 xs1 :=
      ⟨(World.cell?_setCell_other _ ⟨ON, k, none⟩ ⟨S, 3, none⟩ _ (fun e => hE1.ne.2.2.1 (by injection e with e1; exact e1.symm))).trans hs3, own_other (own_other ho1 (by simp [Value.ownBlock]; omega) _ _) (by simp [Value.ownBlock]; omega) _ _, hl1, hVne⟩
    have HE2 := Lib.hid hE2
    have HV2 := Lib.hid hV2
    have hbel : Below B0 w ((w1.setCell ⟨S, 3, none⟩ (.slice (some ⟨V1, 0, none⟩) N c1)).setCell ⟨ON, k, none⟩ (.bool true)) := ((hb1.mono B3).setCell B1 _).setCell B2 _
    have Hbel := Lib.hid hbel
    clear hE2 hV2 hbel hs3 t4
    go_wp2_with fail
    go_ret
    exact ⟨0, rfl, Hbel.out, fun b hb h1 h2 => (Below.heap_setCell _ ⟨ON, k, none⟩ _ b h2).trans ((Below.heap_setCell _ ⟨S, 3, none⟩ _ b h1).trans (hb1.block b hb)), .inl ⟨rfl, HE2.out, V1, c1, xs1, HV2.out, hv1, fun e he => hL1.sat e (Hon.out e he), hL1.nn, fun v => by have := hG1 v; omega⟩⟩
  · go_wp2_with fail
    go_ret
    exact ⟨1, rfl, hb1.mono B3, fun b hb _ _ => hb1.block b hb, .inr ⟨rfl, hE1, ⟨c, hV1⟩, fun y hy => hno y (fun e he => hy e (Hon2.out e (.inl he))) fun e he => hy e (Hon2.out e (.inr he))⟩⟩

end Go.Proofs.Ytapajkfnpkekdaa
