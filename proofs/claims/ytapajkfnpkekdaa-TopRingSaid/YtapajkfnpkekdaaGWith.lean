/-
  'with' of package graph: further edges that end in one node.
-/
import Derived.Test.YtapajkfnpkekdaaGSpr
import Derived.Lib.SliceRun
namespace Go.Proofs.Ytapajkfnpkekdaa
open Go Go.RowKit

theorem own_lower {w : World} {base base' : Nat} {e : TypeId} {size n : Nat} {v : Value} {xs : List Value} (h : w.ownsRow base e size v n xs) (hb : base' ≤ base) : w.ownsRow base' e size v n xs :=
  ⟨h.1, h.2.imp id fun ⟨g, cap, cur, e1, e2, e3, e4⟩ => ⟨g, cap, cur, e1, Nat.le_trans hb e2, e3, e4⟩⟩
theorem own_some {w : World} {base : Nat} {e : TypeId} {v : Value} {n size : Nat} {xs : List Value} (h : w.ownsRow base e size v n xs) (hn : 0 < n) : ∃ g cap, v = .slice (some ⟨g, 0, none⟩) n cap := by
  rcases h.2 with ⟨_, h0⟩ | ⟨g, cap, cur, e1, _⟩
  · omega
  · exact ⟨g, cap, e1⟩

theorem clone_own (g N c : Nat) (xs : List Int) (w : World) (hV : w.ownsRow 0 3 1 (.slice (some ⟨g, 0, none⟩) N c) N (int1 xs)) (h0 : 0 < N) (hN : N ≤ 1000000) :
    Calls Try.prog 30 #[.slice (some ⟨g, 0, none⟩) N c] w fun e w' => ∃ q cq, e = .returned (.slice (some ⟨q, 0, none⟩) N cq) ∧ w'.ownsRow w.heap.size 3 1 (.slice (some ⟨q, 0, none⟩) N cq) N (int1 xs) ∧ Below w.heap.size w w' := by
  obtain ⟨i0, hi, hz0, hz1, hz2⟩ := info_parts infoI
  have hl : xs.length = N := by have := hV.1; rw [int1_len] at this; omega
  have hone : ∀ u ∈ int1 xs, u.oneCell' = true := fun u hu => by
    obtain ⟨z, _, rfl⟩ := List.mem_map.1 hu
    rfl
  have hcl : ∀ j u, (int1 xs)[j]? = some u → w.cell? ⟨g, j, none⟩ = some u := fun j u hj => by
    have hjl : j < xs.length := by have := (List.getElem?_eq_some_iff.1 hj).1; rwa [int1_len] at this
    have hq := int1_at (List.getElem?_eq_getElem hjl)
    rw [hq] at hj
    obtain rfl := Option.some.inj hj
    exact (own_cell hV (List.getElem?_eq_getElem hjl)).1
  have Hcl := Lib.hid hcl
  clear hcl
  have q22 : ∀ (w : World) (a : Option Addr) (n c n' c' : Nat), (binOp .eql 33 (.slice a n c) (.slice none n' c')).run Try.prog w = .ok (.bool a.isNone) w := fun w a n c n' c' => Lib.run_eql_slice_nil w _ _ a n c n' c' Try.underlying33
  go_enter Try.func30, Try.ntmps30
  go_wp2_with (at_builtin; refine wpList_append_own _ rfl _ _ 33 rfl w.heap.size 3 i0 (.int .i64 0) 1 8 Try.underlying33 hi hz0 hz1 hz2 rfl (by decide) _ _ _ rfl (World.ownsRow_made w #[] 0 (Nat.le_refl _) (Nat.zero_le _) rfl) ⟨g, 0, none⟩ N c (int1 xs) rfl ?qc1 ?qc2 hone ?qc4 ?qc5 ?qc6 ?_)
  case qc1 => rw [int1_len, hl, Nat.mul_one]
  case qc2 =>
    intro j u hj
    rw [Addr.add_lit, Nat.zero_add]
    have h1 := Hcl.out j u hj
    exact (World.cell?_alloc_lt w _ _ (World.block_lt_of_cell? w _ h1)).trans h1
  case qc4 => unfold maxLen; omega
  case qc5 => omega
  case qc6 => simp
  intro v' w1 hown hgrow hnil
  go_wp2
  go_ret
  have hown2 : w1.ownsRow w.heap.size 3 1 v' N (int1 xs) := by simpa using hown
  obtain ⟨q, cq, rfl⟩ := own_some hown2 h0
  exact ⟨q, cq, rfl, hown2, ((Go.RowKit.Below.refl _ w).alloc (Nat.le_refl _) _).grown hgrow (by simp) (by intro k hk; simp [Value.ownBlock] at hk; omega)⟩

theorem set_gx {xs : List Int} {t : Nat} (h : t < xs.length) : xs.set t (gx xs t) = xs := by
  rw [gx_at (List.getElem?_eq_getElem h)]
  exact List.set_getElem_self h

/-- what with says -/
def WithPost (V0 N B : Nat) (On : Edg → Prop) (more : List Edg) (w : World) (e : Ending) (w' : World) : Prop :=
  ∃ (r : Int) (V1 c1 : Nat) (xs1 : List Int), e = .returned (.tuple #[.slice (some ⟨V1, 0, none⟩) N c1, .int .i64 r]) ∧ xs1.length = N ∧ w'.ownsRow 0 3 1 (.slice (some ⟨V1, 0, none⟩) N c1) N (int1 xs1) ∧ (V1 = V0 ∨ B ≤ V1) ∧ Below w.heap.size w w' ∧
    (r = 0 ∧ Lst (fun e => On e ∨ e ∈ more) (gx xs1) ∨ r = 1 ∧ ∀ y, Sat On y → (∀ e ∈ more, hol y e) → False)

/-- the number of the node of more while its edges are gone through -/
structure Cur (On : Edg → Prop) (more : List Edg) (t0 : Nat) (old : Nat → Int) (j : Nat) (z : Int) : Prop where
  lo : old t0 ≤ z
  hi : z ≤ 2000000 + 2000 * j
  ask : ∀ e ∈ more.take j, old e.f + e.b ≤ z
  least : ∀ y, Sat On y → (∀ v, 0 ≤ y v) → (∀ e ∈ more, hol y e) → z ≤ y t0
theorem Cur.next {On : Edg → Prop} {more : List Edg} {t0 : Nat} {old : Nat → Int} {j : Nat} {z : Int} (h : Cur On more t0 old j z) {e : Edg} (he : more[j]? = some e) (ht : e.t = t0) (hb : e.b ≤ 2000) (ho : ∀ v, old v ≤ 2000000) (hL : Lst On old) :
    Cur On more t0 old (j + 1) (max z (upd old t0 z e.f + e.b)) := by
  have hmem := List.mem_of_getElem? he
  have hle : old e.f ≤ upd old t0 z e.f := by
    by_cases hf : e.f = t0
    · rw [hf, upd_same]; exact h.lo
    · rw [upd_ne _ _ hf]; exact Int.le_refl _
  have hle2 : upd old t0 z e.f ≤ 2000000 + 2000 * j := by
    by_cases hf : e.f = t0
    · rw [hf, upd_same]; exact h.hi
    · rw [upd_ne _ _ hf]; have := ho e.f; omega
  have h1 := h.lo
  have h2 := h.hi
  refine ⟨by omega, by omega, fun e' he' => ?_, fun y hy hn hm => ?_⟩
  · rw [take_snoc he] at he'
    rcases List.mem_append.1 he' with h3 | h3
    · have := h.ask e' h3; omega
    · rw [List.mem_singleton.1 h3]; omega
  · have h3 := h.least y hy hn hm
    have h4 := hm e hmem
    unfold hol at h4
    rw [ht] at h4
    have h5 : upd old t0 z e.f ≤ y e.f := by
      by_cases hf : e.f = t0
      · rw [hf, upd_same]; exact h3
      · rw [upd_ne _ _ hf]; exact hL.least y hy hn e.f
    omega

set_option maxRecDepth 100000 in
set_option maxHeartbeats 4000000 in
theorem with_any (S OU ON N L V0 c0 : Nat) (out : Nat → List Edg) (on : Nat → Bool) (A : Option Addr) (m c : Nat) (more : List Edg) (to0 : Nat) (xs0 : List Int) (w : World)
    (hS : ∀ V, w.heap.size ≤ V → SR w S OU ON N L out on V) (hG : OkG N L out) (h3 : w.cell? ⟨S, 3, none⟩ = some (.slice (some ⟨V0, 0, none⟩) N c0)) (hV : w.ownsRow 0 3 1 (.slice (some ⟨V0, 0, none⟩) N c0) N (int1 xs0))
    (hw : EL w w.heap.size A m more) (hm0 : 0 < m) (hm : m ≤ 1000) (hok : ∀ e ∈ more, e.f < N ∧ e.t = to0 ∧ -2000 ≤ e.b ∧ e.b ≤ 2000) (hto : to0 < N) (hN : N ≤ 2000) (hL : Lst (OnG out on) (gx xs0)) (hub : ∀ v, gx xs0 v ≤ 2000000) :
    Calls Try.prog 25 #[.pointer (some ⟨S, 0, none⟩), .slice A m c] w (WithPost V0 N w.heap.size (OnG out on) more w) := by
  have hx0l : xs0.length = N := by have := hV.1; rw [int1_len] at this; omega
  have hVl : V0 < w.heap.size := (own_lt hV).2
  have hSl : S < w.heap.size := (hS _ (Nat.le_refl _)).lt.1
  have hokN : Ok N more := fun e he => by obtain ⟨h1, h2, h4, h5⟩ := hok e he; exact ⟨h1, by rw [h2]; exact hto, by omega, by omega⟩
  have hsm : Sm xs0 := fun z hz => by
    obtain ⟨i, hi, rfl⟩ := List.mem_iff_getElem.1 hz
    have h1 := hub i
    have h2 := hL.nn i
    rw [gx_at (List.getElem?_eq_getElem hi)] at h1 h2
    omega
  have hak := asks_any A m c more V0 N c0 xs0 w hw (by omega) (own_il hV hVl) hokN hsm
  have HS := Lib.hid hS
  have HL := Lib.hid hL
  have Hok := Lib.hid hok
  clear hS hL hok
  go_enter Try.func25, Try.ntmps25
  cases hask : asksB (gx xs0) more
  · rw [hask] at hak
    have Hak := Lib.hid hak
    clear hak
    go_wp2_with fail
    refine Hak.out.mono ?_
    rintro e w1 ⟨rfl, hb1⟩
    have g3 := (hb1.cell (p := ⟨S, 3, none⟩) hSl).trans h3
    go_wp2_with fail
    go_ret2
    exact ⟨0, V0, c0, xs0, rfl, hx0l, own_below hV hb1, .inl rfl, hb1, .inl ⟨rfl, ⟨fun e he => by
      rcases he with he | he
      · exact HL.out.sat e he
      · exact asksB_false.1 hask e he, HL.out.nn, fun y hy hn v => HL.out.least y (fun e he => hy e (.inl he)) hn v⟩⟩⟩
  · rw [hask] at hak
    have Hak := Lib.hid hak
    clear hak
    go_wp2_with fail
    refine Hak.out.mono ?_
    rintro e w1 ⟨rfl, hb1⟩
    have g3 := (hb1.cell (p := ⟨S, 3, none⟩) hSl).trans h3
    have hsz1 := hb1.size
    go_wp2_with fail
    refine (clone_own V0 N c0 xs0 w1 (own_below hV hb1) (by omega) (by omega)).mono ?_
    rintro e w2 ⟨V, cV, rfl, hown2, hb2⟩
    have hbw : Below w.heap.size w w2 := hb1.trans (hb2.mono hsz1)
    have hVn : w.heap.size ≤ V := Nat.le_trans hsz1 (own_lt hown2).1
    have hown0 : w2.ownsRow w.heap.size 3 1 (.slice (some ⟨V, 0, none⟩) N cV) N (int1 xs0) := own_lower hown2 hsz1
    clear hown2 hb2 hb1 g3
    obtain ⟨b0, off0, e0, rfl, hb0, he0, _, f1, _, _⟩ := (hw.below hbw).at_ hm0
    have ht0 : e0.t = to0 := (Hok.out e0 (List.mem_of_getElem? he0)).2.1
    rw [ht0] at f1
    rw [Nat.zero_mul, Nat.add_zero] at f1
    clear he0 ht0
    go_wp2_with fail
    go_loopw [33] (fun i wr => ∃ j : Nat, j ≤ m ∧ i = .int .i64 j ∧ ∃ z : Int, Hid (Cur (OnG out on) more to0 (gx xs0) j z) ∧ wr.ownsRow w.heap.size 3 1 (.slice (some ⟨V, 0, none⟩) N cV) N (int1 (xs0.set to0 z)) ∧ Below w.heap.size w wr) (fun i _ => m - (intOf i).toNat)
    case atStart =>
      refine ⟨0, Nat.zero_le _, rfl, gx xs0 to0, ⟨Int.le_refl _, by have := hub to0; omega, fun e he => by simp at he, fun y hy hn _ => HL.out.least y hy hn to0⟩, ?_, hbw⟩
      rw [set_gx (by omega)]
      exact hown0
    case round =>
      obtain ⟨j, hj, rfl, z, Hc, hown, hbr⟩ := hrel
      have hszr := hbr.size
      by_cases hlt : j < m
      · obtain ⟨b, off, e, hbe, hbl, he, y0, y1, y2, y3⟩ := (hw.below hbr).at_ hlt
        cases hbe
        obtain ⟨q1, q2, q3, q4⟩ := Hok.out e (List.mem_of_getElem? he)
        have Hn := Lib.hid (Hc.out.next he q2 q4 hub HL.out)
        have Hzlo := Lib.hid Hc.out.lo
        have Hzhi := Lib.hid Hc.out.hi
        have hz0 : 0 ≤ z := by have := HL.out.nn to0; have := Hc.out.lo; omega
        have hz1 : z ≤ 10000000 := by have := Hc.out.hi; omega
        have hfb : 0 ≤ upd (gx xs0) to0 z e.f ∧ upd (gx xs0) to0 z e.f ≤ 10000000 := by
          by_cases hf : e.f = to0
          · rw [hf, upd_same]; omega
          · rw [upd_ne _ _ hf]; have := HL.out.nn e.f; have := hub e.f; omega
        have hgx : gx (xs0.set to0 z) = upd (gx xs0) to0 z := gx_set _ _ _ (by omega)
        have hXX : Below wr.heap.size wr (wr.alloc (.cells #[.int .i64 e.f, .int .i64 to0, .int .i64 e.b, .int .i64 e.k] 68)) := (Below.refl _ _).alloc (Nat.le_refl _) _
        have v1 := own_cell hown (gx_some (xs := xs0.set to0 z) (v := to0) (by rw [List.length_set]; omega))
        have v2 := own_cell hown (gx_some (xs := xs0.set to0 z) (v := e.f) (by rw [List.length_set]; omega))
        rw [hgx] at v1 v2
        rw [upd_same] at v1
        generalize upd (gx xs0) to0 z e.f = x at *
        have hVr : V < wr.heap.size := (own_lt hown).2
        have Hj := Lib.hid he
        have Hq2 := Lib.hid q2
        rw [q2] at y1
        clear he hgx q2
        go_wp2_with fail
        have hX0 := box4 (w := wr) (x0 := .int .i64 e.f) (x1 := .int .i64 to0) (x2 := .int .i64 e.b) (x3 := .int .i64 e.k) (t := 68) (Below.refl (wr.heap.size + 1) _)
        have hd : Below wr.heap.size wr (wr.alloc (.cells #[.int .i64 e.f, .int .i64 to0, .int .i64 e.b, .int .i64 e.k] 68)).drew := hXX.drew
        have hb3 : Below (wr.heap.size + 1) (wr.alloc (.cells #[.int .i64 e.f, .int .i64 to0, .int .i64 e.b, .int .i64 e.k] 68)) (wr.alloc (.cells #[.int .i64 e.f, .int .i64 to0, .int .i64 e.b, .int .i64 e.k] 68)).drew := (Below.refl _ _).drew
        obtain ⟨d0, d1, d2, d3, _⟩ := box4 hb3
        have g1 := v1.1
        have g2 := v2.1
        have g3 := v1.2
        have hk : ∀ v, ((wr.setCell ⟨V, to0, none⟩ v).alloc (.cells #[.int .i64 e.f, .int .i64 to0, .int .i64 e.b, .int .i64 e.k] 68)).drew.cell? ⟨wr.heap.size, 0, none⟩ = some (.int .i64 e.f) ∧ ((wr.setCell ⟨V, to0, none⟩ v).alloc (.cells #[.int .i64 e.f, .int .i64 to0, .int .i64 e.b, .int .i64 e.k] 68)).drew.cell? ⟨wr.heap.size, 2, none⟩ = some (.int .i64 e.b) ∧ Below w.heap.size w ((wr.setCell ⟨V, to0, none⟩ v).alloc (.cells #[.int .i64 e.f, .int .i64 to0, .int .i64 e.b, .int .i64 e.k] 68)).drew := fun v => by
          have h5 : (wr.setCell ⟨V, to0, none⟩ v).heap.size = wr.heap.size := World.size_setCell _ _ _
          have h6 : Below ((wr.setCell ⟨V, to0, none⟩ v).heap.size + 1) ((wr.setCell ⟨V, to0, none⟩ v).alloc (.cells #[.int .i64 e.f, .int .i64 to0, .int .i64 e.b, .int .i64 e.k] 68)) ((wr.setCell ⟨V, to0, none⟩ v).alloc (.cells #[.int .i64 e.f, .int .i64 to0, .int .i64 e.b, .int .i64 e.k] 68)).drew := (Below.refl _ _).drew
          obtain ⟨h7, _, h8, _⟩ := box4 h6
          rw [h5] at h7 h8
          exact ⟨h7, h8, ((hbr.setCell (p := ⟨V, to0, none⟩) hVn v).alloc (by rw [h5]; exact hszr) _).drew⟩
        have hko : ∀ u : Int, ((wr.setCell ⟨V, to0, none⟩ (.int .i64 u)).alloc (.cells #[.int .i64 e.f, .int .i64 to0, .int .i64 e.b, .int .i64 e.k] 68)).drew.ownsRow w.heap.size 3 1 (.slice (some ⟨V, 0, none⟩) N cV) N (int1 (xs0.set to0 u)) := fun u => by
          have h5 := own_below (own_store hown to0 u) (((Below.refl _ (wr.setCell ⟨V, to0, none⟩ (.int .i64 u))).alloc (Nat.le_refl _) (.cells #[.int .i64 e.f, .int .i64 to0, .int .i64 e.b, .int .i64 e.k] 68)).drew)
          rw [List.set_set] at h5
          exact h5
        have Hk := Lib.hid hk
        have Hko := Lib.hid hko
        have Hm : Hid (Cur (OnG out on) more to0 (gx xs0) (j + 1) (if z < x + e.b then x + e.b else z)) := by
          have h5 := Hn.out
          rw [show max z (x + e.b) = if z < x + e.b then x + e.b else z by split <;> omega] at h5
          exact h5
        clear hk hko
        have i1 : (to0 : Int) < (N : Int) := by omega
        have i2 : (e.f : Int) < (N : Int) := by omega
        clear y0 y1 y2 y3 v1 v2 hX0 hb3 hXX
        refine wp_region_held_drew (S := fun w' => w'.cell? ⟨wr.heap.size, 0, none⟩ = some (.int .i64 e.f) ∧ w'.cell? ⟨wr.heap.size, 2, none⟩ = some (.int .i64 e.b)) (by kernel_rfl) ⟨d0, d2⟩ (fun hHeld => ?_)
        refine wpAnyH_take (i := 0) (oi := { dst := some 37, op := Op.move (Operand.tmp 6), type := 33, pos := "search.go:86", after := #[], guard := none }) (v := ?_) rfl (by kernel_rfl) (by kernel_rfl) (by kernel_rfl) (fun _ _ _ h => h) (Or.inl ⟨by rfl, ?_⟩) (by assumption) ?_
        rotate_left
        · (intro w hSw; (try dsimp only at hSw); go_simp; try with_reducible rfl)
        try simp only [Act.put, List.setIfInBounds_toArray, List.set_cons_zero, List.set_cons_succ]
        refine wpAnyH_take (i := 1) (oi := { dst := some 38, op := Op.move (Operand.tmp 7), type := 3, pos := "search.go:86", after := #[], guard := none }) (v := ?_) rfl (by kernel_rfl) (by kernel_rfl) (by kernel_rfl) (fun _ _ _ h => h) (Or.inl ⟨by rfl, ?_⟩) (by assumption) ?_
        rotate_left
        · (intro w hSw; (try dsimp only at hSw); go_simp; try with_reducible rfl)
        try simp only [Act.put, List.setIfInBounds_toArray, List.set_cons_zero, List.set_cons_succ]
        refine wpAnyH_take (i := 2) (oi := { dst := some 39, op := Op.move (Operand.tmp 6), type := 33, pos := "search.go:86", after := #[], guard := none }) (v := ?_) rfl (by kernel_rfl) (by kernel_rfl) (by kernel_rfl) (fun _ _ _ h => h) (Or.inl ⟨by rfl, ?_⟩) (by assumption) ?_
        rotate_left
        · (intro w hSw; (try dsimp only at hSw); go_simp; try with_reducible rfl)
        try simp only [Act.put, List.setIfInBounds_toArray, List.set_cons_zero, List.set_cons_succ]
        refine wpAnyH_take (i := 3) (oi := { dst := some 40, op := Op.move (Operand.tmp 7), type := 3, pos := "search.go:86", after := #[], guard := none }) (v := ?_) rfl (by kernel_rfl) (by kernel_rfl) (by kernel_rfl) (fun _ _ _ h => h) (Or.inl ⟨by rfl, ?_⟩) (by assumption) ?_
        rotate_left
        · (intro w hSw; (try dsimp only at hSw); go_simp; try with_reducible rfl)
        try simp only [Act.put, List.setIfInBounds_toArray, List.set_cons_zero, List.set_cons_succ]
        refine wpAnyH_take (i := 4) (oi := { dst := some 41, op := Op.indexAddr 33 (Operand.tmp 39) (Operand.tmp 40), type := 0, pos := "search.go:86", after := #[{ on := 2, ground := Ground.data }, { on := 3, ground := Ground.data }], guard := none }) (v := ?_) rfl (by kernel_rfl) (by kernel_rfl) (by kernel_rfl) (fun _ _ _ h => h) (Or.inl ⟨by rfl, ?_⟩) (by assumption) ?_
        rotate_left
        · (intro w hSw; (try dsimp only at hSw); go_simp; try with_reducible rfl)
        try simp only [Act.put, List.setIfInBounds_toArray, List.set_cons_zero, List.set_cons_succ]
        refine wpAnyH_take (i := 6) (oi := { dst := some 43, op := Op.move (Operand.tmp 6), type := 33, pos := "search.go:86", after := #[], guard := none }) (v := ?_) rfl (by kernel_rfl) (by kernel_rfl) (by kernel_rfl) (fun _ _ _ h => h) (Or.inl ⟨by rfl, ?_⟩) (by assumption) ?_
        rotate_left
        · (intro w hSw; (try dsimp only at hSw); go_simp; try with_reducible rfl)
        try simp only [Act.put, List.setIfInBounds_toArray, List.set_cons_zero, List.set_cons_succ]
        refine wpAnyH_take (i := 7) (oi := { dst := some 44, op := Op.fieldAddr 68 (Operand.tmp 9) 0, type := 0, pos := "search.go:86", after := #[], guard := none }) (v := ?_) rfl (by kernel_rfl) (by kernel_rfl) (by kernel_rfl) (fun _ _ _ h => h) (Or.inl ⟨by rfl, ?_⟩) (by assumption) ?_
        rotate_left
        · (intro w hSw; (try dsimp only at hSw); go_simp; try with_reducible rfl)
        try simp only [Act.put, List.setIfInBounds_toArray, List.set_cons_zero, List.set_cons_succ]
        refine wpAnyH_take (i := 8) (oi := { dst := some 45, op := Op.load 3 (Operand.tmp 44), type := 3, pos := "search.go:86", after := #[{ on := 7, ground := Ground.data }], guard := none }) (v := ?_) rfl (by kernel_rfl) (by kernel_rfl) (by kernel_rfl) (fun _ _ _ h => h) (Or.inl ⟨by rfl, ?_⟩) (by assumption) ?_
        rotate_left
        · (intro w hSw; (try dsimp only at hSw); go_simp; try with_reducible rfl)
        try simp only [Act.put, List.setIfInBounds_toArray, List.set_cons_zero, List.set_cons_succ]
        refine wpAnyH_take (i := 9) (oi := { dst := some 46, op := Op.indexAddr 33 (Operand.tmp 43) (Operand.tmp 45), type := 0, pos := "search.go:86", after := #[{ on := 6, ground := Ground.data }, { on := 8, ground := Ground.data }], guard := none }) (v := ?_) rfl (by kernel_rfl) (by kernel_rfl) (by kernel_rfl) (fun _ _ _ h => h) (Or.inl ⟨by rfl, ?_⟩) (by assumption) ?_
        rotate_left
        · (intro w hSw; (try dsimp only at hSw); go_simp; try with_reducible rfl)
        try simp only [Act.put, List.setIfInBounds_toArray, List.set_cons_zero, List.set_cons_succ]
        refine wpAnyH_take (i := 11) (oi := { dst := some 48, op := Op.fieldAddr 68 (Operand.tmp 9) 2, type := 0, pos := "search.go:86", after := #[], guard := none }) (v := ?_) rfl (by kernel_rfl) (by kernel_rfl) (by kernel_rfl) (fun _ _ _ h => h) (Or.inl ⟨by rfl, ?_⟩) (by assumption) ?_
        rotate_left
        · (intro w hSw; (try dsimp only at hSw); go_simp; try with_reducible rfl)
        try simp only [Act.put, List.setIfInBounds_toArray, List.set_cons_zero, List.set_cons_succ]
        refine wpAnyH_take (i := 12) (oi := { dst := some 49, op := Op.load 3 (Operand.tmp 48), type := 3, pos := "search.go:86", after := #[{ on := 11, ground := Ground.data }], guard := none }) (v := ?_) rfl (by kernel_rfl) (by kernel_rfl) (by kernel_rfl) (fun _ _ _ h => h) (Or.inl ⟨by rfl, ?_⟩) (by assumption) ?_
        rotate_left
        · (intro w hSw; (try dsimp only at hSw); go_simp; try with_reducible rfl)
        try simp only [Act.put, List.setIfInBounds_toArray, List.set_cons_zero, List.set_cons_succ]
        refine wpAnyH_ready (rs := [5, 10]) (by kernel_rfl) (by simp) (AllReadyH.cons rfl (fun K hK => ?_) (AllReadyH.cons rfl (fun K hK => ?_) AllReadyH.nil))
        · go_simp
          refine hK.out _ _ ⟨d0, d2⟩ (fun hHeld => ?_)
          clear hK K
          try simp only [Act.put, List.setIfInBounds_toArray, List.set_cons_zero, List.set_cons_succ]
          refine wpAnyH_ready (rs := [10]) (by kernel_rfl) (by simp) (AllReadyH.cons rfl (fun K hK => ?_) AllReadyH.nil)
          go_simp
          refine hK.out _ _ ⟨d0, d2⟩ (fun hHeld => ?_)
          clear hK K
          try simp only [Act.put, List.setIfInBounds_toArray, List.set_cons_zero, List.set_cons_succ]
          refine wpAnyH_take (i := 13) (oi := { dst := some 50, op := Op.binOp BinOp.add 3 (Operand.tmp 47) (Operand.tmp 49) 3, type := 3, pos := "search.go:86", after := #[{ on := 10, ground := Ground.data }, { on := 12, ground := Ground.data }], guard := none }) (v := ?_) rfl (by kernel_rfl) (by kernel_rfl) (by kernel_rfl) (fun _ _ _ h => h) (Or.inl ⟨by rfl, ?_⟩) (by assumption) ?_
          rotate_left
          · (intro w hSw; (try dsimp only at hSw); go_simp; try with_reducible rfl)
          try simp only [Act.put, List.setIfInBounds_toArray, List.set_cons_zero, List.set_cons_succ]
          refine wpAnyH_take (i := 14) (oi := { dst := some 51, op := Op.call { callee := Callee.builtin Builtin.max, args := #[Operand.tmp 42, Operand.tmp 50], argTypes := #[3, 3] }, type := 3, pos := "search.go:86", after := #[{ on := 5, ground := Ground.data }, { on := 13, ground := Ground.data }], guard := none }) (v := ?_) rfl (by kernel_rfl) (by kernel_rfl) (by kernel_rfl) (fun _ _ _ h => h) (Or.inl ⟨by rfl, ?_⟩) (by assumption) ?_
          rotate_left
          · (intro w hSw; (try dsimp only at hSw); go_simp; try with_reducible rfl)
          try simp only [Act.put, List.setIfInBounds_toArray, List.set_cons_zero, List.set_cons_succ]
          refine wpAnyH_take (i := 15) (oi := { dst := some 52, op := Op.indexAddr 33 (Operand.tmp 37) (Operand.tmp 38), type := 0, pos := "search.go:86", after := #[{ on := 0, ground := Ground.data }, { on := 1, ground := Ground.data }, { on := 0, ground := Ground.phase }, { on := 1, ground := Ground.phase }, { on := 2, ground := Ground.phase }, { on := 3, ground := Ground.phase }, { on := 4, ground := Ground.phase }, { on := 5, ground := Ground.phase }, { on := 6, ground := Ground.phase }, { on := 7, ground := Ground.phase }, { on := 8, ground := Ground.phase }, { on := 9, ground := Ground.phase }, { on := 10, ground := Ground.phase }, { on := 11, ground := Ground.phase }, { on := 12, ground := Ground.phase }, { on := 13, ground := Ground.phase }, { on := 14, ground := Ground.phase }], guard := none }) (v := ?_) rfl (by kernel_rfl) (by kernel_rfl) (by kernel_rfl) (fun _ _ _ h => h) (Or.inl ⟨by rfl, ?_⟩) (by assumption) ?_
          rotate_left
          · (intro w hSw; (try dsimp only at hSw); go_simp; try with_reducible rfl)
          try simp only [Act.put, List.setIfInBounds_toArray, List.set_cons_zero, List.set_cons_succ]
          refine wpAnyH_ready (rs := [16]) (by kernel_rfl) (by simp) (AllReadyH.cons rfl (fun K hK => ?_) AllReadyH.nil)
          go_simp
          refine hK.out _ _ ⟨(Hk.out _).1, (Hk.out _).2.1⟩ (fun hHeld => ?_)
          clear hK K
          refine wpAnyH_done (by kernel_rfl) ?_ _
          rw [show IntKind.i64.wrap (x + e.b) = x + e.b by rw [IntKind.wrap_i64]; omega]
          go_wp2_with fail
          go_roundw
          case rel =>
            exact ⟨j + 1, by omega, by go_num, _, Hm.out, Hko.out _, (Hk.out _).2.2⟩
          case measure => simp [intOf]; omega
        · go_simp
          refine hK.out _ _ ⟨d0, d2⟩ (fun hHeld => ?_)
          clear hK K
          try simp only [Act.put, List.setIfInBounds_toArray, List.set_cons_zero, List.set_cons_succ]
          refine wpAnyH_take (i := 13) (oi := { dst := some 50, op := Op.binOp BinOp.add 3 (Operand.tmp 47) (Operand.tmp 49) 3, type := 3, pos := "search.go:86", after := #[{ on := 10, ground := Ground.data }, { on := 12, ground := Ground.data }], guard := none }) (v := ?_) rfl (by kernel_rfl) (by kernel_rfl) (by kernel_rfl) (fun _ _ _ h => h) (Or.inl ⟨by rfl, ?_⟩) (by assumption) ?_
          rotate_left
          · (intro w hSw; (try dsimp only at hSw); go_simp; try with_reducible rfl)
          try simp only [Act.put, List.setIfInBounds_toArray, List.set_cons_zero, List.set_cons_succ]
          refine wpAnyH_ready (rs := [5]) (by kernel_rfl) (by simp) (AllReadyH.cons rfl (fun K hK => ?_) AllReadyH.nil)
          go_simp
          refine hK.out _ _ ⟨d0, d2⟩ (fun hHeld => ?_)
          clear hK K
          try simp only [Act.put, List.setIfInBounds_toArray, List.set_cons_zero, List.set_cons_succ]
          refine wpAnyH_take (i := 14) (oi := { dst := some 51, op := Op.call { callee := Callee.builtin Builtin.max, args := #[Operand.tmp 42, Operand.tmp 50], argTypes := #[3, 3] }, type := 3, pos := "search.go:86", after := #[{ on := 5, ground := Ground.data }, { on := 13, ground := Ground.data }], guard := none }) (v := ?_) rfl (by kernel_rfl) (by kernel_rfl) (by kernel_rfl) (fun _ _ _ h => h) (Or.inl ⟨by rfl, ?_⟩) (by assumption) ?_
          rotate_left
          · (intro w hSw; (try dsimp only at hSw); go_simp; try with_reducible rfl)
          try simp only [Act.put, List.setIfInBounds_toArray, List.set_cons_zero, List.set_cons_succ]
          refine wpAnyH_take (i := 15) (oi := { dst := some 52, op := Op.indexAddr 33 (Operand.tmp 37) (Operand.tmp 38), type := 0, pos := "search.go:86", after := #[{ on := 0, ground := Ground.data }, { on := 1, ground := Ground.data }, { on := 0, ground := Ground.phase }, { on := 1, ground := Ground.phase }, { on := 2, ground := Ground.phase }, { on := 3, ground := Ground.phase }, { on := 4, ground := Ground.phase }, { on := 5, ground := Ground.phase }, { on := 6, ground := Ground.phase }, { on := 7, ground := Ground.phase }, { on := 8, ground := Ground.phase }, { on := 9, ground := Ground.phase }, { on := 10, ground := Ground.phase }, { on := 11, ground := Ground.phase }, { on := 12, ground := Ground.phase }, { on := 13, ground := Ground.phase }, { on := 14, ground := Ground.phase }], guard := none }) (v := ?_) rfl (by kernel_rfl) (by kernel_rfl) (by kernel_rfl) (fun _ _ _ h => h) (Or.inl ⟨by rfl, ?_⟩) (by assumption) ?_
          rotate_left
          · (intro w hSw; (try dsimp only at hSw); go_simp; try with_reducible rfl)
          try simp only [Act.put, List.setIfInBounds_toArray, List.set_cons_zero, List.set_cons_succ]
          refine wpAnyH_ready (rs := [16]) (by kernel_rfl) (by simp) (AllReadyH.cons rfl (fun K hK => ?_) AllReadyH.nil)
          go_simp
          refine hK.out _ _ ⟨(Hk.out _).1, (Hk.out _).2.1⟩ (fun hHeld => ?_)
          clear hK K
          refine wpAnyH_done (by kernel_rfl) ?_ _
          rw [show IntKind.i64.wrap (x + e.b) = x + e.b by rw [IntKind.wrap_i64]; omega]
          go_wp2_with fail
          go_roundw
          case rel =>
            exact ⟨j + 1, by omega, by go_num, _, Hm.out, Hko.out _, (Hk.out _).2.2⟩
          case measure => simp [intOf]; omega
      · have hjm : j = m := by omega
        subst hjm
        have hjm2 : ¬ (j : Int) < (j : Int) := by omega
        have hl1 := Hc.out.lo
        have hl2 := Hc.out.hi
        have hgx : gx (xs0.set to0 z) = upd (gx xs0) to0 z := gx_set _ _ _ (by omega)
        have hsp := spread_any S OU ON N L V cV out on (some ⟨b0, off0, none⟩) j c more to0 (gx xs0) (fun v => gx xs0 v + (z - gx xs0 to0)) (z - gx xs0 to0) (xs0.set to0 z) wr ((HS.out V hVn).bb (BB.of hbr)) hG (own_lower hown (Nat.zero_le _)) ((hw.below hbr).more hszr)
          (fun b off e => by cases e; omega) (by omega) hokN hN hto (by rw [hgx]; congr 1; omega) (by omega) (fun _ => rfl) HL.out.sat HL.out.nn (fun v => by have := hub v; have := HL.out.nn to0; show gx xs0 v + (z - gx xs0 to0) ≤ 100000000; omega)
          (fun e he => ⟨(Hok.out e he).2.1, by have h9 := Hc.out.ask e (by rw [List.take_of_length_le (by have := hw.1; omega)]; exact he); omega⟩)
        rw [hgx] at hsp
        have Hsp := Lib.hid hsp
        clear hsp hgx
        go_wp2_with fail
        refine Hsp.out.mono ?_
        rintro e w3 ⟨r, xs, rfl, hxl, hox, hbb, hlow, hup, hres⟩
        go_wp2_with fail
        go_ret2
        refine ⟨r, V, cV, xs, rfl, hxl, hox, .inr hVn, ⟨hbb.os.trans hbr.os, hbb.tape.trans hbr.tape, hbb.output.trans hbr.output, Nat.le_trans hszr hbb.size, fun k hk => (hbb.block k (by omega) (by omega)).trans (hbr.block k hk)⟩, ?_⟩
        have hge : ∀ v, gx xs0 v ≤ upd (gx xs0) to0 z v := fun v => by
          by_cases hv : v = to0
          · rw [hv, upd_same]; exact hl1
          · rw [upd_ne _ _ hv]; exact Int.le_refl _
        rcases hres with ⟨rfl, hs, hh, hl⟩ | ⟨rfl, h⟩
        · refine .inl ⟨rfl, fun e he => ?_, fun v => ?_, fun y hy hn => hl y (fun e he => hy e (.inl he)) fun v => ?_⟩
          · rcases he with he | he
            · exact hs e he
            · exact hh e he
          · exact Int.le_trans (HL.out.nn v) (Int.le_trans (hge v) (hlow v))
          · by_cases hv : v = to0
            · rw [hv, upd_same]; exact Hc.out.least y (fun e he => hy e (.inl he)) hn fun e he => hy e (.inr he)
            · rw [upd_ne _ _ hv]; exact HL.out.least y (fun e he => hy e (.inl he)) hn v
        · exact .inr ⟨rfl, h⟩
end Go.Proofs.Ytapajkfnpkekdaa
