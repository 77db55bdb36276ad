/-
  'begin' of package graph: the search of a system of constraints, none of them on.
-/
import Derived.Test.YtapajkfnpkekdaaGBegM
namespace Go.Proofs.Ytapajkfnpkekdaa
open Go Go.RowKit

/-- the edges of the k-th constraint, and of the first ones together -/
def foC (n : Nat) (cs : List LCn) (k : Nat) : List Edg := match cs[k]? with | some c => edgC n c k | none => []
def esC (n : Nat) (cs : List LCn) : Nat → List Edg
  | 0 => []
  | k + 1 => esC n cs k ++ foC n cs k
/-- the edges that say that no variable is below zero -/
def zeC (n K v : Nat) : List Edg := (List.range v).map fun u => ⟨n, u, 0, K⟩
theorem zeC_succ (n K v : Nat) : zeC n K (v + 1) = zeC n K v ++ [⟨n, v, 0, K⟩] := by simp [zeC, List.range_succ]
theorem foC_at {n : Nat} {cs : List LCn} {k : Nat} {c : LCn} (h : cs[k]? = some c) : foC n cs k = edgC n c k := by simp [foC, h]
theorem made_cell {w : World} {b n i : Nat} {z : Value} {t : TypeId} (h : w.heap[b]? = some (.cells (madeCells #[z] n) t)) (hi : i < n) : w.cell? ⟨b, i, none⟩ = some z := by
  simp [World.cell?, h, madeCells, hi, Nat.mod_one]
theorem own_el {w : World} {base : Nat} {e : TypeId} {A : Option Addr} {m c : Nat} {es : List Edg} (h : w.ownsRow base e 4 (.slice A m c) es.length (flat4 es)) : m = es.length ∧ EL w w.heap.size A m es := by
  obtain ⟨A', c', heq, _, _, hEL, _⟩ := EL.of_own h
  cases heq
  exact ⟨rfl, hEL⟩
theorem heap_alloc2 (w : World) (a b : Obj) : ((w.alloc a).alloc b).drew.heap[w.heap.size + 1]? = some b := by
  have h : (w.alloc a).heap.size = w.heap.size + 1 := by simp
  have z : ∀ (w : World) (o : Obj), (w.alloc o).heap[w.heap.size]? = some o := fun w o => by show (w.heap.push o)[w.heap.size]? = some o; simp
  have h2 := z (w.alloc a) b
  rw [h] at h2
  exact h2

theorem edgC_len {n k : Nat} {c : LCn} (h : Con n c) : (edgC n c k).length ≤ 9 := by
  have := h.al
  simp [edgC]
  omega
theorem foC_len {n k : Nat} {cs : List LCn} (hcs : ∀ c ∈ cs, Con n c) : (foC n cs k).length ≤ 9 := by
  unfold foC
  cases h : cs[k]? with
  | none => simp
  | some c => exact edgC_len (hcs c (List.mem_of_getElem? h))
theorem esC_len {n : Nat} {cs : List LCn} (hcs : ∀ c ∈ cs, Con n c) : ∀ k, (esC n cs k).length ≤ 9 * k
  | 0 => by simp [esC]
  | k + 1 => by
    have h1 := esC_len hcs k
    have h2 := foC_len (k := k) hcs
    rw [esC, List.length_append]
    omega
theorem outE_le (es : List Edg) (v : Nat) : (outE es v).length ≤ es.length := List.length_filter_le _ _

theorem zeC_len (n K v : Nat) : (zeC n K v).length = v := by simp [zeC]
theorem heap_alloc1 (w : World) (a : Obj) : (w.alloc a).drew.heap[w.heap.size]? = some a := by
  show (w.heap.push a)[w.heap.size]? = some a
  simp

/-- what begin says -/
def BegPost (w : World) (K n : Nat) (cs : List LCn) (e : Ending) (w' : World) : Prop :=
  ∃ (B S OF OU ON V : Nat) (vf va : Nat → Value), e = .returned (.pointer (some ⟨S, 0, none⟩)) ∧ w.heap.size ≤ S ∧ w.heap.size ≤ ON ∧ S ≠ ON ∧ S ≠ V ∧ ON ≠ V ∧
    ∃ w1, w' = w1.setCell ⟨ON, K, none⟩ (.bool true) ∧ BG B w w1 S OF OU ON V K (n + 1) (.cells #[.slice (some ⟨OF, 0, none⟩) K K, .slice (some ⟨OU, 0, none⟩) (n + 1) (n + 1), .slice (some ⟨ON, 0, none⟩) (K + 1) (K + 1), .slice (some ⟨V, 0, none⟩) (n + 1) (n + 1)] 57)
      (.cells (madeCells #[.bool false] (K + 1)) 4) (.cells (madeCells #[.int .i64 0] (n + 1)) 3) (foC n cs) (esC n cs K ++ zeC n K n) vf va K

set_option linter.unusedSimpArgs false in
set_option maxRecDepth 100000 in
set_option maxHeartbeats 4000000 in
theorem begin_any (A : Option Addr) (K cap n : Nat) (cs : List LCn) (w : World) (h : CL w w.heap.size A K cs) (hK : K ≤ 3000) (hn : n ≤ 1200) (hcs : ∀ c ∈ cs, Con n c) :
    Calls Try.prog 12 #[.int .i64 n, .slice A K cap] w (BegPost w K n cs) := by
  obtain ⟨i0, hi, hz0, hz1, hz2⟩ := info_parts infoEs
  obtain ⟨j0, hj, hy0, hy1, hy2⟩ := info_parts infoB
  obtain ⟨k0, hk, hx0, hx1, hx2⟩ := info_parts infoI
  obtain ⟨oF, hoF⟩ : ∃ o, o = Obj.cells (madeCells #[.slice none 0 0] K) 65 := ⟨_, rfl⟩
  obtain ⟨oU, hoU⟩ : ∃ o, o = Obj.cells (madeCells #[.slice none 0 0] (n + 1)) 65 := ⟨_, rfl⟩
  obtain ⟨oB, hoB⟩ : ∃ o, o = Obj.cells (madeCells #[.bool false] (K + 1)) 4 := ⟨_, rfl⟩
  obtain ⟨oV, hoV⟩ : ∃ o, o = Obj.cells (madeCells #[.int .i64 0] (n + 1)) 3 := ⟨_, rfl⟩
  have hmF : ∀ W : World, (Instr.makeSlice 54 (.int .i64 K) (.int .i64 K)).run Try.prog W = .ok (.slice (some ⟨W.heap.size, 0, none⟩) K K) (W.alloc oF) := fun W => by
    have h := run_make (P := Try.prog) W 54 65 i0 (.slice none 0 0) Try.underlying54 hi hz0 .i64 .i64 K K (by omega) (Int.le_refl _) (by rw [hz2]; omega) (by omega)
    rw [hz1, Nat.mul_one] at h
    rw [hoF]
    exact h
  have hmU : ∀ W : World, (Instr.makeSlice 54 (.int .i64 ((n : Int) + 1)) (.int .i64 ((n : Int) + 1))).run Try.prog W = .ok (.slice (some ⟨W.heap.size, 0, none⟩) (n + 1) (n + 1)) (W.alloc oU) := fun W => by
    have h := run_make (P := Try.prog) W 54 65 i0 (.slice none 0 0) Try.underlying54 hi hz0 .i64 .i64 ((n + 1 : Nat) : Int) (n + 1 : Nat) (by omega) (Int.le_refl _) (by rw [hz2]; omega) (by omega)
    rw [hz1] at h
    rw [hoU]
    simpa [Value.cells] using h
  have hmB : ∀ W : World, (Instr.makeSlice 55 (.int .i64 ((K : Int) + 1)) (.int .i64 ((K : Int) + 1))).run Try.prog W = .ok (.slice (some ⟨W.heap.size, 0, none⟩) (K + 1) (K + 1)) (W.alloc oB) := fun W => by
    have h := run_make (P := Try.prog) W 55 4 j0 (.bool false) Try.underlying55 hj hy0 .i64 .i64 ((K + 1 : Nat) : Int) (K + 1 : Nat) (by omega) (Int.le_refl _) (by rw [hy2]; omega) (by omega)
    rw [hy1] at h
    rw [hoB]
    simpa [Value.cells] using h
  have hmV : ∀ W : World, (Instr.makeSlice 33 (.int .i64 ((n : Int) + 1)) (.int .i64 ((n : Int) + 1))).run Try.prog W = .ok (.slice (some ⟨W.heap.size, 0, none⟩) (n + 1) (n + 1)) (W.alloc oV) := fun W => by
    have h := run_make (P := Try.prog) W 33 3 k0 (.int .i64 0) Try.underlying33 hk hx0 .i64 .i64 ((n + 1 : Nat) : Int) (n + 1 : Nat) (by omega) (Int.le_refl _) (by rw [hx2]; omega) (by omega)
    rw [hx1] at h
    rw [hoV]
    simpa [Value.cells] using h
  have wN : IntKind.i64.wrap ((n : Int) + 1) = (n : Int) + 1 := by rw [IntKind.wrap_i64]; omega
  have wK : IntKind.i64.wrap ((K : Int) + 1) = (K : Int) + 1 := by rw [IntKind.wrap_i64]; omega
  have HoF := Lib.hid hoF
  have HoU := Lib.hid hoU
  have HoB := Lib.hid hoB
  have HoV := Lib.hid hoV
  clear hoF hoU hoB hoV
  obtain ⟨e0, hie, hez0, hez1, hez2⟩ := info_parts infoE
  go_enter Try.func12, Try.ntmps12
  go_wp2_with fail
  go_cut [5] (fun s wx => Five w oF oU oB oV K (n + 1) s wx)
  case first =>
    go_region_held3 (fun _ => True) (trivial) (fail)
    all_goals (go_wp2_with fail; go_meet)
    all_goals (refine Five.of w ?_ ?_ ?_ ?_ rfl (by omega) (by omega) <;> first | exact (heap_five w _ _ _ _ _).1 | exact (heap_five w _ _ _ _ _).2.1 | exact (heap_five w _ _ _ _ _).2.2.1 | exact (heap_five w _ _ _ _ _).2.2.2.1)
  case rest =>
    obtain ⟨S, OF, OU, ON, V, rfl, hS, hF, hU, hB, hV, hne, hle, hb0⟩ := hcut
    obtain ⟨n1, n2, n3, n4, n5, n6, n7, n8, n9, n10⟩ := hne
    rw [HoF.out] at hF
    rw [HoU.out] at hU
    rw [HoB.out] at hB
    rw [HoV.out] at hV
    clear hmF hmU hmB hmV HoF HoU HoB HoV
    have hlt : ∀ {b : Nat} {o : Obj}, wc.heap[b]? = some o → b < wc.heap.size := fun h => (Array.getElem?_eq_some_iff.1 h).1
    have hbg : BG wc.heap.size w wc S OF OU ON V K (n + 1) (.cells #[.slice (some ⟨OF, 0, none⟩) K K, .slice (some ⟨OU, 0, none⟩) (n + 1) (n + 1), .slice (some ⟨ON, 0, none⟩) (K + 1) (K + 1), .slice (some ⟨V, 0, none⟩) (n + 1) (n + 1)] 57)
      (.cells (madeCells #[.bool false] (K + 1)) 4) (.cells (madeCells #[.int .i64 0] (n + 1)) 3) (foC n cs) (esC n cs 0) (fun _ => .slice none 0 0) (fun _ => .slice none 0 0) 0 :=
      ⟨hb0, Nat.le_refl _, ⟨hlt hS, hlt hF, hlt hU, hlt hB, hlt hV⟩, ⟨hle.2.1, hle.2.2.1⟩, ⟨n1, n2, n5, Ne.symm n6, Ne.symm n8, Ne.symm n7, Ne.symm n9⟩, hS, hB, hV, fun k hk => by omega, fun k hk => ⟨_, made_cell hF hk⟩, fun v hv => ⟨made_cell hU hv, World.ownsRow_nil _ _ _ _⟩, fun _ _ _ _ _ g hg => by simp [Value.ownBlock] at hg, fun k v hk => by omega, fun i => ⟨by simp [World.frozen?, hF], by simp [World.frozen?, hU]⟩⟩
    have Hbg := Lib.hid hbg
    have hb0' := hlt hS
    have hb1' := hlt hF
    have hb2' := hlt hU
    have Hge := Lib.hid (And.intro hle.1 hle.2.2.2.1)
    clear hbg hS hF hU hB hV hlt hle
    generalize hoS : Obj.cells #[.slice (some ⟨OF, 0, none⟩) K K, .slice (some ⟨OU, 0, none⟩) (n + 1) (n + 1), .slice (some ⟨ON, 0, none⟩) (K + 1) (K + 1), .slice (some ⟨V, 0, none⟩) (n + 1) (n + 1)] 57 = oS at Hbg
    have HoS := Lib.hid hoS
    generalize hoB : Obj.cells (madeCells #[.bool false] (K + 1)) 4 = oB at Hbg
    have HoB := Lib.hid hoB
    generalize hoV : Obj.cells (madeCells #[.int .i64 0] (n + 1)) 3 = oV at Hbg
    have HoV := Lib.hid hoV
    clear hoS hoB hoV
    generalize wc.heap.size = B at *
    have hsc : ∀ wr : World, wr.heap[S]? = some oS → wr.cell? ⟨S, 0, none⟩ = some (.slice (some ⟨OF, 0, none⟩) K K) ∧ wr.cell? ⟨S, 1, none⟩ = some (.slice (some ⟨OU, 0, none⟩) (n + 1) (n + 1)) ∧ wr.cell? ⟨S, 2, none⟩ = some (.slice (some ⟨ON, 0, none⟩) (K + 1) (K + 1)) := fun wr h => by
      rw [← HoS.out] at h
      exact ⟨by simp [World.cell?, h], by simp [World.cell?, h], by simp [World.cell?, h]⟩
    have Hsc := Lib.hid hsc
    clear hsc
    go_wp2_with fail
    go_loopw [28] (fun i wr => ∃ k : Nat, k ≤ K ∧ i = .int .i64 k ∧ ∃ vf va, Hid (BG B w wr S OF OU ON V K (n + 1) oS oB oV (foC n cs) (esC n cs k) vf va k)) (fun i _ => K - (intOf i).toNat)
    case atStart => exact ⟨0, Nat.zero_le _, rfl, _, _, Hbg.out⟩
    case round =>
      obtain ⟨k, hk, rfl, vf, va, Hb⟩ := hrel
      have hbw := Hb.out.bel
      have hszr := hbw.size
      have hBr := Hb.out.size
      by_cases hlk : k < K
      · obtain ⟨b, off, c, A1, m1, c1, A2, m2, c2, rfl, hbl, hc, y0, y1, y2, y3, p1, p2, _⟩ := (h.below hbw).at_ hlk
        have s0 := (Hsc.out wr Hb.out.hS).1
        obtain ⟨u0, hu0⟩ := Hb.out.f2 k hlk
        have hfz := (Hb.out.fz k).1
        have hki : (k : Int) < (K : Int) := by omega
        have Hcon := Lib.hid (hcs c (List.mem_of_getElem? hc))
        have Hfo : Hid (foC n cs k = edgC n c k) := foC_at hc
        have hX : Below wr.heap.size wr (wr.alloc (.cells #[.int .i64 c.1.1, .slice A1 m1 c1, .int .i64 c.2.1, .slice A2 m2 c2] 32)).drew := ((Below.refl _ _).alloc (Nat.le_refl _) _).drew
        have hXs : wr.heap.size + 1 ≤ (wr.alloc (.cells #[.int .i64 c.1.1, .slice A1 m1 c1, .int .i64 c.2.1, .slice A2 m2 c2] 32)).drew.heap.size := by show wr.heap.size + 1 ≤ (wr.alloc _).heap.size; simp
        have p1w : PL wr wr.heap.size A1 m1 c.1.2 := by first | exact p1.more hszr | exact p1
        have p2w : PL wr wr.heap.size A2 m2 c.2.2 := by first | exact p2.more hszr | exact p2
        have he := edges_any n c k A1 m1 c1 A2 m2 c2 _ (p1w.lift hX) (p2w.lift hX) Hcon.out
        have He := Lib.hid he
        clear he hc
        have hfive := Hb.out.five
        have hneq := Hb.out.ne
        have lS : S < wr.heap.size := by omega
        have lF : OF < wr.heap.size := by omega
        have hneF : wr.heap.size ≠ OF := by omega
        have hS5 : ∀ w', Below (wr.alloc (.cells #[.int .i64 c.1.1, .slice A1 m1 c1, .int .i64 c.2.1, .slice A2 m2 c2] 32)).drew.heap.size (wr.alloc (.cells #[.int .i64 c.1.1, .slice A1 m1 c1, .int .i64 c.2.1, .slice A2 m2 c2] 32)).drew w' →
            w'.cell? ⟨S, 0, none⟩ = some (.slice (some ⟨OF, 0, none⟩) K K) ∧ w'.cell? ⟨wr.heap.size, 0, none⟩ = some (.int .i64 c.1.1) ∧ w'.cell? ⟨wr.heap.size, 1, none⟩ = some (.slice A1 m1 c1) ∧ w'.cell? ⟨wr.heap.size, 2, none⟩ = some (.int .i64 c.2.1) ∧ w'.cell? ⟨wr.heap.size, 3, none⟩ = some (.slice A2 m2 c2) := fun w' hb => by
          have hb2 : Below (wr.heap.size + 1) (wr.alloc (.cells #[.int .i64 c.1.1, .slice A1 m1 c1, .int .i64 c.2.1, .slice A2 m2 c2] 32)) w' := ((Below.refl _ _).drew).trans (hb.mono hXs)
          obtain ⟨d0, d1, d2, d3, _⟩ := box4 hb2
          exact ⟨((hX.trans (hb.mono (by omega))).cell (p := ⟨S, 0, none⟩) lS).trans s0, d0, d1, d2, d3⟩
        have HS5 := Lib.hid hS5
        have hu5 := (hX.cell (p := ⟨OF, k, none⟩) lF).trans hu0
        have hf5 := (hX.frozen (p := ⟨OF, k, none⟩) lF).trans hfz
        have lF5 : OF < (wr.alloc (.cells #[.int .i64 c.1.1, .slice A1 m1 c1, .int .i64 c.2.1, .slice A2 m2 c2] 32)).drew.heap.size := by omega
        have HX := Lib.hid hX
        have HXs := Lib.hid hXs
        have Hu5 := Lib.hid hu5
        have Hf5 := Lib.hid hf5
        have HlF5 := Lib.hid lF5
        clear hS5 hX hXs hu5 hf5 lF5
        go_wp2_with fail
        clear y0 y1 y2 y3
        go_region_held3 (fun w' => w'.cell? ⟨S, 0, none⟩ = some (.slice (some ⟨OF, 0, none⟩) K K) ∧ w'.cell? ⟨wr.heap.size, 0, none⟩ = some (.int .i64 c.1.1) ∧ w'.cell? ⟨wr.heap.size, 1, none⟩ = some (.slice A1 m1 c1) ∧ w'.cell? ⟨wr.heap.size, 2, none⟩ = some (.int .i64 c.2.1) ∧ w'.cell? ⟨wr.heap.size, 3, none⟩ = some (.slice A2 m2 c2))
          (first | exact HS5.out _ (Below.refl _ _) | exact HS5.out _ (by assumption) | exact ⟨keep_set hneq.1 g0.1, keep_set hneF g0.2.1, keep_set hneF g0.2.2.1, keep_set hneF g0.2.2.2.1, keep_set hneF g0.2.2.2.2⟩)
          (first | (go_at_call 21; refine He.out.mono ?_; rintro e w5 ⟨v, rfl, hown5, hb5⟩; obtain ⟨A5, c5, rfl, _, _, _, _⟩ := EL.of_own hown5; have g0 := HS5.out w5 hb5; have u5 := (hb5.cell (p := ⟨OF, k, none⟩) HlF5.out).trans Hu5.out; have f5 := (hb5.frozen (p := ⟨OF, k, none⟩) HlF5.out).trans Hf5.out))
        have hbw5 : Below wr.heap.size wr w5 := HX.out.trans (hb5.mono (Nat.le_of_succ_le HXs.out))
        have hl5 : (edgC n c k).length ≤ 9 := by
          have := Hcon.out.al
          simp [edgC]
          omega
        have hb6 := ((Hb.out.below hbw5).store (v := .slice A5 (edgC n c k).length c5) hlk (by rw [Hfo.out]; exact own_lower hown5 (by have := HXs.out; omega)) (fun u hu g hg h9 => by
          have h1 := (hown5.lt g hg).1
          have h2 := ((Hb.out.o u hu).2.lt g h9).2
          have := HXs.out
          omega))
        have hv6 : (fun i => if i = k then (.slice A5 (edgC n c k).length c5 : Value) else vf i) k = .slice A5 (edgC n c k).length c5 := if_pos rfl
        generalize (fun i => if i = k then (.slice A5 (edgC n c k).length c5 : Value) else vf i) = vf6 at hb6 hv6
        generalize w5.setCell ⟨OF, k, none⟩ (.slice A5 (edgC n c k).length c5) = w6 at hb6 ⊢
        have t0 := (Hsc.out w6 hb6.hS).1
        have t1 := (hb6.f k (by omega)).1
        rw [hv6] at t1
        have Hb6 := Lib.hid hb6
        have Hfol : Hid ((foC n cs k).length = (edgC n c k).length) := by rw [Hid, Hfo.out]
        have Hok := Lib.hid (Hcon.out.ok (k := k))
        rw [← Hfo.out] at Hok
        generalize (edgC n c k).length = m5 at *
        clear u5 f5 g0 hb5 hbw5 hb6 hown5 He Hb HS5 HX HXs Hu5 Hf5 HlF5 p1 p2 p1w p2w hu0 hfz s0 hneF lS lF hfive hneq hbw hszr hBr
        clear Hcon
        go_wp2_with fail
        go_loopw [51] (fun i wx => ∃ j : Nat, j ≤ m5 ∧ i = .int .i64 j ∧ ∃ va, Hid (BG B w wx S OF OU ON V K (n + 1) oS oB oV (foC n cs) (esC n cs k ++ (foC n cs k).take j) vf6 va (k + 1))) (fun i _ => m5 - (intOf i).toNat)
        case atStart => exact ⟨0, Nat.zero_le _, rfl, va, by rw [Hid, List.take_zero, List.append_nil]; exact Hb6.out⟩
        case round =>
          obtain ⟨j, hj, rfl, va, Hb⟩ := hrel
          by_cases hlj : j < m5
          · have hji : (j : Int) < (m5 : Int) := by omega
            have hown := (Hb.out.f k (by omega)).2
            rw [hv6, ← Hfol.out] at hown
            have hel := (own_el hown).2
            rw [Hfol.out] at hel
            obtain ⟨b5, off5, e, rfl, hbl5, hee, y0, y1, y2, y3⟩ := hel.at_ hlj
            have Hx := Lib.hid hee
            have hef := (Hok.out e (List.mem_of_getElem? hee)).1
            have Hef := Lib.hid hef
            have hfi : (e.f : Int) < (n : Int) + 1 := by omega
            have hfi0 : (0 : Int) ≤ (e.f : Int) := by omega
            have hfive := Hb.out.five
            have hneq := Hb.out.ne
            have hBr := Hb.out.size
            have lS : S < wr.heap.size := by omega
            have lU : OU < wr.heap.size := by omega
            have hneU : wr.heap.size ≠ OU := by omega
            have sU := (Hsc.out wr Hb.out.hS).2.1
            obtain ⟨vv, hvv⟩ : ∃ vv, va e.f = vv := ⟨_, rfl⟩
            have uw := (Hb.out.o e.f hef).1
            have ow := (Hb.out.o e.f hef).2
            have fw := (Hb.out.fz e.f).2
            rw [hvv] at uw ow
            have Hvv := Lib.hid hvv
            have hll : (outE (esC n cs k ++ (foC n cs k).take j) e.f).length ≤ 1000000 := by
              have h1 := outE_le (esC n cs k ++ (foC n cs k).take j) e.f
              have h2 := esC_len hcs k
              rw [List.length_append, List.length_take] at h1
              have h3 := Hfol.out
              omega
            have hSx : ∀ w', Below (wr.heap.size + 1) (wr.alloc (.cells #[.int .i64 e.f, .int .i64 e.t, .int .i64 e.b, .int .i64 e.k] 68)) w' → (fun w' => w'.cell? ⟨S, 1, none⟩ = some (.slice (some ⟨OU, 0, none⟩) (n + 1) (n + 1)) ∧ w'.cell? ⟨wr.heap.size, 0, none⟩ = some (.int .i64 e.f) ∧ w'.cell? ⟨wr.heap.size, 1, none⟩ = some (.int .i64 e.t) ∧ w'.cell? ⟨wr.heap.size, 2, none⟩ = some (.int .i64 e.b) ∧ w'.cell? ⟨wr.heap.size, 3, none⟩ = some (.int .i64 e.k)) w' := fun w' hb => by
              obtain ⟨d0, d1, d2, d3, _⟩ := box4 hb
              exact ⟨((((Below.refl _ wr).alloc (Nat.le_refl _) _).trans (hb.mono (by omega))).cell (p := ⟨S, 1, none⟩) lS).trans sU, d0, d1, d2, d3⟩
            have HSx := Lib.hid hSx
            have hbD : Below wr.heap.size wr (((wr.alloc (.cells #[.int .i64 e.f, .int .i64 e.t, .int .i64 e.b, .int .i64 e.k] 68)).alloc (.cells #[.int .i64 e.f, .int .i64 e.t, .int .i64 e.b, .int .i64 e.k] 68)).drew) := (((Below.refl _ _).alloc (Nat.le_refl _) _).alloc (by simp) _).drew
            have hbX : Below (wr.heap.size + 1) (wr.alloc (.cells #[.int .i64 e.f, .int .i64 e.t, .int .i64 e.b, .int .i64 e.k] 68)) (((wr.alloc (.cells #[.int .i64 e.f, .int .i64 e.t, .int .i64 e.b, .int .i64 e.k] 68)).alloc (.cells #[.int .i64 e.f, .int .i64 e.t, .int .i64 e.b, .int .i64 e.k] 68)).drew) := ((Below.refl _ _).alloc (by simp) _).drew
            have hD : (((wr.alloc (.cells #[.int .i64 e.f, .int .i64 e.t, .int .i64 e.b, .int .i64 e.k] 68)).alloc (.cells #[.int .i64 e.f, .int .i64 e.t, .int .i64 e.b, .int .i64 e.k] 68)).drew).heap[wr.heap.size + 1]? = some (.cells #[.int .i64 e.f, .int .i64 e.t, .int .i64 e.b, .int .i64 e.k] 68) := heap_alloc2 _ _ _
            have hDs : wr.heap.size + 2 ≤ (((wr.alloc (.cells #[.int .i64 e.f, .int .i64 e.t, .int .i64 e.b, .int .i64 e.k] 68)).alloc (.cells #[.int .i64 e.f, .int .i64 e.t, .int .i64 e.b, .int .i64 e.k] 68)).drew).heap.size := by show wr.heap.size + 2 ≤ ((wr.alloc _).alloc _).heap.size; simp
            have HD := Lib.hid hD
            have HbD := Lib.hid hbD
            have HbX := Lib.hid hbX
            have HDs := Lib.hid hDs
            have Hfw := Lib.hid fw
            have HlU := Lib.hid lU
            clear hee hef hvv hSx hbD hbX hD hDs ow fw hel hown sU
            go_wp2_with fail
            clear y0 y1 y2 y3
            refine wp_region_held_drew (S := fun w' => w'.cell? ⟨S, 1, none⟩ = some (.slice (some ⟨OU, 0, none⟩) (n + 1) (n + 1)) ∧ w'.cell? ⟨wr.heap.size, 0, none⟩ = some (.int .i64 e.f) ∧ w'.cell? ⟨wr.heap.size, 1, none⟩ = some (.int .i64 e.t) ∧ w'.cell? ⟨wr.heap.size, 2, none⟩ = some (.int .i64 e.b) ∧ w'.cell? ⟨wr.heap.size, 3, none⟩ = some (.int .i64 e.k)) (by kernel_rfl) (HSx.out _ (Below.refl _ _).drew) (fun hHeld => ?_)
            refine wpAnyH_take (i := 0) (oi := { dst := some 55, op := Op.move (Operand.tmp 5), type := 48, pos := "search.go:36", after := #[], guard := none }) (v := ?_) rfl (by kernel_rfl) (by kernel_rfl) (by kernel_rfl) (fun _ _ _ h => h) (Or.inl ⟨by rfl, ?_⟩) (by assumption) ?_
            rotate_left
            · (intro w hSw; (try dsimp only at hSw); go_simp; try with_reducible rfl)
            try simp only [Act.put, List.setIfInBounds_toArray, List.set_cons_zero, List.set_cons_succ]
            refine wpAnyH_take (i := 1) (oi := { dst := some 56, op := Op.nilCheck (Operand.tmp 55), type := 0, pos := "search.go:36", after := #[{ on := 0, ground := Ground.data }], guard := none }) (v := ?_) rfl (by kernel_rfl) (by kernel_rfl) (by kernel_rfl) (fun _ _ _ h => h) (Or.inl ⟨by rfl, ?_⟩) (by assumption) ?_
            rotate_left
            · (intro w hSw; (try dsimp only at hSw); go_simp; try with_reducible rfl)
            try simp only [Act.put, List.setIfInBounds_toArray, List.set_cons_zero, List.set_cons_succ]
            refine wpAnyH_take (i := 2) (oi := { dst := some 57, op := Op.fieldAddr 57 (Operand.tmp 56) 1, type := 0, pos := "search.go:36", after := #[{ on := 1, ground := Ground.data }], guard := none }) (v := ?_) rfl (by kernel_rfl) (by kernel_rfl) (by kernel_rfl) (fun _ _ _ h => h) (Or.inl ⟨by rfl, ?_⟩) (by assumption) ?_
            rotate_left
            · (intro w hSw; (try dsimp only at hSw); go_simp; try with_reducible rfl)
            try simp only [Act.put, List.setIfInBounds_toArray, List.set_cons_zero, List.set_cons_succ]
            refine wpAnyH_take (i := 3) (oi := { dst := some 58, op := Op.load 54 (Operand.tmp 57), type := 54, pos := "search.go:36", after := #[{ on := 2, ground := Ground.data }], guard := none }) (v := ?_) rfl (by kernel_rfl) (by kernel_rfl) (by kernel_rfl) (fun _ _ _ h => h) (Or.inl ⟨by rfl, ?_⟩) (by assumption) ?_
            rotate_left
            · (intro w hSw; (try dsimp only at hSw); go_simp; try with_reducible rfl)
            try simp only [Act.put, List.setIfInBounds_toArray, List.set_cons_zero, List.set_cons_succ]
            refine wpAnyH_take (i := 4) (oi := { dst := some 59, op := Op.fieldAddr 68 (Operand.tmp 9) 0, type := 0, pos := "search.go:36", after := #[], guard := none }) (v := ?_) rfl (by kernel_rfl) (by kernel_rfl) (by kernel_rfl) (fun _ _ _ h => h) (Or.inl ⟨by rfl, ?_⟩) (by assumption) ?_
            rotate_left
            · (intro w hSw; (try dsimp only at hSw); go_simp; try with_reducible rfl)
            try simp only [Act.put, List.setIfInBounds_toArray, List.set_cons_zero, List.set_cons_succ]
            refine wpAnyH_take (i := 5) (oi := { dst := some 60, op := Op.load 3 (Operand.tmp 59), type := 3, pos := "search.go:36", after := #[{ on := 4, ground := Ground.data }], guard := none }) (v := ?_) rfl (by kernel_rfl) (by kernel_rfl) (by kernel_rfl) (fun _ _ _ h => h) (Or.inl ⟨by rfl, ?_⟩) (by assumption) ?_
            rotate_left
            · (intro w hSw; (try dsimp only at hSw); go_simp; try with_reducible rfl)
            try simp only [Act.put, List.setIfInBounds_toArray, List.set_cons_zero, List.set_cons_succ]
            refine wpAnyH_take (i := 6) (oi := { dst := some 61, op := Op.move (Operand.tmp 5), type := 48, pos := "search.go:36", after := #[], guard := none }) (v := ?_) rfl (by kernel_rfl) (by kernel_rfl) (by kernel_rfl) (fun _ _ _ h => h) (Or.inl ⟨by rfl, ?_⟩) (by assumption) ?_
            rotate_left
            · (intro w hSw; (try dsimp only at hSw); go_simp; try with_reducible rfl)
            try simp only [Act.put, List.setIfInBounds_toArray, List.set_cons_zero, List.set_cons_succ]
            refine wpAnyH_take (i := 7) (oi := { dst := some 62, op := Op.nilCheck (Operand.tmp 61), type := 0, pos := "search.go:36", after := #[{ on := 6, ground := Ground.data }], guard := none }) (v := ?_) rfl (by kernel_rfl) (by kernel_rfl) (by kernel_rfl) (fun _ _ _ h => h) (Or.inl ⟨by rfl, ?_⟩) (by assumption) ?_
            rotate_left
            · (intro w hSw; (try dsimp only at hSw); go_simp; try with_reducible rfl)
            try simp only [Act.put, List.setIfInBounds_toArray, List.set_cons_zero, List.set_cons_succ]
            refine wpAnyH_take (i := 8) (oi := { dst := some 63, op := Op.fieldAddr 57 (Operand.tmp 62) 1, type := 0, pos := "search.go:36", after := #[{ on := 7, ground := Ground.data }], guard := none }) (v := ?_) rfl (by kernel_rfl) (by kernel_rfl) (by kernel_rfl) (fun _ _ _ h => h) (Or.inl ⟨by rfl, ?_⟩) (by assumption) ?_
            rotate_left
            · (intro w hSw; (try dsimp only at hSw); go_simp; try with_reducible rfl)
            try simp only [Act.put, List.setIfInBounds_toArray, List.set_cons_zero, List.set_cons_succ]
            refine wpAnyH_take (i := 9) (oi := { dst := some 64, op := Op.load 54 (Operand.tmp 63), type := 54, pos := "search.go:36", after := #[{ on := 8, ground := Ground.data }], guard := none }) (v := ?_) rfl (by kernel_rfl) (by kernel_rfl) (by kernel_rfl) (fun _ _ _ h => h) (Or.inl ⟨by rfl, ?_⟩) (by assumption) ?_
            rotate_left
            · (intro w hSw; (try dsimp only at hSw); go_simp; try with_reducible rfl)
            try simp only [Act.put, List.setIfInBounds_toArray, List.set_cons_zero, List.set_cons_succ]
            refine wpAnyH_take (i := 10) (oi := { dst := some 65, op := Op.fieldAddr 68 (Operand.tmp 9) 0, type := 0, pos := "search.go:36", after := #[], guard := none }) (v := ?_) rfl (by kernel_rfl) (by kernel_rfl) (by kernel_rfl) (fun _ _ _ h => h) (Or.inl ⟨by rfl, ?_⟩) (by assumption) ?_
            rotate_left
            · (intro w hSw; (try dsimp only at hSw); go_simp; try with_reducible rfl)
            try simp only [Act.put, List.setIfInBounds_toArray, List.set_cons_zero, List.set_cons_succ]
            refine wpAnyH_take (i := 11) (oi := { dst := some 66, op := Op.load 3 (Operand.tmp 65), type := 3, pos := "search.go:36", after := #[{ on := 10, ground := Ground.data }], guard := none }) (v := ?_) rfl (by kernel_rfl) (by kernel_rfl) (by kernel_rfl) (fun _ _ _ h => h) (Or.inl ⟨by rfl, ?_⟩) (by assumption) ?_
            rotate_left
            · (intro w hSw; (try dsimp only at hSw); go_simp; try with_reducible rfl)
            try simp only [Act.put, List.setIfInBounds_toArray, List.set_cons_zero, List.set_cons_succ]
            refine wpAnyH_take (i := 12) (oi := { dst := some 67, op := Op.indexAddr 54 (Operand.tmp 64) (Operand.tmp 66), type := 0, pos := "search.go:36", after := #[{ on := 9, ground := Ground.data }, { on := 11, ground := Ground.data }], guard := none }) (v := ?_) rfl (by kernel_rfl) (by kernel_rfl) (by kernel_rfl) (fun _ _ _ h => h) (Or.inl ⟨by rfl, ?_⟩) (by assumption) ?_
            rotate_left
            · (intro w hSw; (try dsimp only at hSw); go_simp; try with_reducible rfl)
            try simp only [Act.put, List.setIfInBounds_toArray, List.set_cons_zero, List.set_cons_succ]
            refine wpAnyH_take (i := 14) (oi := { dst := some 69, op := Op.load 68 (Operand.tmp 9), type := 68, pos := "search.go:36", after := #[], guard := none }) (v := ?_) rfl (by kernel_rfl) (by kernel_rfl) (by kernel_rfl) (fun _ _ _ h => h) (Or.inl ⟨by rfl, ?_⟩) (by assumption) ?_
            rotate_left
            · (intro w hSw; (try dsimp only at hSw); go_simp; try with_reducible rfl)
            try simp only [Act.put, List.setIfInBounds_toArray, List.set_cons_zero, List.set_cons_succ]
            refine wpAnyH_ready (rs := [13, 15]) (by kernel_rfl) (by simp) (AllReadyH.cons rfl (fun K hK => ?_) (AllReadyH.cons rfl (fun K hK => ?_) AllReadyH.nil))
            · go_simp
              refine hK.out _ _ (HSx.out _ (Below.refl _ _).drew) (fun hHeld => ?_)
              clear hK K
              try simp only [Act.put, List.setIfInBounds_toArray, List.set_cons_zero, List.set_cons_succ]
              refine wpAnyH_ready (rs := [15]) (by kernel_rfl) (by simp) (AllReadyH.cons rfl (fun K hK => ?_) AllReadyH.nil)
              go_simp
              refine hK.out _ _ (HSx.out _ HbX.out) (fun hHeld => ?_)
              clear hK K
              try simp only [Act.put, List.setIfInBounds_toArray, List.set_cons_zero, List.set_cons_succ]
              refine wpAnyH_ready (rs := [16]) (by kernel_rfl) (by simp) (AllReadyH.cons rfl (fun K hK => ?_) AllReadyH.nil)
              refine step_append_lies _ rfl (.tmp 68) (.tmp 70) 65 rfl B 68 e0 (.agg #[.int .i64 0, .int .i64 0, .int .i64 0, .int .i64 0]) 4 32 Try.underlying65 hie hez0 hez1 hez2 rfl (by decide) vv _ (flat4 (outE (esC n cs k ++ (foC n cs k).take j) e.f)) rfl (by rw [← Hvv.out]; exact ((Hb.out.below HbD.out).o e.f Hef.out).2) ⟨wr.heap.size + 1, 0, none⟩ 1 1 [.int .i64 e.f, .int .i64 e.t, .int .i64 e.b, .int .i64 e.k] rfl rfl (World.news_of_block HD.out) news4_one (by decide) (by unfold maxLen; omega) (by omega) (by have := HDs.out; omega) _ rfl ?_
              intro g cap5 w7 hown7 hgrow7 hblk7 hlt7
              have hrow : ∀ b, b < wr.heap.size → (b < B ∨ b = wr.heap.size) → vv.ownBlock ≠ some b := fun b h1 h2 h3 => by
                rw [← Hvv.out] at h3
                have := ((Hb.out.o e.f Hef.out).2.lt b h3).1
                omega
              have hrowX : vv.ownBlock ≠ some wr.heap.size := fun h3 => by
                rw [← Hvv.out] at h3
                have := ((Hb.out.o e.f Hef.out).2.lt _ h3).2
                omega
              have hc7 : ∀ b i, (b < B ∨ b = wr.heap.size) → w7.cell? ⟨b, i, none⟩ = (((wr.alloc (.cells #[.int .i64 e.f, .int .i64 e.t, .int .i64 e.b, .int .i64 e.k] 68)).alloc (.cells #[.int .i64 e.f, .int .i64 e.t, .int .i64 e.b, .int .i64 e.k] 68)).drew).cell? ⟨b, i, none⟩ := fun b i hb => hgrow7.cell_far ⟨b, i, none⟩ (show b < _ by have := HDs.out; omega) (fun h9 => by
                rcases hb with hb | hb
                · exact hrow b (by omega) (.inl hb) h9.symm
                · rw [hb] at h9; exact hrowX h9.symm)
              have hS7 : (fun w' => w'.cell? ⟨S, 1, none⟩ = some (.slice (some ⟨OU, 0, none⟩) (n + 1) (n + 1)) ∧ w'.cell? ⟨wr.heap.size, 0, none⟩ = some (.int .i64 e.f) ∧ w'.cell? ⟨wr.heap.size, 1, none⟩ = some (.int .i64 e.t) ∧ w'.cell? ⟨wr.heap.size, 2, none⟩ = some (.int .i64 e.b) ∧ w'.cell? ⟨wr.heap.size, 3, none⟩ = some (.int .i64 e.k)) w7 := by
                have h9 := HSx.out _ HbX.out
                exact ⟨(hc7 S 1 (.inl hfive.1)).trans h9.1, (hc7 _ 0 (.inr rfl)).trans h9.2.1, (hc7 _ 1 (.inr rfl)).trans h9.2.2.1, (hc7 _ 2 (.inr rfl)).trans h9.2.2.2.1, (hc7 _ 3 (.inr rfl)).trans h9.2.2.2.2⟩
              have u7 : w7.cell? ⟨OU, e.f, none⟩ = some vv := (hc7 OU e.f (.inl hfive.2.2.1)).trans ((HbD.out.cell (p := ⟨OU, e.f, none⟩) HlU.out).trans uw)
              have f7 : w7.frozen? ⟨OU, e.f, none⟩ = false := (hgrow7.frozen_far ⟨OU, e.f, none⟩ (show OU < _ by have := HDs.out; omega) (fun h9 => hrow OU HlU.out (.inl hfive.2.2.1) h9.symm)).trans ((HbD.out.frozen (p := ⟨OU, e.f, none⟩) HlU.out).trans Hfw.out)
              have hS7b : ∀ v, (fun w' => w'.cell? ⟨S, 1, none⟩ = some (.slice (some ⟨OU, 0, none⟩) (n + 1) (n + 1)) ∧ w'.cell? ⟨wr.heap.size, 0, none⟩ = some (.int .i64 e.f) ∧ w'.cell? ⟨wr.heap.size, 1, none⟩ = some (.int .i64 e.t) ∧ w'.cell? ⟨wr.heap.size, 2, none⟩ = some (.int .i64 e.b) ∧ w'.cell? ⟨wr.heap.size, 3, none⟩ = some (.int .i64 e.k)) (w7.setCell ⟨OU, e.f, none⟩ v) := fun v => ⟨keep_set hneq.2.1 hS7.1, keep_set hneU hS7.2.1, keep_set hneU hS7.2.2.1, keep_set hneU hS7.2.2.2.1, keep_set hneU hS7.2.2.2.2⟩
              have happ := (Hb.out.below HbD.out).app (e := e) (w' := w7) (v5 := .slice (some ⟨g, 0, none⟩) ((outE (esC n cs k ++ (foC n cs k).take j) e.f).length + 1) cap5) Hef.out (by rw [Hvv.out]; exact hgrow7) (by
                rw [List.length_append, flat4_app, flat4_one]
                exact hown7) (by rw [Hvv.out]; exact hblk7.imp id (fun h => by rw [h]; rfl))
              have Happ := Lib.hid happ
              have HS7 := Lib.hid hS7
              have HS7b := Lib.hid hS7b
              clear happ hS7 hS7b hc7 hrow hrowX hown7 hgrow7 hblk7 hlt7
              refine hK.out _ _ HS7.out (fun hHeld => ?_)
              clear hK K
              try simp only [Act.put, List.setIfInBounds_toArray, List.set_cons_zero, List.set_cons_succ]
              refine wpAnyH_ready (rs := [17]) (by kernel_rfl) (by simp) (AllReadyH.cons rfl (fun K hK => ?_) AllReadyH.nil)
              go_simp
              refine hK.out _ _ HS7.out (fun hHeld => ?_)
              clear hK K
              try simp only [Act.put, List.setIfInBounds_toArray, List.set_cons_zero, List.set_cons_succ]
              refine wpAnyH_ready (rs := [18]) (by kernel_rfl) (by simp) (AllReadyH.cons rfl (fun K hK => ?_) AllReadyH.nil)
              go_simp
              refine hK.out _ _ (HS7b.out _) (fun hHeld => ?_)
              clear hK K
              try simp only [Act.put, List.setIfInBounds_toArray, List.set_cons_zero, List.set_cons_succ]
              refine wpAnyH_done (by kernel_rfl) ?_ _
              have hbg9 : ∃ va, Hid (BG B w (w7.setCell ⟨OU, e.f, none⟩ (.slice (some ⟨g, 0, none⟩) ((outE (esC n cs k ++ (foC n cs k).take j) e.f).length + 1) cap5)) S OF OU ON V K (n + 1) oS oB oV (foC n cs) (esC n cs k ++ (foC n cs k).take (j + 1)) vf6 va (k + 1)) := ⟨_, by rw [Hid, take_snoc Hx.out, ← List.append_assoc]; exact Happ.out⟩
              have Hbg9 := Lib.hid hbg9
              clear hbg9 Happ u7 f7 uw
              go_wp2_with fail
              go_roundw
              case rel => exact ⟨j + 1, by omega, by go_num, Hbg9.out⟩
              case measure => simp [intOf]; omega
            · go_simp
              refine hK.out _ _ (HSx.out _ HbX.out) (fun hHeld => ?_)
              clear hK K
              try simp only [Act.put, List.setIfInBounds_toArray, List.set_cons_zero, List.set_cons_succ]
              refine wpAnyH_ready (rs := [13]) (by kernel_rfl) (by simp) (AllReadyH.cons rfl (fun K hK => ?_) AllReadyH.nil)
              go_simp
              refine hK.out _ _ (HSx.out _ HbX.out) (fun hHeld => ?_)
              clear hK K
              try simp only [Act.put, List.setIfInBounds_toArray, List.set_cons_zero, List.set_cons_succ]
              refine wpAnyH_ready (rs := [16]) (by kernel_rfl) (by simp) (AllReadyH.cons rfl (fun K hK => ?_) AllReadyH.nil)
              refine step_append_lies _ rfl (.tmp 68) (.tmp 70) 65 rfl B 68 e0 (.agg #[.int .i64 0, .int .i64 0, .int .i64 0, .int .i64 0]) 4 32 Try.underlying65 hie hez0 hez1 hez2 rfl (by decide) vv _ (flat4 (outE (esC n cs k ++ (foC n cs k).take j) e.f)) rfl (by rw [← Hvv.out]; exact ((Hb.out.below HbD.out).o e.f Hef.out).2) ⟨wr.heap.size + 1, 0, none⟩ 1 1 [.int .i64 e.f, .int .i64 e.t, .int .i64 e.b, .int .i64 e.k] rfl rfl (World.news_of_block HD.out) news4_one (by decide) (by unfold maxLen; omega) (by omega) (by have := HDs.out; omega) _ rfl ?_
              intro g cap5 w7 hown7 hgrow7 hblk7 hlt7
              have hrow : ∀ b, b < wr.heap.size → (b < B ∨ b = wr.heap.size) → vv.ownBlock ≠ some b := fun b h1 h2 h3 => by
                rw [← Hvv.out] at h3
                have := ((Hb.out.o e.f Hef.out).2.lt b h3).1
                omega
              have hrowX : vv.ownBlock ≠ some wr.heap.size := fun h3 => by
                rw [← Hvv.out] at h3
                have := ((Hb.out.o e.f Hef.out).2.lt _ h3).2
                omega
              have hc7 : ∀ b i, (b < B ∨ b = wr.heap.size) → w7.cell? ⟨b, i, none⟩ = (((wr.alloc (.cells #[.int .i64 e.f, .int .i64 e.t, .int .i64 e.b, .int .i64 e.k] 68)).alloc (.cells #[.int .i64 e.f, .int .i64 e.t, .int .i64 e.b, .int .i64 e.k] 68)).drew).cell? ⟨b, i, none⟩ := fun b i hb => hgrow7.cell_far ⟨b, i, none⟩ (show b < _ by have := HDs.out; omega) (fun h9 => by
                rcases hb with hb | hb
                · exact hrow b (by omega) (.inl hb) h9.symm
                · rw [hb] at h9; exact hrowX h9.symm)
              have hS7 : (fun w' => w'.cell? ⟨S, 1, none⟩ = some (.slice (some ⟨OU, 0, none⟩) (n + 1) (n + 1)) ∧ w'.cell? ⟨wr.heap.size, 0, none⟩ = some (.int .i64 e.f) ∧ w'.cell? ⟨wr.heap.size, 1, none⟩ = some (.int .i64 e.t) ∧ w'.cell? ⟨wr.heap.size, 2, none⟩ = some (.int .i64 e.b) ∧ w'.cell? ⟨wr.heap.size, 3, none⟩ = some (.int .i64 e.k)) w7 := by
                have h9 := HSx.out _ HbX.out
                exact ⟨(hc7 S 1 (.inl hfive.1)).trans h9.1, (hc7 _ 0 (.inr rfl)).trans h9.2.1, (hc7 _ 1 (.inr rfl)).trans h9.2.2.1, (hc7 _ 2 (.inr rfl)).trans h9.2.2.2.1, (hc7 _ 3 (.inr rfl)).trans h9.2.2.2.2⟩
              have u7 : w7.cell? ⟨OU, e.f, none⟩ = some vv := (hc7 OU e.f (.inl hfive.2.2.1)).trans ((HbD.out.cell (p := ⟨OU, e.f, none⟩) HlU.out).trans uw)
              have f7 : w7.frozen? ⟨OU, e.f, none⟩ = false := (hgrow7.frozen_far ⟨OU, e.f, none⟩ (show OU < _ by have := HDs.out; omega) (fun h9 => hrow OU HlU.out (.inl hfive.2.2.1) h9.symm)).trans ((HbD.out.frozen (p := ⟨OU, e.f, none⟩) HlU.out).trans Hfw.out)
              have hS7b : ∀ v, (fun w' => w'.cell? ⟨S, 1, none⟩ = some (.slice (some ⟨OU, 0, none⟩) (n + 1) (n + 1)) ∧ w'.cell? ⟨wr.heap.size, 0, none⟩ = some (.int .i64 e.f) ∧ w'.cell? ⟨wr.heap.size, 1, none⟩ = some (.int .i64 e.t) ∧ w'.cell? ⟨wr.heap.size, 2, none⟩ = some (.int .i64 e.b) ∧ w'.cell? ⟨wr.heap.size, 3, none⟩ = some (.int .i64 e.k)) (w7.setCell ⟨OU, e.f, none⟩ v) := fun v => ⟨keep_set hneq.2.1 hS7.1, keep_set hneU hS7.2.1, keep_set hneU hS7.2.2.1, keep_set hneU hS7.2.2.2.1, keep_set hneU hS7.2.2.2.2⟩
              have happ := (Hb.out.below HbD.out).app (e := e) (w' := w7) (v5 := .slice (some ⟨g, 0, none⟩) ((outE (esC n cs k ++ (foC n cs k).take j) e.f).length + 1) cap5) Hef.out (by rw [Hvv.out]; exact hgrow7) (by
                rw [List.length_append, flat4_app, flat4_one]
                exact hown7) (by rw [Hvv.out]; exact hblk7.imp id (fun h => by rw [h]; rfl))
              have Happ := Lib.hid happ
              have HS7 := Lib.hid hS7
              have HS7b := Lib.hid hS7b
              clear happ hS7 hS7b hc7 hrow hrowX hown7 hgrow7 hblk7 hlt7
              refine hK.out _ _ HS7.out (fun hHeld => ?_)
              clear hK K
              try simp only [Act.put, List.setIfInBounds_toArray, List.set_cons_zero, List.set_cons_succ]
              refine wpAnyH_ready (rs := [17]) (by kernel_rfl) (by simp) (AllReadyH.cons rfl (fun K hK => ?_) AllReadyH.nil)
              go_simp
              refine hK.out _ _ HS7.out (fun hHeld => ?_)
              clear hK K
              try simp only [Act.put, List.setIfInBounds_toArray, List.set_cons_zero, List.set_cons_succ]
              refine wpAnyH_ready (rs := [18]) (by kernel_rfl) (by simp) (AllReadyH.cons rfl (fun K hK => ?_) AllReadyH.nil)
              go_simp
              refine hK.out _ _ (HS7b.out _) (fun hHeld => ?_)
              clear hK K
              try simp only [Act.put, List.setIfInBounds_toArray, List.set_cons_zero, List.set_cons_succ]
              refine wpAnyH_done (by kernel_rfl) ?_ _
              have hbg9 : ∃ va, Hid (BG B w (w7.setCell ⟨OU, e.f, none⟩ (.slice (some ⟨g, 0, none⟩) ((outE (esC n cs k ++ (foC n cs k).take j) e.f).length + 1) cap5)) S OF OU ON V K (n + 1) oS oB oV (foC n cs) (esC n cs k ++ (foC n cs k).take (j + 1)) vf6 va (k + 1)) := ⟨_, by rw [Hid, take_snoc Hx.out, ← List.append_assoc]; exact Happ.out⟩
              have Hbg9 := Lib.hid hbg9
              clear hbg9 Happ u7 f7 uw
              go_wp2_with fail
              go_roundw
              case rel => exact ⟨j + 1, by omega, by go_num, Hbg9.out⟩
              case measure => simp [intOf]; omega
          · have hjm : j = m5 := by omega
            subst hjm
            have hji : ¬ (j : Int) < (j : Int) := by omega
            have hbg9 : ∃ vf va, Hid (BG B w wr S OF OU ON V K (n + 1) oS oB oV (foC n cs) (esC n cs (k + 1)) vf va (k + 1)) := ⟨vf6, va, by
              have h9 := Hb.out
              rw [List.take_of_length_le (by rw [Hfol.out]; exact Nat.le_refl _)] at h9
              exact h9⟩
            have Hbg9 := Lib.hid hbg9
            clear hbg9
            go_wp2_with fail
            go_roundw
            case rel => exact ⟨k + 1, by omega, by go_num, Hbg9.out⟩
            case measure => simp [intOf]; omega
      · have hkK : k = K := by omega
        subst hkK
        have hki : ¬ (k : Int) < (k : Int) := by omega
        have Hbb := Hb
        clear hbw hszr hBr
        go_wp2_with fail
        go_loopw [76] (fun i wx => ∃ j : Nat, j ≤ n ∧ i = .int .i64 j ∧ ∃ va, Hid (BG B w wx S OF OU ON V k (n + 1) oS oB oV (foC n cs) (esC n cs k ++ zeC n k j) vf va k)) (fun i _ => n - (intOf i).toNat)
        case atStart => exact ⟨0, Nat.zero_le _, rfl, va, by rw [Hid, show zeC n k 0 = [] from rfl, List.append_nil]; exact Hbb.out⟩
        case round =>
          obtain ⟨j, hj, rfl, va, Hb⟩ := hrel
          by_cases hlj : j < n
          · have hji : (j : Int) < (n : Int) := by omega
            have hni : (n : Int) < (n : Int) + 1 := by omega
            have hfive := Hb.out.five
            have hneq := Hb.out.ne
            have hBr := Hb.out.size
            have lS : S < wr.heap.size := by omega
            have lU : OU < wr.heap.size := by omega
            have hnn : n < n + 1 := Nat.lt_succ_self n
            have sU := (Hsc.out wr Hb.out.hS).2.1
            obtain ⟨vv, hvv⟩ : ∃ vv, va n = vv := ⟨_, rfl⟩
            have uw := (Hb.out.o n hnn).1
            have fw := (Hb.out.fz n).2
            rw [hvv] at uw
            have Hvv := Lib.hid hvv
            have hll : (outE (esC n cs k ++ zeC n k j) n).length ≤ 1000000 := by
              have h1 := outE_le (esC n cs k ++ zeC n k j) n
              have h2 := esC_len hcs k
              rw [List.length_append, zeC_len] at h1
              omega
            have hbD : Below wr.heap.size wr ((wr.alloc (.cells #[.int .i64 n, .int .i64 j, .int .i64 0, .int .i64 k] 68)).drew) := ((Below.refl _ _).alloc (Nat.le_refl _) _).drew
            have hD : ((wr.alloc (.cells #[.int .i64 n, .int .i64 j, .int .i64 0, .int .i64 k] 68)).drew).heap[wr.heap.size]? = some (.cells #[.int .i64 n, .int .i64 j, .int .i64 0, .int .i64 k] 68) := heap_alloc1 _ _
            have hDs : wr.heap.size + 1 ≤ ((wr.alloc (.cells #[.int .i64 n, .int .i64 j, .int .i64 0, .int .i64 k] 68)).drew).heap.size := by show wr.heap.size + 1 ≤ (wr.alloc _).heap.size; simp
            have hSx : ∀ w', Below wr.heap.size wr w' → (fun w' => w'.cell? ⟨S, 1, none⟩ = some (.slice (some ⟨OU, 0, none⟩) (n + 1) (n + 1))) w' := fun w' hb => (hb.cell (p := ⟨S, 1, none⟩) lS).trans sU
            have HSx := Lib.hid hSx
            have HD := Lib.hid hD
            have HbD := Lib.hid hbD
            have HDs := Lib.hid hDs
            have Hfw := Lib.hid fw
            have HlU := Lib.hid lU
            clear hvv hSx hbD hD hDs fw sU
            go_wp2_with fail
            refine wp_region_held_drew (S := fun w' => w'.cell? ⟨S, 1, none⟩ = some (.slice (some ⟨OU, 0, none⟩) (n + 1) (n + 1))) (by kernel_rfl) (HSx.out _ (Below.refl _ _).drew) (fun hHeld => ?_)
            refine wpAnyH_take (i := 0) (oi := { dst := some 79, op := Op.move (Operand.tmp 5), type := 48, pos := "search.go:40", after := #[], guard := none }) (v := ?_) rfl (by kernel_rfl) (by kernel_rfl) (by kernel_rfl) (fun _ _ _ h => h) (Or.inl ⟨by rfl, ?_⟩) (by assumption) ?_
            rotate_left
            · (intro w hSw; (try dsimp only at hSw); go_simp; try with_reducible rfl)
            try simp only [Act.put, List.setIfInBounds_toArray, List.set_cons_zero, List.set_cons_succ]
            refine wpAnyH_take (i := 1) (oi := { dst := some 80, op := Op.nilCheck (Operand.tmp 79), type := 0, pos := "search.go:40", after := #[{ on := 0, ground := Ground.data }], guard := none }) (v := ?_) rfl (by kernel_rfl) (by kernel_rfl) (by kernel_rfl) (fun _ _ _ h => h) (Or.inl ⟨by rfl, ?_⟩) (by assumption) ?_
            rotate_left
            · (intro w hSw; (try dsimp only at hSw); go_simp; try with_reducible rfl)
            try simp only [Act.put, List.setIfInBounds_toArray, List.set_cons_zero, List.set_cons_succ]
            refine wpAnyH_take (i := 2) (oi := { dst := some 81, op := Op.fieldAddr 57 (Operand.tmp 80) 1, type := 0, pos := "search.go:40", after := #[{ on := 1, ground := Ground.data }], guard := none }) (v := ?_) rfl (by kernel_rfl) (by kernel_rfl) (by kernel_rfl) (fun _ _ _ h => h) (Or.inl ⟨by rfl, ?_⟩) (by assumption) ?_
            rotate_left
            · (intro w hSw; (try dsimp only at hSw); go_simp; try with_reducible rfl)
            try simp only [Act.put, List.setIfInBounds_toArray, List.set_cons_zero, List.set_cons_succ]
            refine wpAnyH_take (i := 3) (oi := { dst := some 82, op := Op.load 54 (Operand.tmp 81), type := 54, pos := "search.go:40", after := #[{ on := 2, ground := Ground.data }], guard := none }) (v := ?_) rfl (by kernel_rfl) (by kernel_rfl) (by kernel_rfl) (fun _ _ _ h => h) (Or.inl ⟨by rfl, ?_⟩) (by assumption) ?_
            rotate_left
            · (intro w hSw; (try dsimp only at hSw); go_simp; try with_reducible rfl)
            try simp only [Act.put, List.setIfInBounds_toArray, List.set_cons_zero, List.set_cons_succ]
            refine wpAnyH_take (i := 4) (oi := { dst := some 83, op := Op.move (Operand.tmp 0), type := 3, pos := "search.go:40", after := #[], guard := none }) (v := ?_) rfl (by kernel_rfl) (by kernel_rfl) (by kernel_rfl) (fun _ _ _ h => h) (Or.inl ⟨by rfl, ?_⟩) (by assumption) ?_
            rotate_left
            · (intro w hSw; (try dsimp only at hSw); go_simp; try with_reducible rfl)
            try simp only [Act.put, List.setIfInBounds_toArray, List.set_cons_zero, List.set_cons_succ]
            refine wpAnyH_take (i := 5) (oi := { dst := some 84, op := Op.move (Operand.tmp 5), type := 48, pos := "search.go:40", after := #[], guard := none }) (v := ?_) rfl (by kernel_rfl) (by kernel_rfl) (by kernel_rfl) (fun _ _ _ h => h) (Or.inl ⟨by rfl, ?_⟩) (by assumption) ?_
            rotate_left
            · (intro w hSw; (try dsimp only at hSw); go_simp; try with_reducible rfl)
            try simp only [Act.put, List.setIfInBounds_toArray, List.set_cons_zero, List.set_cons_succ]
            refine wpAnyH_take (i := 6) (oi := { dst := some 85, op := Op.nilCheck (Operand.tmp 84), type := 0, pos := "search.go:40", after := #[{ on := 5, ground := Ground.data }], guard := none }) (v := ?_) rfl (by kernel_rfl) (by kernel_rfl) (by kernel_rfl) (fun _ _ _ h => h) (Or.inl ⟨by rfl, ?_⟩) (by assumption) ?_
            rotate_left
            · (intro w hSw; (try dsimp only at hSw); go_simp; try with_reducible rfl)
            try simp only [Act.put, List.setIfInBounds_toArray, List.set_cons_zero, List.set_cons_succ]
            refine wpAnyH_take (i := 7) (oi := { dst := some 86, op := Op.fieldAddr 57 (Operand.tmp 85) 1, type := 0, pos := "search.go:40", after := #[{ on := 6, ground := Ground.data }], guard := none }) (v := ?_) rfl (by kernel_rfl) (by kernel_rfl) (by kernel_rfl) (fun _ _ _ h => h) (Or.inl ⟨by rfl, ?_⟩) (by assumption) ?_
            rotate_left
            · (intro w hSw; (try dsimp only at hSw); go_simp; try with_reducible rfl)
            try simp only [Act.put, List.setIfInBounds_toArray, List.set_cons_zero, List.set_cons_succ]
            refine wpAnyH_take (i := 8) (oi := { dst := some 87, op := Op.load 54 (Operand.tmp 86), type := 54, pos := "search.go:40", after := #[{ on := 7, ground := Ground.data }], guard := none }) (v := ?_) rfl (by kernel_rfl) (by kernel_rfl) (by kernel_rfl) (fun _ _ _ h => h) (Or.inl ⟨by rfl, ?_⟩) (by assumption) ?_
            rotate_left
            · (intro w hSw; (try dsimp only at hSw); go_simp; try with_reducible rfl)
            try simp only [Act.put, List.setIfInBounds_toArray, List.set_cons_zero, List.set_cons_succ]
            refine wpAnyH_take (i := 9) (oi := { dst := some 88, op := Op.move (Operand.tmp 0), type := 3, pos := "search.go:40", after := #[], guard := none }) (v := ?_) rfl (by kernel_rfl) (by kernel_rfl) (by kernel_rfl) (fun _ _ _ h => h) (Or.inl ⟨by rfl, ?_⟩) (by assumption) ?_
            rotate_left
            · (intro w hSw; (try dsimp only at hSw); go_simp; try with_reducible rfl)
            try simp only [Act.put, List.setIfInBounds_toArray, List.set_cons_zero, List.set_cons_succ]
            refine wpAnyH_take (i := 10) (oi := { dst := some 89, op := Op.indexAddr 54 (Operand.tmp 87) (Operand.tmp 88), type := 0, pos := "search.go:40", after := #[{ on := 8, ground := Ground.data }, { on := 9, ground := Ground.data }], guard := none }) (v := ?_) rfl (by kernel_rfl) (by kernel_rfl) (by kernel_rfl) (fun _ _ _ h => h) (Or.inl ⟨by rfl, ?_⟩) (by assumption) ?_
            rotate_left
            · (intro w hSw; (try dsimp only at hSw); go_simp; try with_reducible rfl)
            try simp only [Act.put, List.setIfInBounds_toArray, List.set_cons_zero, List.set_cons_succ]
            refine wpAnyH_take (i := 12) (oi := { dst := some 91, op := Op.move (Operand.tmp 0), type := 3, pos := "search.go:40", after := #[], guard := none }) (v := ?_) rfl (by kernel_rfl) (by kernel_rfl) (by kernel_rfl) (fun _ _ _ h => h) (Or.inl ⟨by rfl, ?_⟩) (by assumption) ?_
            rotate_left
            · (intro w hSw; (try dsimp only at hSw); go_simp; try with_reducible rfl)
            try simp only [Act.put, List.setIfInBounds_toArray, List.set_cons_zero, List.set_cons_succ]
            refine wpAnyH_take (i := 13) (oi := { dst := some 92, op := Op.move (Operand.tmp 10), type := 3, pos := "search.go:40", after := #[], guard := none }) (v := ?_) rfl (by kernel_rfl) (by kernel_rfl) (by kernel_rfl) (fun _ _ _ h => h) (Or.inl ⟨by rfl, ?_⟩) (by assumption) ?_
            rotate_left
            · (intro w hSw; (try dsimp only at hSw); go_simp; try with_reducible rfl)
            try simp only [Act.put, List.setIfInBounds_toArray, List.set_cons_zero, List.set_cons_succ]
            refine wpAnyH_take (i := 14) (oi := { dst := some 93, op := Op.move (Operand.tmp 1), type := 25, pos := "search.go:40", after := #[], guard := none }) (v := ?_) rfl (by kernel_rfl) (by kernel_rfl) (by kernel_rfl) (fun _ _ _ h => h) (Or.inl ⟨by rfl, ?_⟩) (by assumption) ?_
            rotate_left
            · (intro w hSw; (try dsimp only at hSw); go_simp; try with_reducible rfl)
            try simp only [Act.put, List.setIfInBounds_toArray, List.set_cons_zero, List.set_cons_succ]
            refine wpAnyH_take (i := 15) (oi := { dst := some 94, op := Op.call { callee := Callee.builtin Builtin.len, args := #[Operand.tmp 93], argTypes := #[25] }, type := 3, pos := "search.go:40", after := #[{ on := 14, ground := Ground.data }], guard := none }) (v := ?_) rfl (by kernel_rfl) (by kernel_rfl) (by kernel_rfl) (fun _ _ _ h => h) (Or.inl ⟨by rfl, ?_⟩) (by assumption) ?_
            rotate_left
            · (intro w hSw; (try dsimp only at hSw); go_simp; try with_reducible rfl)
            try simp only [Act.put, List.setIfInBounds_toArray, List.set_cons_zero, List.set_cons_succ]
            refine wpAnyH_take (i := 16) (oi := { dst := some 95, op := Op.build 68 #[(0, Operand.tmp 91), (1, Operand.tmp 92), (3, Operand.tmp 94)], type := 68, pos := "search.go:40", after := #[{ on := 12, ground := Ground.data }, { on := 13, ground := Ground.data }, { on := 15, ground := Ground.data }], guard := none }) (v := ?_) rfl (by kernel_rfl) (by kernel_rfl) (by kernel_rfl) (fun _ _ _ h => h) (Or.inl ⟨by rfl, ?_⟩) (by assumption) ?_
            rotate_left
            · (intro w hSw; (try dsimp only at hSw); go_simp; try with_reducible rfl)
            try simp only [Act.put, List.setIfInBounds_toArray, List.set_cons_zero, List.set_cons_succ]
            refine wpAnyH_ready (rs := [11, 17]) (by kernel_rfl) (by simp) (AllReadyH.cons rfl (fun K hK => ?_) (AllReadyH.cons rfl (fun K hK => ?_) AllReadyH.nil))
            · go_simp
              refine hK.out _ _ (HSx.out _ (Below.refl _ _).drew) (fun hHeld => ?_)
              clear hK K
              try simp only [Act.put, List.setIfInBounds_toArray, List.set_cons_zero, List.set_cons_succ]
              refine wpAnyH_ready (rs := [17]) (by kernel_rfl) (by simp) (AllReadyH.cons rfl (fun K hK => ?_) AllReadyH.nil)
              go_simp
              refine hK.out _ _ (HSx.out _ HbD.out) (fun hHeld => ?_)
              clear hK K
              try simp only [Act.put, List.setIfInBounds_toArray, List.set_cons_zero, List.set_cons_succ]
              refine wpAnyH_ready (rs := [18]) (by kernel_rfl) (by simp) (AllReadyH.cons rfl (fun K hK => ?_) AllReadyH.nil)
              refine step_append_lies _ rfl (.tmp 90) (.tmp 96) 65 rfl B 68 e0 (.agg #[.int .i64 0, .int .i64 0, .int .i64 0, .int .i64 0]) 4 32 Try.underlying65 hie hez0 hez1 hez2 rfl (by decide) vv _ (flat4 (outE (esC n cs k ++ zeC n k j) n)) rfl (by rw [← Hvv.out]; exact ((Hb.out.below HbD.out).o n hnn).2) ⟨wr.heap.size, 0, none⟩ 1 1 [.int .i64 n, .int .i64 j, .int .i64 0, .int .i64 k] rfl rfl (World.news_of_block HD.out) news4_one (by decide) (by unfold maxLen; omega) (by omega) (by have := HDs.out; omega) _ rfl ?_
              intro g cap5 w7 hown7 hgrow7 hblk7 hlt7
              have hrow : ∀ b, b < B → vv.ownBlock ≠ some b := fun b h1 h3 => by
                rw [← Hvv.out] at h3
                have := ((Hb.out.o n hnn).2.lt b h3).1
                omega
              have hc7 : ∀ b i, b < B → w7.cell? ⟨b, i, none⟩ = ((wr.alloc (.cells #[.int .i64 n, .int .i64 j, .int .i64 0, .int .i64 k] 68)).drew).cell? ⟨b, i, none⟩ := fun b i hb => hgrow7.cell_far ⟨b, i, none⟩ (show b < _ by have := HDs.out; omega) (fun h9 => hrow b hb h9.symm)
              have hS7 : (fun w' => w'.cell? ⟨S, 1, none⟩ = some (.slice (some ⟨OU, 0, none⟩) (n + 1) (n + 1))) w7 := (hc7 S 1 hfive.1).trans (HSx.out _ HbD.out)
              have u7 : w7.cell? ⟨OU, n, none⟩ = some vv := (hc7 OU n hfive.2.2.1).trans ((HbD.out.cell (p := ⟨OU, n, none⟩) HlU.out).trans uw)
              have f7 : w7.frozen? ⟨OU, n, none⟩ = false := (hgrow7.frozen_far ⟨OU, n, none⟩ (show OU < _ by have := HDs.out; omega) (fun h9 => hrow OU hfive.2.2.1 h9.symm)).trans ((HbD.out.frozen (p := ⟨OU, n, none⟩) HlU.out).trans Hfw.out)
              have hS7b : ∀ v, (fun w' => w'.cell? ⟨S, 1, none⟩ = some (.slice (some ⟨OU, 0, none⟩) (n + 1) (n + 1))) (w7.setCell ⟨OU, n, none⟩ v) := fun v => keep_set hneq.2.1 hS7
              have happ := (Hb.out.below HbD.out).app (e := ⟨n, j, 0, k⟩) (w' := w7) (v5 := .slice (some ⟨g, 0, none⟩) ((outE (esC n cs k ++ zeC n k j) n).length + 1) cap5) hnn (by show World.grownBy _ _ (va n).ownBlock; rw [Hvv.out]; exact hgrow7) (by
                rw [List.length_append, flat4_app, flat4_one]
                exact hown7) (by show (va n).ownBlock = _ ∨ _; rw [Hvv.out]; exact hblk7.imp id (fun h => by rw [h]; rfl))
              have Happ := Lib.hid happ
              have HS7 := Lib.hid hS7
              have HS7b := Lib.hid hS7b
              clear happ hS7 hS7b hc7 hrow hown7 hgrow7 hblk7 hlt7
              refine hK.out _ _ HS7.out (fun hHeld => ?_)
              clear hK K
              try simp only [Act.put, List.setIfInBounds_toArray, List.set_cons_zero, List.set_cons_succ]
              refine wpAnyH_ready (rs := [19]) (by kernel_rfl) (by simp) (AllReadyH.cons rfl (fun K hK => ?_) AllReadyH.nil)
              go_simp
              refine hK.out _ _ HS7.out (fun hHeld => ?_)
              clear hK K
              try simp only [Act.put, List.setIfInBounds_toArray, List.set_cons_zero, List.set_cons_succ]
              refine wpAnyH_ready (rs := [20]) (by kernel_rfl) (by simp) (AllReadyH.cons rfl (fun K hK => ?_) AllReadyH.nil)
              go_simp
              refine hK.out _ _ (HS7b.out _) (fun hHeld => ?_)
              clear hK K
              try simp only [Act.put, List.setIfInBounds_toArray, List.set_cons_zero, List.set_cons_succ]
              refine wpAnyH_done (by kernel_rfl) ?_ _
              have hbg9 : ∃ va, Hid (BG B w (w7.setCell ⟨OU, n, none⟩ (.slice (some ⟨g, 0, none⟩) ((outE (esC n cs k ++ zeC n k j) n).length + 1) cap5)) S OF OU ON V k (n + 1) oS oB oV (foC n cs) (esC n cs k ++ zeC n k (j + 1)) vf va k) := ⟨_, by rw [Hid, zeC_succ, ← List.append_assoc]; exact Happ.out⟩
              have Hbg9 := Lib.hid hbg9
              clear hbg9 Happ u7 f7 uw
              go_wp2_with fail
              go_roundw
              case rel => exact ⟨j + 1, by omega, by go_num, Hbg9.out⟩
              case measure => simp [intOf]; omega
            · go_simp
              refine hK.out _ _ (HSx.out _ HbD.out) (fun hHeld => ?_)
              clear hK K
              try simp only [Act.put, List.setIfInBounds_toArray, List.set_cons_zero, List.set_cons_succ]
              refine wpAnyH_ready (rs := [11]) (by kernel_rfl) (by simp) (AllReadyH.cons rfl (fun K hK => ?_) AllReadyH.nil)
              go_simp
              refine hK.out _ _ (HSx.out _ HbD.out) (fun hHeld => ?_)
              clear hK K
              try simp only [Act.put, List.setIfInBounds_toArray, List.set_cons_zero, List.set_cons_succ]
              refine wpAnyH_ready (rs := [18]) (by kernel_rfl) (by simp) (AllReadyH.cons rfl (fun K hK => ?_) AllReadyH.nil)
              refine step_append_lies _ rfl (.tmp 90) (.tmp 96) 65 rfl B 68 e0 (.agg #[.int .i64 0, .int .i64 0, .int .i64 0, .int .i64 0]) 4 32 Try.underlying65 hie hez0 hez1 hez2 rfl (by decide) vv _ (flat4 (outE (esC n cs k ++ zeC n k j) n)) rfl (by rw [← Hvv.out]; exact ((Hb.out.below HbD.out).o n hnn).2) ⟨wr.heap.size, 0, none⟩ 1 1 [.int .i64 n, .int .i64 j, .int .i64 0, .int .i64 k] rfl rfl (World.news_of_block HD.out) news4_one (by decide) (by unfold maxLen; omega) (by omega) (by have := HDs.out; omega) _ rfl ?_
              intro g cap5 w7 hown7 hgrow7 hblk7 hlt7
              have hrow : ∀ b, b < B → vv.ownBlock ≠ some b := fun b h1 h3 => by
                rw [← Hvv.out] at h3
                have := ((Hb.out.o n hnn).2.lt b h3).1
                omega
              have hc7 : ∀ b i, b < B → w7.cell? ⟨b, i, none⟩ = ((wr.alloc (.cells #[.int .i64 n, .int .i64 j, .int .i64 0, .int .i64 k] 68)).drew).cell? ⟨b, i, none⟩ := fun b i hb => hgrow7.cell_far ⟨b, i, none⟩ (show b < _ by have := HDs.out; omega) (fun h9 => hrow b hb h9.symm)
              have hS7 : (fun w' => w'.cell? ⟨S, 1, none⟩ = some (.slice (some ⟨OU, 0, none⟩) (n + 1) (n + 1))) w7 := (hc7 S 1 hfive.1).trans (HSx.out _ HbD.out)
              have u7 : w7.cell? ⟨OU, n, none⟩ = some vv := (hc7 OU n hfive.2.2.1).trans ((HbD.out.cell (p := ⟨OU, n, none⟩) HlU.out).trans uw)
              have f7 : w7.frozen? ⟨OU, n, none⟩ = false := (hgrow7.frozen_far ⟨OU, n, none⟩ (show OU < _ by have := HDs.out; omega) (fun h9 => hrow OU hfive.2.2.1 h9.symm)).trans ((HbD.out.frozen (p := ⟨OU, n, none⟩) HlU.out).trans Hfw.out)
              have hS7b : ∀ v, (fun w' => w'.cell? ⟨S, 1, none⟩ = some (.slice (some ⟨OU, 0, none⟩) (n + 1) (n + 1))) (w7.setCell ⟨OU, n, none⟩ v) := fun v => keep_set hneq.2.1 hS7
              have happ := (Hb.out.below HbD.out).app (e := ⟨n, j, 0, k⟩) (w' := w7) (v5 := .slice (some ⟨g, 0, none⟩) ((outE (esC n cs k ++ zeC n k j) n).length + 1) cap5) hnn (by show World.grownBy _ _ (va n).ownBlock; rw [Hvv.out]; exact hgrow7) (by
                rw [List.length_append, flat4_app, flat4_one]
                exact hown7) (by show (va n).ownBlock = _ ∨ _; rw [Hvv.out]; exact hblk7.imp id (fun h => by rw [h]; rfl))
              have Happ := Lib.hid happ
              have HS7 := Lib.hid hS7
              have HS7b := Lib.hid hS7b
              clear happ hS7 hS7b hc7 hrow hown7 hgrow7 hblk7 hlt7
              refine hK.out _ _ HS7.out (fun hHeld => ?_)
              clear hK K
              try simp only [Act.put, List.setIfInBounds_toArray, List.set_cons_zero, List.set_cons_succ]
              refine wpAnyH_ready (rs := [19]) (by kernel_rfl) (by simp) (AllReadyH.cons rfl (fun K hK => ?_) AllReadyH.nil)
              go_simp
              refine hK.out _ _ HS7.out (fun hHeld => ?_)
              clear hK K
              try simp only [Act.put, List.setIfInBounds_toArray, List.set_cons_zero, List.set_cons_succ]
              refine wpAnyH_ready (rs := [20]) (by kernel_rfl) (by simp) (AllReadyH.cons rfl (fun K hK => ?_) AllReadyH.nil)
              go_simp
              refine hK.out _ _ (HS7b.out _) (fun hHeld => ?_)
              clear hK K
              try simp only [Act.put, List.setIfInBounds_toArray, List.set_cons_zero, List.set_cons_succ]
              refine wpAnyH_done (by kernel_rfl) ?_ _
              have hbg9 : ∃ va, Hid (BG B w (w7.setCell ⟨OU, n, none⟩ (.slice (some ⟨g, 0, none⟩) ((outE (esC n cs k ++ zeC n k j) n).length + 1) cap5)) S OF OU ON V k (n + 1) oS oB oV (foC n cs) (esC n cs k ++ zeC n k (j + 1)) vf va k) := ⟨_, by rw [Hid, zeC_succ, ← List.append_assoc]; exact Happ.out⟩
              have Hbg9 := Lib.hid hbg9
              clear hbg9 Happ u7 f7 uw
              go_wp2_with fail
              go_roundw
              case rel => exact ⟨j + 1, by omega, by go_num, Hbg9.out⟩
              case measure => simp [intOf]; omega
          · have hjn : j = n := by omega
            subst hjn
            have hji : ¬ (j : Int) < (j : Int) := by omega
            have s2 := (Hsc.out wr Hb.out.hS).2.2
            have hB9 := Hb.out.hB
            rw [← HoB.out] at hB9
            have tB := made_cell (i := k) hB9 (by omega)
            have fB : wr.frozen? ⟨ON, k, none⟩ = false := by simp [World.frozen?, hB9]
            have hki2 : (k : Int) < (k : Int) + 1 := by omega
            clear hB9
            go_wp2_with fail
            go_ret
            exact ⟨B, S, OF, OU, ON, V, vf, va, rfl, Hge.out.1, Hge.out.2, n3, n4, n10, wr, rfl, by rw [HoS.out, HoB.out, HoV.out]; exact Hb.out⟩
end Go.Proofs.Ytapajkfnpkekdaa
