/-
  'edges' of package graph: the edges of a constraint, in a row of its own.
-/
import Derived.Test.YtapajkfnpkekdaaGBase
namespace Go.Proofs.Ytapajkfnpkekdaa
open Go Go.RowKit

/-- where the edges of a constraint end, and what is taken off -/
def toC (n : Nat) (c : LCn) : Nat := match c.2.2 with | [x] => x.1.toNat | _ => n
def lessC (c : LCn) : Int := match c.2.2 with | [x] => x.2 | _ => c.2.1
/-- the edges of the constraint c, numbered k; zero is the node n -/
def edgC (n : Nat) (c : LCn) (k : Nat) : List Edg :=
  ⟨n, toC n c, c.1.1 - lessC c, k⟩ :: c.1.2.map fun x => ⟨x.1.toNat, toC n c, x.2 - lessC c, k⟩
/-- what a constraint is, in words -/
structure Con (n : Nat) (c : LCn) : Prop where
  a0 : 0 ≤ c.1.1 ∧ c.1.1 ≤ 1000
  a1 : ∀ x ∈ c.1.2, (0 ≤ x.1 ∧ x.1 < n) ∧ 0 ≤ x.2 ∧ x.2 ≤ 1000
  al : c.1.2.length ≤ 8
  b0 : 0 ≤ c.2.1 ∧ c.2.1 ≤ 1000
  b1 : c.2.2 = [] ∨ ∃ x, c.2.2 = [x] ∧ c.2.1 = 0 ∧ (0 ≤ x.1 ∧ x.1 < n) ∧ 0 ≤ x.2 ∧ x.2 ≤ 1000
theorem belowB_out {n : Nat} {a : Int × List (Int × Int)} (h : belowB n a = true) : (0 ≤ a.1 ∧ a.1 ≤ 1000) ∧ (∀ x ∈ a.2, (0 ≤ x.1 ∧ x.1 < n) ∧ 0 ≤ x.2 ∧ x.2 ≤ 1000) ∧ a.2.length ≤ 8 := by
  unfold belowB at h
  rw [Bool.and_eq_true] at h
  have hv := vld_iff.1 h.1
  have hg : gev a.2 n = false := by simpa using h.2
  refine ⟨⟨hv.lo, hv.hi⟩, fun x hx => ?_, hv.len⟩
  obtain ⟨i, hi, rfl⟩ := List.mem_iff_getElem.1 hx
  obtain ⟨h1, h2, _⟩ := hv.ok i _ hi (List.getElem?_eq_getElem hi)
  have h3 := List.any_eq_false.1 hg _ (List.getElem_mem hi)
  simp at h3
  exact ⟨⟨h1.1, by omega⟩, h2⟩
theorem con_of {n : Nat} {c : LCn} (h : conB n c = true) : Con n c := by
  unfold conB at h
  rw [Bool.and_eq_true, Bool.and_eq_true] at h
  obtain ⟨⟨h1, h2⟩, h3⟩ := h
  obtain ⟨a0, a1, al⟩ := belowB_out h1
  obtain ⟨b0, b1, bl⟩ := belowB_out h2
  refine ⟨a0, a1, al, b0, ?_⟩
  unfold rightB at h3
  match hb : c.2.2, h3 with
  | [], _ => exact .inl rfl
  | [x], h3 =>
    right
    have := b1 x (by rw [hb]; simp)
    simp at h3
    exact ⟨x, rfl, h3, this⟩
  | x :: y :: r, h3 => simp at h3
theorem Con.to {n : Nat} {c : LCn} (h : Con n c) : toC n c ≤ n ∧ 0 ≤ lessC c ∧ lessC c ≤ 1000 := by
  unfold toC lessC
  rcases h.b1 with e | ⟨x, e, h0, h1, h2⟩
  · rw [e]; exact ⟨Nat.le_refl _, h.b0⟩
  · rw [e]; exact ⟨by show x.1.toNat ≤ n; omega, h2⟩
theorem Con.ok {n k : Nat} {c : LCn} (h : Con n c) : ∀ e ∈ edgC n c k, e.f < n + 1 ∧ e.t < n + 1 ∧ -1000 ≤ e.b ∧ e.b ≤ 1000 ∧ e.k = k ∧ e.t = toC n c := by
  intro e he
  obtain ⟨t0, t1, t2⟩ := h.to
  have h0 := h.a0
  rcases List.mem_cons.1 he with rfl | he
  · exact ⟨by show n < n + 1; omega, by show toC n c < n + 1; omega, by show -1000 ≤ c.1.1 - lessC c; omega, by show c.1.1 - lessC c ≤ 1000; omega, rfl, rfl⟩
  · obtain ⟨x, hx, rfl⟩ := List.mem_map.1 he
    obtain ⟨h1, h2⟩ := h.a1 x hx
    exact ⟨by show x.1.toNat < n + 1; omega, by show toC n c < n + 1; omega, by show -1000 ≤ x.2 - lessC c; omega, by show x.2 - lessC c ≤ 1000; omega, rfl, rfl⟩

theorem infoE : (Try.prog.info? 68).map (fun i => (i.zero, i.size, i.bytes)) = some (some (.agg #[.int .i64 0, .int .i64 0, .int .i64 0, .int .i64 0]), 4, 32) := by kernel_rfl
theorem news4 {w : World} {f t b k : Int} {ty : TypeId} {q : Nat} (hq : q = w.heap.size) : ∀ j u, [Value.int .i64 f, .int .i64 t, .int .i64 b, .int .i64 k][j]? = some u → (w.alloc (.cells #[.int .i64 f, .int .i64 t, .int .i64 b, .int .i64 k] ty)).cell? ((⟨q, 0, none⟩ : Addr).add j) = some u := by
  subst hq
  intro j u hj
  match j, hj with
  | 0, hj => simp at hj; subst hj; simp [Addr.add]
  | 1, hj => simp at hj; subst hj; simp [Addr.add]
  | 2, hj => simp at hj; subst hj; simp [Addr.add]
  | 3, hj => simp at hj; subst hj; simp [Addr.add]
  | j + 4, hj => simp at hj
theorem news4_one {f t b k : Int} : ∀ u ∈ [Value.int .i64 f, .int .i64 t, .int .i64 b, .int .i64 k], u.oneCell' = true := by
  intro u hu
  simp only [List.mem_cons, List.not_mem_nil, or_false] at hu
  rcases hu with rfl | rfl | rfl | rfl <;> rfl

theorem own_more {w : World} {base base' : Nat} {e : TypeId} {size n : Nat} {v : Value} {xs : List Value} (h : w.ownsRow base e size v n xs) (hb : base' ≤ base) : w.ownsRow base' e size v n xs :=
  ⟨h.1, h.2.imp id (fun ⟨g, cap, cur, e, hbg, r⟩ => ⟨g, cap, cur, e, Nat.le_trans hb hbg, r⟩)⟩
set_option maxRecDepth 100000 in
set_option maxHeartbeats 4000000 in
theorem edges_any (n : Nat) (c : LCn) (k : Nat) (A1 : Option Addr) (n1 c1 : Nat) (A2 : Option Addr) (n2 c2 : Nat) (w : World) (p1 : PL w w.heap.size A1 n1 c.1.2) (p2 : PL w w.heap.size A2 n2 c.2.2) (hc : Con n c) :
    Calls Try.prog 21 #[.int .i64 n, .agg #[.int .i64 c.1.1, .slice A1 n1 c1, .int .i64 c.2.1, .slice A2 n2 c2], .int .i64 k] w fun e w' => ∃ v, e = .returned v ∧ w'.ownsRow w.heap.size 68 4 v (edgC n c k).length (flat4 (edgC n c k)) ∧ Below w.heap.size w w' := by
  obtain ⟨i0, hi, hz0, hz1, hz2⟩ := info_parts infoE
  obtain ⟨t0, t1, t2⟩ := hc.to
  have hl1 : c.1.2.length = n1 := p1.1
  have hl2 : c.2.2.length = n2 := p2.1
  have ha0 := hc.a0
  have ha1 := Lib.hid hc.a1
  have hal := hc.al
  have hX : Below w.heap.size w (w.alloc (.cells #[.int .i64 c.1.1, .slice A1 n1 c1, .int .i64 c.2.1, .slice A2 n2 c2] 32)) := (Below.refl _ _).alloc (Nat.le_refl _) _
  have HE : Hid (edgC n c k = ⟨n, toC n c, c.1.1 - lessC c, k⟩ :: c.1.2.map fun x => ⟨x.1.toNat, toC n c, x.2 - lessC c, k⟩) := rfl
  rcases hc.b1 with hb | ⟨bx, hb, hb0, ⟨hx0, hx1⟩, hx2, hx3⟩
  · have htn : toC n c = n := by unfold toC; rw [hb]
    have hls : lessC c = c.2.1 := by unfold lessC; rw [hb]
    have hti : Hid (((n : Nat) : Int) = (n : Int)) := rfl
    have hn2 : n2 = 0 := by rw [← hl2, hb]; rfl
    have hn2i : ((n2 : Int) == 1) = false := by rw [hn2]; rfl
    clear hb hl2 hn2
    have t0 : n ≤ n := by have := t0; rw [htn] at this; exact this
    have t1 : 0 ≤ c.2.1 ∧ c.2.1 ≤ 1000 := by have := And.intro t1 t2; rw [hls] at this; exact this
    rw [htn, hls] at HE
    obtain ⟨ms, hms⟩ : ∃ ms, (c.1.2.map fun x => (⟨x.1.toNat, n, x.2 - c.2.1, k⟩ : Edg)) = ms := ⟨_, rfl⟩
    rw [hms] at HE
    have Hms : Hid (ms = c.1.2.map fun x => (⟨x.1.toNat, n, x.2 - c.2.1, k⟩ : Edg)) := hms.symm
    have hmsl : ms.length = n1 := by rw [← hms, List.length_map]; exact hl1
    clear hms htn hls
    go_enter Try.func21, Try.ntmps21
    go_wp2_with fail
    go_quiet (fail)
    have hb0 : Below (w.heap.size + 1) (w.alloc (.cells #[.int .i64 c.1.1, .slice A1 n1 c1, .int .i64 c.2.1, .slice A2 n2 c2] 32)) ((w.alloc (.cells #[.int .i64 c.1.1, .slice A1 n1 c1, .int .i64 c.2.1, .slice A2 n2 c2] 32)).drewN nq) := below_drewN (Below.refl _ _) _
    generalize (w.alloc (.cells #[.int .i64 c.1.1, .slice A1 n1 c1, .int .i64 c.2.1, .slice A2 n2 c2] 32)).drewN nq = W0 at hb0 ⊢
    obtain ⟨g0, g1, g2, g3, hX1⟩ := box4 hb0
    have hszW : w.heap.size < W0.heap.size := by have := hb0.size; simp at this; omega
    have hneW : w.heap.size ≠ W0.heap.size := by omega
    go_wp2_with fail
    go_loopw [9, 47] (fun v i wr => ∃ j : Nat, j ≤ n1 ∧ i = .int .i64 j ∧ ∃ (A' : Option Addr) (n' c' : Nat), v = .slice A' n' c' ∧ wr.ownsRow (w.heap.size + 1) 68 4 (.slice A' n' c') (((⟨n, n, c.1.1 - c.2.1, k⟩ : Edg) :: (ms.take j)).length) (flat4 (⟨n, n, c.1.1 - c.2.1, k⟩ :: (ms.take j))) ∧ Below (w.heap.size + 1) (w.alloc (.cells #[.int .i64 c.1.1, .slice A1 n1 c1, .int .i64 c.2.1, .slice A2 n2 c2] 32)) wr) (fun _ i _ => n1 - (intOf i).toNat)
    case atStart =>
      refine ⟨0, Nat.zero_le _, rfl, _, _, _, rfl, ?_, hb0.alloc (by have := hb0.size; simpa using this) _⟩
      have h := World.ownsRow_lit (base := w.heap.size + 1) (e := 68) (size := 4) W0 #[.int .i64 n, .int .i64 (n : Int), .int .i64 (c.1.1 - c.2.1), .int .i64 k] 1 (by have := hb0.size; simpa using this) (by decide) rfl
      simpa [flat4, enc4, hti.out] using h
    case round =>
      obtain ⟨j, hj, rfl, A', n', c', rfl, hown, hbr⟩ := hrel
      obtain ⟨g0, g1, g2, g3, hX1⟩ := box4 hbr
      have hszr : w.heap.size + 1 ≤ wr.heap.size := by have := hbr.size; simpa using this
      by_cases hlt : j < n1
      · obtain ⟨b, off, x, rfl, hbl, hx, h0, h1⟩ := (p1.below hX1).at_ hlt
        obtain ⟨⟨x0, x1⟩, x2, x3⟩ := ha1.out x (List.mem_of_getElem? hx)
        have hmx : ms[j]? = some ⟨x.1.toNat, n, x.2 - c.2.1, k⟩ := by rw [Hms.out, List.getElem?_map, hx]; rfl
        have hxn : ((x.1.toNat : Nat) : Int) = x.1 := by omega
        have Hst : Hid (ms.take (j + 1) = ms.take j ++ [⟨x.1.toNat, n, x.2 - c.2.1, k⟩]) := take_snoc hmx
        have hml : (ms.take j).length ≤ 8 := by rw [List.length_take]; omega
        generalize ms.take j = mj at hown Hst hml
        generalize hq : ((⟨n, n, c.1.1 - c.2.1, k⟩ : Edg) :: mj) = q at hown
        have hql : q.length ≤ 9 := by rw [← hq]; simp; omega
        have Hq := Lib.hid hq
        clear hq hx hmx
        have hownX : ∀ W, Below wr.heap.size wr W → W.ownsRow (w.heap.size + 1) 68 4 (.slice A' n' c') q.length (flat4 q) := fun W hW => own_below hown hW
        go_wp2_with (at_builtin; refine wpList_append_own _ rfl _ _ 65 rfl (w.heap.size + 1) 68 i0 (.agg #[.int .i64 0, .int .i64 0, .int .i64 0, .int .i64 0]) 4 32 Try.underlying65 hi hz0 hz1 hz2 rfl (by decide) (.slice A' n' c') q.length (flat4 q) rfl (hownX _ (((Below.refl _ wr).alloc (Nat.le_refl _) _).alloc (by simp) _)) _ 1 1 [.int .i64 x.1, .int .i64 (n : Int), .int .i64 (x.2 - c.2.1), .int .i64 k] rfl rfl (news4 (by simp)) news4_one (by unfold maxLen; omega) (by omega) (by simp; omega) ?_)
        intro v5 w5 hown5 hgrow _
        have hown6 : w5.ownsRow (w.heap.size + 1) 68 4 v5 (q ++ [(⟨x.1.toNat, n, x.2 - c.2.1, k⟩ : Edg)]).length (flat4 (q ++ [(⟨x.1.toNat, n, x.2 - c.2.1, k⟩ : Edg)])) := by
          rw [List.length_append, flat4_app, flat4_one]
          show w5.ownsRow _ _ 4 v5 (q.length + 1) (flat4 q ++ [.int .i64 ((x.1.toNat : Nat) : Int), .int .i64 ((n : Nat) : Int), _, _])
          rw [hxn]
          first | exact hown5 | (rw [hti.out]; exact hown5)
        have hb5 : Below (w.heap.size + 1) (w.alloc (.cells #[.int .i64 c.1.1, .slice (some ⟨b, off, none⟩) n1 c1, .int .i64 c.2.1, .slice A2 n2 c2] 32)) w5 := ((hbr.alloc hszr _).alloc (by simp; omega) _).grown hgrow (by simp; omega) (fun j hj => (hown.lt j hj).1)
        clear hown5 hgrow hown hownX
        obtain ⟨A5, c5, rfl, _, _, _, _⟩ := EL.of_own hown6
        go_wp2_with fail
        go_roundw
        case rel => exact ⟨j + 1, by omega, by go_num, _, _, _, rfl, by rw [Hst.out, show ((⟨n, n, c.1.1 - c.2.1, k⟩ : Edg) :: (mj ++ [⟨x.1.toNat, n, x.2 - c.2.1, k⟩])) = q ++ [⟨x.1.toNat, n, x.2 - c.2.1, k⟩] from by rw [← Hq.out]; rfl]; exact hown6, hb5⟩
        case measure => simp [intOf]; omega
      · have hfull : ms.take j = ms := List.take_of_length_le (by omega)
        rw [hfull] at hown
        clear hfull
        go_wp2_with fail
        go_ret
        exact ⟨_, rfl, by rw [HE.out]; exact own_more hown (by omega), hX1⟩
  · have htn : toC n c = bx.1.toNat := by unfold toC; rw [hb]
    have hls : lessC c = bx.2 := by unfold lessC; rw [hb]
    have hti : Hid (((bx.1.toNat : Nat) : Int) = bx.1) := by rw [Hid]; omega
    have hn2 : n2 = 1 := by rw [← hl2, hb]; rfl
    have hn2i : ((n2 : Int) == 1) = true := by rw [hn2]; rfl
    obtain ⟨bb, ob, xb, rfl, hbb, hxb, k0, k1⟩ := (p2.below (Below.refl w.heap.size w)).at_ (show 0 < n2 by omega)
    rw [hb] at hxb
    obtain rfl : bx = xb := by simpa using hxb
    have hkb : ∀ W, Below w.heap.size w W → W.cell? ⟨bb, ob + 0 * 2, none⟩ = some (.int .i64 bx.1) ∧ W.cell? ⟨bb, ob + 0 * 2 + 1, none⟩ = some (.int .i64 bx.2) := fun W hW => ⟨(hW.cell (p := ⟨bb, ob + 0 * 2, none⟩) hbb).trans k0, (hW.cell (p := ⟨bb, ob + 0 * 2 + 1, none⟩) hbb).trans k1⟩
    have hn2p : (0 : Int) < (n2 : Int) := by omega
    have hn2q : 0 < n2 := by omega
    clear hb0 hn2 hb hl2
    have t0 : bx.1.toNat ≤ n := by have := t0; rw [htn] at this; exact this
    have t1 : 0 ≤ bx.2 ∧ bx.2 ≤ 1000 := by have := And.intro t1 t2; rw [hls] at this; exact this
    rw [htn, hls] at HE
    obtain ⟨ms, hms⟩ : ∃ ms, (c.1.2.map fun x => (⟨x.1.toNat, bx.1.toNat, x.2 - bx.2, k⟩ : Edg)) = ms := ⟨_, rfl⟩
    rw [hms] at HE
    have Hms : Hid (ms = c.1.2.map fun x => (⟨x.1.toNat, bx.1.toNat, x.2 - bx.2, k⟩ : Edg)) := hms.symm
    have hmsl : ms.length = n1 := by rw [← hms, List.length_map]; exact hl1
    clear hms htn hls
    go_enter Try.func21, Try.ntmps21
    go_wp2_with fail
    go_quiet (fail)
    have hb0 : Below (w.heap.size + 1) (w.alloc (.cells #[.int .i64 c.1.1, .slice A1 n1 c1, .int .i64 c.2.1, .slice (some ⟨bb, ob, none⟩) n2 c2] 32)) ((w.alloc (.cells #[.int .i64 c.1.1, .slice A1 n1 c1, .int .i64 c.2.1, .slice (some ⟨bb, ob, none⟩) n2 c2] 32)).drewN nq) := below_drewN (Below.refl _ _) _
    generalize (w.alloc (.cells #[.int .i64 c.1.1, .slice A1 n1 c1, .int .i64 c.2.1, .slice (some ⟨bb, ob, none⟩) n2 c2] 32)).drewN nq = W0 at hb0 ⊢
    obtain ⟨g0, g1, g2, g3, hX1⟩ := box4 hb0
    have hszW : w.heap.size < W0.heap.size := by have := hb0.size; simp at this; omega
    have hneW : w.heap.size ≠ W0.heap.size := by omega
    have hq0 : W0.cell? ⟨bb, ob, none⟩ = some (.int .i64 bx.1) := by have h := (hkb W0 hX1).1; simpa using h
    have hq1 : W0.cell? ⟨bb, ob + 1, none⟩ = some (.int .i64 bx.2) := by have h := (hkb W0 hX1).2; simpa using h
    go_wp2_with fail
    go_quiet (fail)
    have hbq : Below (w.heap.size + 1) (w.alloc (.cells #[.int .i64 c.1.1, .slice A1 n1 c1, .int .i64 c.2.1, .slice (some ⟨bb, ob, none⟩) n2 c2] 32)) (W0.drewN nq) := below_drewN hb0 _
    clear g0 g1 g2 g3 hX1 hq0 hq1 hszW hneW
    generalize W0.drewN nq = W1 at hbq ⊢
    clear hb0 W0
    obtain ⟨W0, hW0⟩ : ∃ W0, W0 = W1 := ⟨_, rfl⟩
    subst hW0
    have hb0 := hbq
    obtain ⟨g0, g1, g2, g3, hX1⟩ := box4 hb0
    have hszW : w.heap.size < W0.heap.size := by have := hb0.size; simp at this; omega
    have hneW : w.heap.size ≠ W0.heap.size := by omega
    go_wp2_with fail
    go_loopw [9, 47] (fun v i wr => ∃ j : Nat, j ≤ n1 ∧ i = .int .i64 j ∧ ∃ (A' : Option Addr) (n' c' : Nat), v = .slice A' n' c' ∧ wr.ownsRow (w.heap.size + 1) 68 4 (.slice A' n' c') (((⟨n, bx.1.toNat, c.1.1 - bx.2, k⟩ : Edg) :: (ms.take j)).length) (flat4 (⟨n, bx.1.toNat, c.1.1 - bx.2, k⟩ :: (ms.take j))) ∧ Below (w.heap.size + 1) (w.alloc (.cells #[.int .i64 c.1.1, .slice A1 n1 c1, .int .i64 c.2.1, .slice (some ⟨bb, ob, none⟩) n2 c2] 32)) wr) (fun _ i _ => n1 - (intOf i).toNat)
    case atStart =>
      refine ⟨0, Nat.zero_le _, rfl, _, _, _, rfl, ?_, hb0.alloc (by have := hb0.size; simpa using this) _⟩
      have h := World.ownsRow_lit (base := w.heap.size + 1) (e := 68) (size := 4) W0 #[.int .i64 n, .int .i64 bx.1, .int .i64 (c.1.1 - bx.2), .int .i64 k] 1 (by have := hb0.size; simpa using this) (by decide) rfl
      simpa [flat4, enc4, hti.out] using h
    case round =>
      obtain ⟨j, hj, rfl, A', n', c', rfl, hown, hbr⟩ := hrel
      obtain ⟨g0, g1, g2, g3, hX1⟩ := box4 hbr
      have hszr : w.heap.size + 1 ≤ wr.heap.size := by have := hbr.size; simpa using this
      by_cases hlt : j < n1
      · obtain ⟨b, off, x, rfl, hbl, hx, h0, h1⟩ := (p1.below hX1).at_ hlt
        obtain ⟨⟨x0, x1⟩, x2, x3⟩ := ha1.out x (List.mem_of_getElem? hx)
        have hmx : ms[j]? = some ⟨x.1.toNat, bx.1.toNat, x.2 - bx.2, k⟩ := by rw [Hms.out, List.getElem?_map, hx]; rfl
        have hxn : ((x.1.toNat : Nat) : Int) = x.1 := by omega
        have Hst : Hid (ms.take (j + 1) = ms.take j ++ [⟨x.1.toNat, bx.1.toNat, x.2 - bx.2, k⟩]) := take_snoc hmx
        have hml : (ms.take j).length ≤ 8 := by rw [List.length_take]; omega
        generalize ms.take j = mj at hown Hst hml
        generalize hq : ((⟨n, bx.1.toNat, c.1.1 - bx.2, k⟩ : Edg) :: mj) = q at hown
        have hql : q.length ≤ 9 := by rw [← hq]; simp; omega
        have Hq := Lib.hid hq
        clear hq hx hmx
        have hownX : ∀ W, Below wr.heap.size wr W → W.ownsRow (w.heap.size + 1) 68 4 (.slice A' n' c') q.length (flat4 q) := fun W hW => own_below hown hW
        go_wp2_with (at_builtin; refine wpList_append_own _ rfl _ _ 65 rfl (w.heap.size + 1) 68 i0 (.agg #[.int .i64 0, .int .i64 0, .int .i64 0, .int .i64 0]) 4 32 Try.underlying65 hi hz0 hz1 hz2 rfl (by decide) (.slice A' n' c') q.length (flat4 q) rfl (hownX _ (((Below.refl _ wr).alloc (Nat.le_refl _) _).alloc (by simp) _)) _ 1 1 [.int .i64 x.1, .int .i64 bx.1, .int .i64 (x.2 - bx.2), .int .i64 k] rfl rfl (news4 (by simp)) news4_one (by unfold maxLen; omega) (by omega) (by simp; omega) ?_)
        intro v5 w5 hown5 hgrow _
        have hown6 : w5.ownsRow (w.heap.size + 1) 68 4 v5 (q ++ [(⟨x.1.toNat, bx.1.toNat, x.2 - bx.2, k⟩ : Edg)]).length (flat4 (q ++ [(⟨x.1.toNat, bx.1.toNat, x.2 - bx.2, k⟩ : Edg)])) := by
          rw [List.length_append, flat4_app, flat4_one]
          show w5.ownsRow _ _ 4 v5 (q.length + 1) (flat4 q ++ [.int .i64 ((x.1.toNat : Nat) : Int), .int .i64 ((bx.1.toNat : Nat) : Int), _, _])
          rw [hxn]
          first | exact hown5 | (rw [hti.out]; exact hown5)
        have hb5 : Below (w.heap.size + 1) (w.alloc (.cells #[.int .i64 c.1.1, .slice (some ⟨b, off, none⟩) n1 c1, .int .i64 c.2.1, .slice (some ⟨bb, ob, none⟩) n2 c2] 32)) w5 := ((hbr.alloc hszr _).alloc (by simp; omega) _).grown hgrow (by simp; omega) (fun j hj => (hown.lt j hj).1)
        clear hown5 hgrow hown hownX
        obtain ⟨A5, c5, rfl, _, _, _, _⟩ := EL.of_own hown6
        go_wp2_with fail
        go_roundw
        case rel => exact ⟨j + 1, by omega, by go_num, _, _, _, rfl, by rw [Hst.out, show ((⟨n, bx.1.toNat, c.1.1 - bx.2, k⟩ : Edg) :: (mj ++ [⟨x.1.toNat, bx.1.toNat, x.2 - bx.2, k⟩])) = q ++ [⟨x.1.toNat, bx.1.toNat, x.2 - bx.2, k⟩] from by rw [← Hq.out]; rfl]; exact hown6, hb5⟩
        case measure => simp [intOf]; omega
      · have hfull : ms.take j = ms := List.take_of_length_le (by omega)
        rw [hfull] at hown
        clear hfull
        go_wp2_with fail
        go_ret
        exact ⟨_, rfl, by rw [HE.out]; exact own_more hown (by omega), hX1⟩
end Go.Proofs.Ytapajkfnpkekdaa
