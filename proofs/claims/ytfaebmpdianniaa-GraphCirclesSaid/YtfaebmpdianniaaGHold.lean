/-
  'Holds' of package graph.
-/
import Derived.Test.YtfaebmpdianniaaGEdges
namespace Go.Proofs.Ytfaebmpdianniaa
open Go Go.RowKit

/-- the value of a level at numbers -/
def valM (c : Int) (l : List (Int × Int)) (vs : List Int) : Int := l.foldl (fun a x => if a < gx vs x.1.toNat + x.2 then gx vs x.1.toNat + x.2 else a) c
theorem valM_snoc (c : Int) (l : List (Int × Int)) (x : Int × Int) (vs : List Int) : valM c (l ++ [x]) vs = if valM c l vs < gx vs x.1.toNat + x.2 then gx vs x.1.toNat + x.2 else valM c l vs := by
  unfold valM
  rw [List.foldl_append]
  rfl
def Vs (vs : List Int) : Prop := ∀ z ∈ vs, 0 ≤ z ∧ z ≤ 1099511627776
theorem valM_le {c : Int} {vs : List Int} (hv : Vs vs) (h0 : 0 ≤ c) (h1 : c ≤ 1000) : ∀ (l : List (Int × Int)), (∀ x ∈ l, x.2 ≤ 1000) → 0 ≤ valM c l vs ∧ valM c l vs ≤ 2000000000000 := by
  intro l
  have hg : ∀ v, gx vs v ≤ 1099511627776 := fun v => by
    unfold gx
    rw [List.getD_eq_getElem?_getD]
    cases h : vs[v]? with
    | none => simp
    | some z => exact (hv z (List.mem_of_getElem? h)).2
  have : ∀ (l : List (Int × Int)) (c : Int), 0 ≤ c → c ≤ 2000000000000 → (∀ x ∈ l, x.2 ≤ 1000) → 0 ≤ valM c l vs ∧ valM c l vs ≤ 2000000000000 := by
    intro l
    induction l with
    | nil => intro c a b _; exact ⟨a, b⟩
    | cons x l ih =>
      intro c a b hl
      unfold valM
      rw [List.foldl_cons]
      have h1 := hl x (by simp)
      have h2 := hg x.1.toNat
      refine ih _ ?_ ?_ fun y hy => hl y (List.mem_cons_of_mem _ hy)
      · split <;> omega
      · split <;> omega
  exact this l c h0 (by omega)

set_option maxRecDepth 100000 in
set_option maxHeartbeats 2000000 in
theorem value_any (c : Int) (A : Option Addr) (n cap : Nat) (l : List (Int × Int)) (vA : Option Addr) (vn vc : Nat) (vs : List Int) (w : World) (h : PL w w.heap.size A n l) (hx : IL w w.heap.size vA vn vs) (hn : n ≤ 9223372036854775807)
    (hl : ∀ x ∈ l, (0 ≤ x.1 ∧ x.1 < vn) ∧ 0 ≤ x.2 ∧ x.2 ≤ 1000) (hvs : Vs vs) (hc : 0 ≤ c ∧ c ≤ 1000) :
    Calls Try.prog 57 #[.agg #[.int .i64 c, .slice A n cap], .slice vA vn vc] w fun e w' => e = .returned (.int .i64 (valM c l vs)) ∧ Below w.heap.size w w' := by
  have hX : Below w.heap.size w (w.alloc (.cells #[.int .i64 c, .slice A n cap] 37)) := (Below.refl _ w).alloc (Nat.le_refl _) _
  have Hl := Lib.hid hl
  clear hl
  go_enter Try.func57, Try.ntmps57
  go_wp2_with fail
  go_loopw [5, 13] (fun v i wr => ∃ k : Nat, k ≤ n ∧ i = .int .i64 k ∧ ∃ z : Int, v = .int .i64 z ∧ valM c (l.take k) vs = z ∧ Below w.heap.size w wr) (fun _ i _ => n - (intOf i).toNat)
  case atStart => exact ⟨0, Nat.zero_le _, rfl, c, rfl, rfl, hX⟩
  case round =>
    obtain ⟨k, hk, rfl, z, rfl, hz, hb⟩ := hrel
    have Hz := Lib.hid hz
    have hzl := valM_le hvs hc.1 hc.2 (l.take k) fun x hx => (Hl.out x (List.mem_of_mem_take hx)).2.2
    rw [hz] at hzl
    clear hz
    by_cases hlt : k < n
    · obtain ⟨b, off, x, rfl, hbl, hx1, y0, y1⟩ := (h.below hb).at_ hlt
      obtain ⟨⟨q0, q1⟩, q2, q3⟩ := Hl.out x (List.mem_of_getElem? hx1)
      obtain ⟨g, og, u, rfl, hgl, hu, u0⟩ := (hx.below hb).at_ (show x.1.toNat < vn by omega)
      have hu9 := hvs u (List.mem_of_getElem? hu)
      have hsz := hb.size
      have hgn : g ≠ wr.heap.size := by omega
      have hgl' : g < wr.heap.size := by omega
      have e1 : ((x.1.toNat : Nat) : Int) = x.1 := by omega
      have hxv : x.1 < (vn : Int) := by omega
      have Hst : Hid (valM c (l.take (k + 1)) vs = if z < u + x.2 then u + x.2 else z) := by rw [Hid, take_snoc hx1, valM_snoc, Hz.out, gx_at hu]
      by_cases ha : z < u + x.2
      · have ha2 : z ≤ u + x.2 := by omega
        have Hi : Hid (valM c (l.take (k + 1)) vs = u + x.2) := by rw [Hid, Hst.out, if_pos ha]
        clear hx1 hu
        go_wp2_with fail
        go_quiet (fail)
        go_wp2_with fail
        go_roundw
        case rel => exact ⟨k + 1, by omega, by go_num, _, rfl, Hi.out, below_drewN (hb.alloc hb.size _) _⟩
        case measure => simp [intOf]; omega
      · have Hi : Hid (valM c (l.take (k + 1)) vs = z) := by rw [Hid, Hst.out, if_neg ha]
        clear hx1 hu
        go_wp2_with fail
        go_quiet (fail)
        go_wp2_with fail
        go_roundw
        case rel => exact ⟨k + 1, by omega, by go_num, _, rfl, Hi.out, below_drewN (hb.alloc hb.size _) _⟩
        case measure => simp [intOf]; omega
    · have hfull : l.take k = l := List.take_of_length_le (by have := h.1; omega)
      rw [hfull] at Hz
      clear hfull
      go_wp2_with fail
      go_ret
      exact ⟨ret_int Hz.out.symm, hb⟩

def outB (v : Int) : Bool := decide (v < 0) || decide (1099511627776 < v)
theorem outB_any {vs : List Int} (h : vs.any outB = false) : Vs vs := fun z hz => by
  have := List.any_eq_false.1 h z hz
  simp [outB] at this
  omega
theorem outside_any (v : Int) (w : World) : Calls Try.prog 55 #[.int .i64 v] w fun e w' => e = .returned (.bool (outB v)) ∧ w' = w := by
  by_cases h1 : v < 0
  · have H : Hid (outB v = true) := by simp [Hid, outB, h1]
    go_enter Try.func55, Try.ntmps55
    go_wp2
    go_ret
    exact ⟨by rw [H.out]; simp, rfl⟩
  · by_cases h2 : 1099511627776 < v
    · have H : Hid (outB v = true) := by simp [Hid, outB, h2]
      go_enter Try.func55, Try.ntmps55
      go_wp2
      go_ret
      exact ⟨by rw [H.out]; simp, rfl⟩
    · have H : Hid (outB v = false) := by simp [Hid, outB]; omega
      go_enter Try.func55, Try.ntmps55
      go_wp2
      go_ret
      exact ⟨by rw [H.out]; simp, rfl⟩

set_option maxRecDepth 100000 in
set_option maxHeartbeats 2000000 in
theorem indexOut_any (A : Option Addr) (n c : Nat) (vs : List Int) (w : World) (h : IL w w.heap.size A n vs) (hn : n ≤ 9223372036854775807) :
    Calls Try.prog 71 #[.slice A n c, .func (.func 55) #[] #[]] w fun e w' => ∃ i : Int, e = .returned (.int .i64 i) ∧ decide (0 ≤ i) = vs.any outB ∧ w' = w := by
  go_enter Try.func71, Try.ntmps71
  go_wp2_with fail
  go_loopw [8] (fun i wr => ∃ k : Nat, k ≤ n ∧ i = .int .i64 k ∧ (vs.take k).any outB = false ∧ wr = w) (fun i _ => n - (intOf i).toNat)
  case atStart => exact ⟨0, Nat.zero_le _, rfl, rfl, rfl⟩
  case round =>
    obtain ⟨k, hk, rfl, hno, rfl⟩ := hrel
    have Hno := Lib.hid hno; clear hno
    by_cases hlt : k < n
    · obtain ⟨b, off, x, rfl, hbl, hx, h0⟩ := h.at_ hlt
      have Ho := Lib.hid (outside_any x)
      cases ha : outB x
      · have Hi : Hid ((vs.take (k + 1)).any outB = false) := by rw [Hid, take_snoc hx, List.any_append, Hno.out]; simp [ha]
        have Hx := Lib.hid ha
        clear hx ha
        go_wp2_with (first | (go_at_call 55; refine (Ho.out _).mono ?_; rw [Hx.out]; rintro e w1 ⟨rfl, rfl⟩))
        go_roundw
        case rel => exact ⟨k + 1, by omega, by go_num, Hi.out, trivial⟩
        case measure => simp [intOf]; omega
      · have Hi : Hid (vs.any outB = true) := List.any_eq_true.2 ⟨x, List.mem_of_getElem? hx, ha⟩
        have Hx := Lib.hid ha
        clear hx ha
        go_wp2_with (first | (go_at_call 55; refine (Ho.out _).mono ?_; rw [Hx.out]; rintro e w1 ⟨rfl, rfl⟩))
        go_ret
        exact ⟨_, rfl, by rw [Hi.out]; simp, rfl⟩
    · have Hi : Hid (vs.any outB = false) := by
        have := Hno.out
        rwa [List.take_of_length_le (by have := h.1; omega)] at this
      go_wp2_with fail
      go_ret
      exact ⟨-1, rfl, by rw [Hi.out]; simp, rfl⟩
set_option maxRecDepth 100000 in
set_option maxHeartbeats 1000000 in
theorem hasOut_any (A : Option Addr) (n c : Nat) (vs : List Int) (w : World) (h : IL w w.heap.size A n vs) (hn : n ≤ 9223372036854775807) :
    Calls Try.prog 54 #[.slice A n c, .func (.func 55) #[] #[]] w fun e w' => e = .returned (.bool (vs.any outB)) ∧ w' = w := by
  have hI := Lib.hid (indexOut_any A n c vs w h hn)
  go_enter Try.func54, Try.ntmps54
  go_wp2_with fail
  refine hI.out.mono ?_
  rintro e w1 ⟨i, rfl, hi, rfl⟩
  go_wp2_with fail
  go_ret
  exact ⟨by rw [← hi]; simp, rfl⟩

/-- the constraint doesn't hold at these numbers -/
def brkB (vs : List Int) (c : LCn) : Bool := decide (valM c.2.1 c.2.2 vs < valM c.1.1 c.1.2 vs)

/-- i is the place of the first one, or -1 -/
def FstI {α : Type} (p : α → Bool) (l : List α) (i : Int) : Prop := (i = -1 ∧ ∀ (k : Nat) (c : α), l[k]? = some c → p c = false) ∨ ∃ k : Nat, i = k ∧ (∃ c, l[k]? = some c ∧ p c = true) ∧ ∀ (j : Nat) (c : α), j < k → l[j]? = some c → p c = false
theorem FstI.same {α : Type} {p : α → Bool} {l : List α} {i j : Int} (hi : FstI p l i) (hj : FstI p l j) : i = j := by
  rcases hi with ⟨rfl, h⟩ | ⟨k, rfl, ⟨c, h1, h2⟩, h3⟩ <;> rcases hj with ⟨rfl, g⟩ | ⟨m, rfl, ⟨d, g1, g2⟩, g3⟩
  · rfl
  · rw [h m d g1] at g2; cases g2
  · rw [g k c h1] at h2; cases h2
  · rcases Nat.lt_trichotomy k m with hkm | rfl | hkm
    · rw [g3 k c hkm h1] at h2; cases h2
    · rfl
    · rw [h3 m d hkm g1] at g2; cases g2

/-- a level that value takes -/
def Good (w : World) (n : Nat) (c : Int) (A : Option Addr) (m : Nat) (l : List (Int × Int)) : Prop := PL w w.heap.size A m l ∧ m ≤ 9223372036854775807 ∧ (∀ x ∈ l, (0 ≤ x.1 ∧ x.1 < n) ∧ 0 ≤ x.2 ∧ x.2 ≤ 1000) ∧ 0 ≤ c ∧ c ≤ 1000

set_option maxRecDepth 100000 in
set_option maxHeartbeats 4000000 in
theorem indexBrk_any (n : Nat) (A : Option Addr) (K cap : Nat) (cs : List LCn) (bv : Nat) (vA : Option Addr) (vc : Nat) (vs : List Int) (w : World) (h : CL w w.heap.size A K cs) (hK : K ≤ 9223372036854775807) (hcs : ∀ c ∈ cs, Con n c)
    (hx : IL w w.heap.size vA n vs) (hvs : Vs vs) (hbv : bv < w.heap.size) (hv : w.cell? ⟨bv, 0, none⟩ = some (.slice vA n vc)) :
    Calls Try.prog 58 #[.slice A K cap, .func (.func 56) #[] #[.pointer (some ⟨bv, 0, none⟩)]] w fun e w' => ∃ i : Int, e = .returned (.int .i64 i) ∧ FstI (brkB vs) cs i ∧ Below w.heap.size w w' := by
  go_enter Try.func58, Try.ntmps58
  go_wp2_with fail
  go_loopw [8] (fun i wr => ∃ k : Nat, k ≤ K ∧ i = .int .i64 k ∧ Hid (∀ (j : Nat) (c : LCn), j < k → cs[j]? = some c → brkB vs c = false) ∧ Below w.heap.size w wr) (fun i _ => K - (intOf i).toNat)
  case atStart => exact ⟨0, Nat.zero_le _, rfl, fun j c hj _ => by omega, Below.refl _ _⟩
  case round =>
    obtain ⟨k, hk, rfl, Hno, hb⟩ := hrel
    by_cases hlt : k < K
    · obtain ⟨b, off, c, A1, m1, c1, A2, m2, c2, rfl, hbl, hc, y0, y1, y2, y3, p1, p2, hcap1, hcap2⟩ := (h.below hb).at_ hlt
      have hsz := hb.size
      have Hcon := hcs c (List.mem_of_getElem? hc)
      have p1w : PL wr wr.heap.size A1 m1 c.1.2 := p1.more hsz
      have p2w : PL wr wr.heap.size A2 m2 c.2.2 := p2.more hsz
      have hb2 : ∀ x ∈ c.2.2, (0 ≤ x.1 ∧ x.1 < n) ∧ 0 ≤ x.2 ∧ x.2 ≤ 1000 := fun x hx => by
        rcases Hcon.b1 with h0 | ⟨y, h0, _, h1⟩
        · rw [h0] at hx; cases hx
        · rw [h0] at hx; rw [List.mem_singleton.1 hx]; exact h1
      have G1 : Good wr n c.1.1 A1 m1 c.1.2 := ⟨p1w, by omega, Hcon.a1, Hcon.a0.1, Hcon.a0.2⟩
      have G2 : Good wr n c.2.1 A2 m2 c.2.2 := ⟨p2w, by omega, hb2, Hcon.b0.1, Hcon.b0.2⟩
      have hX : Below wr.heap.size wr (wr.alloc (.cells #[.int .i64 c.1.1, .slice A1 m1 c1, .int .i64 c.2.1, .slice A2 m2 c2] 40)) := (Below.refl _ _).alloc (Nat.le_refl _) _
      have hxw : IL wr wr.heap.size vA n vs := (hx.below hb).more hsz
      have hV : ∀ (c0 : Int) (A0 : Option Addr) (m0 k0 : Nat) (l0 : List (Int × Int)), Good wr n c0 A0 m0 l0 → ∀ Y, Below (wr.heap.size + 1) (wr.alloc (.cells #[.int .i64 c.1.1, .slice A1 m1 c1, .int .i64 c.2.1, .slice A2 m2 c2] 40)) Y → Calls Try.prog 57 #[.agg #[.int .i64 c0, .slice A0 m0 k0], .slice vA n vc] Y fun e w' => e = .returned (.int .i64 (valM c0 l0 vs)) ∧ Below (wr.heap.size + 1) (wr.alloc (.cells #[.int .i64 c.1.1, .slice A1 m1 c1, .int .i64 c.2.1, .slice A2 m2 c2] 40)) w' := fun c0 A0 m0 k0 l0 hG Y hY => by
        have hYs : wr.heap.size + 1 ≤ Y.heap.size := by have := hY.size; simp at this; omega
        have hY2 : Below wr.heap.size wr Y := hX.trans (hY.mono (by omega))
        exact (value_any c0 A0 m0 k0 l0 vA n vc vs Y (hG.1.lift hY2) (hxw.lift hY2) hG.2.1 hG.2.2.1 hvs hG.2.2.2).mono fun e w' ⟨h1, h2⟩ => ⟨h1, hY.trans (h2.mono hYs)⟩
      have hvr := (hb.cell (p := ⟨bv, 0, none⟩) hbv).trans hv
      have lbv : bv < wr.heap.size := by omega
      have hSx : ∀ w', Below (wr.heap.size + 1) (wr.alloc (.cells #[.int .i64 c.1.1, .slice A1 m1 c1, .int .i64 c.2.1, .slice A2 m2 c2] 40)) w' → (w'.cell? ⟨bv, 0, none⟩ = some (.slice vA n vc) ∧ w'.cell? ⟨wr.heap.size, 0, none⟩ = some (.int .i64 c.1.1) ∧ w'.cell? ⟨wr.heap.size, 1, none⟩ = some (.slice A1 m1 c1) ∧ w'.cell? ⟨wr.heap.size, 2, none⟩ = some (.int .i64 c.2.1) ∧ w'.cell? ⟨wr.heap.size, 3, none⟩ = some (.slice A2 m2 c2)) := fun w' hb => by
        obtain ⟨d0, d1, d2, d3, _⟩ := box4 hb
        exact ⟨((hX.trans (hb.mono (by omega))).cell (p := ⟨bv, 0, none⟩) lbv).trans hvr, d0, d1, d2, d3⟩
      have HV := Lib.hid hV
      have HSx := Lib.hid hSx
      have Hwx : Hid (∀ w', Below (wr.heap.size + 1) (wr.alloc (.cells #[.int .i64 c.1.1, .slice A1 m1 c1, .int .i64 c.2.1, .slice A2 m2 c2] 40)) w' → Below w.heap.size w w') := fun w' hb' => hb.trans ((hX.trans (hb'.mono (by omega))).mono hsz)
      have Hc := Lib.hid hc
      have hzz : Below (wr.heap.size + 1) (wr.alloc (.cells #[.int .i64 c.1.1, .slice A1 m1 c1, .int .i64 c.2.1, .slice A2 m2 c2] 40)) (wr.alloc (.cells #[.int .i64 c.1.1, .slice A1 m1 c1, .int .i64 c.2.1, .slice A2 m2 c2] 40)).drew := (Below.refl _ _).drew
      obtain ⟨za, hza⟩ : ∃ za, valM c.1.1 c.1.2 vs = za := ⟨_, rfl⟩
      obtain ⟨zb, hzb⟩ : ∃ zb, valM c.2.1 c.2.2 vs = zb := ⟨_, rfl⟩
      have HA := Lib.hid (fun Y => HV.out _ _ _ c1 _ G1 Y)
      have HB := Lib.hid (fun Y => HV.out _ _ _ c2 _ G2 Y)
      rw [hza] at HA
      rw [hzb] at HB
      have Hbrk : Hid (brkB vs c = decide (zb < za)) := by rw [Hid, brkB, hza, hzb]
      clear hV hSx hX hvr hc HV hza hzb G1 G2 p1 p2 p1w p2w
      by_cases hz : zb < za
      · go_wp2
        go_region_held3 (fun w' => w'.cell? ⟨bv, 0, none⟩ = some (.slice vA n vc) ∧ w'.cell? ⟨wr.heap.size, 0, none⟩ = some (.int .i64 c.1.1) ∧ w'.cell? ⟨wr.heap.size, 1, none⟩ = some (.slice A1 m1 c1) ∧ w'.cell? ⟨wr.heap.size, 2, none⟩ = some (.int .i64 c.2.1) ∧ w'.cell? ⟨wr.heap.size, 3, none⟩ = some (.slice A2 m2 c2)) (first | exact HSx.out _ (by assumption))
          (first | (go_at_call 57; with_reducible refine (HA.out _ (by assumption)).mono ?_; rintro e w5 ⟨rfl, hz5⟩) | (go_at_call 57; with_reducible refine (HB.out _ (by assumption)).mono ?_; rintro e w6 ⟨rfl, hz6⟩))
        go_wp2_with fail
        go_ret
        exact ⟨_, rfl, .inr ⟨k, rfl, ⟨c, Hc.out, by rw [Hbrk.out]; simpa using hz⟩, Hno.out⟩, Hwx.out _ (by assumption)⟩
      · go_wp2
        go_region_held3 (fun w' => w'.cell? ⟨bv, 0, none⟩ = some (.slice vA n vc) ∧ w'.cell? ⟨wr.heap.size, 0, none⟩ = some (.int .i64 c.1.1) ∧ w'.cell? ⟨wr.heap.size, 1, none⟩ = some (.slice A1 m1 c1) ∧ w'.cell? ⟨wr.heap.size, 2, none⟩ = some (.int .i64 c.2.1) ∧ w'.cell? ⟨wr.heap.size, 3, none⟩ = some (.slice A2 m2 c2)) (first | exact HSx.out _ (by assumption))
          (first | (go_at_call 57; with_reducible refine (HA.out _ (by assumption)).mono ?_; rintro e w5 ⟨rfl, hz5⟩) | (go_at_call 57; with_reducible refine (HB.out _ (by assumption)).mono ?_; rintro e w6 ⟨rfl, hz6⟩))
        go_wp2_with fail
        go_roundw
        case rel =>
          refine ⟨k + 1, by omega, by go_num, fun j d hj hd => ?_, Hwx.out _ (by assumption)⟩
          by_cases hjk : j = k
          · subst hjk
            have h9 := Hc.out
            rw [hd] at h9
            cases h9
            rw [Hbrk.out]; simpa using hz
          · exact Hno.out j d (by omega) hd
        case measure => simp [intOf]; omega
    · have hkK : k = K := by omega
      subst hkK
      have hjm2 : ¬ (k : Int) < (k : Int) := by omega
      go_wp2_with fail
      go_ret
      exact ⟨-1, rfl, .inl ⟨rfl, fun j c hc => Hno.out j c (by have := (List.getElem?_eq_some_iff.1 hc).1; have := h.1; omega) hc⟩, hb⟩

/-- what Holds says -/
def HoldsPost (v : Int) (cs : List LCn) (vs : List Int) (w : World) (e : Ending) (w' : World) : Prop :=
  Below w.heap.size w w' ∧ (gvld v cs = false ∧ e = .returned (.tuple #[.int .i64 0, .int .i64 4]) ∨
    gvld v cs = true ∧ (((vs.length : Int) ≠ v ∨ vs.any outB = true) ∧ e = .returned (.tuple #[.int .i64 0, .int .i64 1]) ∨
      (vs.length : Int) = v ∧ vs.any outB = false ∧ ∃ i : Int, e = .returned (.tuple #[.int .i64 i, .int .i64 0]) ∧ FstI (brkB vs) cs i))

set_option maxRecDepth 100000 in
set_option maxHeartbeats 2000000 in
theorem holds_any (v : Int) (A : Option Addr) (K cap : Nat) (cs : List LCn) (vA : Option Addr) (vn vc : Nat) (vs : List Int) (w : World) (h : CL w w.heap.size A K cs) (hK : K ≤ 9223372036854775807) (hx : IL w w.heap.size vA vn vs) (hvn : vn ≤ 9223372036854775807) :
    Calls Try.prog 40 #[.int .i64 v, .slice A K cap, .slice vA vn vc] w (HoldsPost v cs vs w) := by
  have hX : Below w.heap.size w (w.alloc (.cells #[.slice vA vn vc] 42)) := (Below.refl _ w).alloc (Nat.le_refl _) _
  have hXs : (w.alloc (.cells #[.slice vA vn vc] 42)).heap.size = w.heap.size + 1 := by simp
  have hx0 : (w.alloc (.cells #[.slice vA vn vc] 42)).cell? ⟨w.heap.size, 0, none⟩ = some (.slice vA vn vc) := by simp
  have hva := gvalid_any v A K cap cs _ (h.lift hX) hK
  have hvl : vs.length = vn := hx.1
  cases hg : gvld v cs
  · rw [hg] at hva
    have Hva := Lib.hid hva
    clear hva hXs hx0
    go_enter Try.func40, Try.ntmps40
    go_wp2_with fail
    refine Hva.out.mono ?_
    rintro e w1 ⟨rfl, hb1⟩
    go_wp2_with fail
    go_ret2
    exact ⟨hX.trans (hb1.mono hX.size), .inl ⟨hg, rfl⟩⟩
  · rw [hg] at hva
    have Hva := Lib.hid hva
    clear hva
    have hg' := hg
    unfold gvld at hg'
    rw [Bool.and_eq_true, decide_eq_true_eq] at hg'
    obtain ⟨⟨g0, g1, g2⟩, g3⟩ := hg'
    obtain ⟨n, rfl⟩ : ∃ n : Nat, v = n := ⟨v.toNat, by omega⟩
    have hcs : ∀ c ∈ cs, Con n c := fun c hc => con_of (by have := List.all_eq_true.1 g3 c hc; exact this)
    have Hcs := Lib.hid hcs
    have Hx0 := Lib.hid hx0
    have HXs := Lib.hid hXs
    have Hvl := Lib.hid hvl
    clear hcs g3 hx0 hXs hvl
    by_cases hl : vn = n
    · subst hl
      have hne : ((vn : Int) == (vn : Int)) = true := by simp
      go_enter Try.func40, Try.ntmps40
      go_wp2_with fail
      refine Hva.out.mono ?_
      rintro e w1 ⟨rfl, hb1⟩
      have hbw1 : Below w.heap.size w w1 := hX.trans (hb1.mono hX.size)
      have b1 : w1.cell? ⟨w.heap.size, 0, none⟩ = some (.slice vA vn vc) := (hb1.cell (p := ⟨w.heap.size, 0, none⟩) (by have := HXs.out; show w.heap.size < _; omega)).trans Hx0.out
      have hw1 : w.heap.size < w1.heap.size := by have := hb1.size; have := HXs.out; omega
      have hou := hasOut_any vA vn vc vs w1 ((hx.below hbw1).more hbw1.size) hvn
      cases ho : vs.any outB
      · rw [ho] at hou
        have Hou := Lib.hid hou
        have hib := indexBrk_any vn A K cap cs w.heap.size vA vc vs w1 ((h.below hbw1).more hbw1.size) hK Hcs.out ((hx.below hbw1).more hbw1.size) (outB_any ho) hw1 b1
        have Hib := Lib.hid hib
        clear hou hib
        go_wp2_with fail
        refine Hou.out.mono ?_
        rintro e w2 ⟨rfl, rfl⟩
        go_wp2_with fail
        refine Hib.out.mono ?_
        rintro e w3 ⟨i, rfl, hi, hb3⟩
        go_wp2_with fail
        go_ret2
        exact ⟨hbw1.trans (hb3.mono hbw1.size), .inr ⟨hg, .inr ⟨by rw [Hvl.out], ho, i, rfl, hi⟩⟩⟩
      · rw [ho] at hou
        have Hou := Lib.hid hou
        clear hou
        go_wp2_with fail
        refine Hou.out.mono ?_
        rintro e w2 ⟨rfl, rfl⟩
        go_wp2_with fail
        go_ret2
        exact ⟨hbw1, .inr ⟨hg, .inl ⟨.inr ho, rfl⟩⟩⟩
    · have hli : ¬ (vn : Int) = (n : Int) := by omega
      have hne : ((vn : Int) == (n : Int)) = false := by simpa using hli
      go_enter Try.func40, Try.ntmps40
      go_wp2_with fail
      refine Hva.out.mono ?_
      rintro e w1 ⟨rfl, hb1⟩
      have hbw1 : Below w.heap.size w w1 := hX.trans (hb1.mono hX.size)
      have b1 : w1.cell? ⟨w.heap.size, 0, none⟩ = some (.slice vA vn vc) := (hb1.cell (p := ⟨w.heap.size, 0, none⟩) (by have := HXs.out; show w.heap.size < _; omega)).trans Hx0.out
      go_wp2_with fail
      go_ret2
      exact ⟨hbw1, .inr ⟨hg, .inl ⟨.inl (by rw [Hvl.out]; exact hli), rfl⟩⟩⟩
end Go.Proofs.Ytfaebmpdianniaa
