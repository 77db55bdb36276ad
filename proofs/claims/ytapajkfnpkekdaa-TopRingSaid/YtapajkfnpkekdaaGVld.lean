/-
  'Valid' of package graph and of its reference: both return one and the same Bool for every system, and leave the memory that was there alone.
-/
import Derived.Test.YtapajkfnpkekdaaVld
import Derived.Test.YtapajkfnpkekdaaRVld
import Derived.Test.YtapajkfnpkekdaaLeq
namespace Go.Proofs.Ytapajkfnpkekdaa
open Go Go.RowKit

/-- a constraint: the level A, the level B -/
abbrev LCn := (Int × List (Int × Int)) × (Int × List (Int × Int))
/-- the value v is a list of parts -/
def LvOk (w : World) (B : Nat) (v : Value) (l : List (Int × Int)) : Prop := ∃ A n c, v = .slice A n c ∧ PL w B A n l ∧ n ≤ c ∧ c ≤ 9223372036854775807
theorem LvOk.below {w w' : World} {B : Nat} {v : Value} {l : List (Int × Int)} (h : LvOk w B v l) (hb : Below B w w') : LvOk w' B v l := by
  obtain ⟨A, n, c, e, h1, h2, h3⟩ := h
  exact ⟨A, n, c, e, h1.below hb, h2, h3⟩
theorem LvOk.more {w : World} {B B' : Nat} {v : Value} {l : List (Int × Int)} (h : LvOk w B v l) (hB : B ≤ B') : LvOk w B' v l := by
  obtain ⟨A, n, c, e, h1, h2, h3⟩ := h
  exact ⟨A, n, c, e, h1.more hB, h2, h3⟩
/-- the slice value (A, n) reads as these constraints (four cells an element) -/
def CL (w : World) (B : Nat) (A : Option Addr) (n : Nat) (cs : List LCn) : Prop :=
  cs.length = n ∧ (0 < n → ∃ b off, A = some ⟨b, off, none⟩ ∧ b < B ∧ ∀ j c, cs[j]? = some c → ∃ v1 v2, w.cell? ⟨b, off + j * 4, none⟩ = some (.int .i64 c.1.1) ∧ w.cell? ⟨b, off + j * 4 + 1, none⟩ = some v1 ∧ w.cell? ⟨b, off + j * 4 + 2, none⟩ = some (.int .i64 c.2.1) ∧ w.cell? ⟨b, off + j * 4 + 3, none⟩ = some v2 ∧ LvOk w B v1 c.1.2 ∧ LvOk w B v2 c.2.2)
theorem CL.below {w w' : World} {B n : Nat} {A : Option Addr} {cs : List LCn} (h : CL w B A n cs) (hb : Below B w w') : CL w' B A n cs :=
  ⟨h.1, fun hn => by
    obtain ⟨b, off, e, hB, hc⟩ := h.2 hn
    refine ⟨b, off, e, hB, fun j c hj => ?_⟩
    obtain ⟨v1, v2, h0, h1, h2, h3, h4, h5⟩ := hc j c hj
    exact ⟨v1, v2, (hb.cell (p := ⟨b, off + j * 4, none⟩) hB).trans h0, (hb.cell (p := ⟨b, off + j * 4 + 1, none⟩) hB).trans h1, (hb.cell (p := ⟨b, off + j * 4 + 2, none⟩) hB).trans h2, (hb.cell (p := ⟨b, off + j * 4 + 3, none⟩) hB).trans h3, h4.below hb, h5.below hb⟩⟩
theorem CL.more {w : World} {B B' n : Nat} {A : Option Addr} {cs : List LCn} (h : CL w B A n cs) (hB : B ≤ B') : CL w B' A n cs :=
  ⟨h.1, fun hn => by
    obtain ⟨b, off, e, hb, hc⟩ := h.2 hn
    refine ⟨b, off, e, by omega, fun j c hj => ?_⟩
    obtain ⟨v1, v2, h0, h1, h2, h3, h4, h5⟩ := hc j c hj
    exact ⟨v1, v2, h0, h1, h2, h3, h4.more hB, h5.more hB⟩⟩
theorem CL.lift {w w' : World} {n : Nat} {A : Option Addr} {cs : List LCn} (h : CL w w.heap.size A n cs) (hb : Below w.heap.size w w') : CL w' w'.heap.size A n cs := (h.below hb).more hb.size
theorem CL.at_ {w : World} {B n k : Nat} {A : Option Addr} {cs : List LCn} (h : CL w B A n cs) (hk : k < n) : ∃ b off c A1 n1 c1 A2 n2 c2, A = some ⟨b, off, none⟩ ∧ b < B ∧ cs[k]? = some c ∧ w.cell? ⟨b, off + k * 4, none⟩ = some (.int .i64 c.1.1) ∧ w.cell? ⟨b, off + k * 4 + 1, none⟩ = some (.slice A1 n1 c1) ∧ w.cell? ⟨b, off + k * 4 + 2, none⟩ = some (.int .i64 c.2.1) ∧ w.cell? ⟨b, off + k * 4 + 3, none⟩ = some (.slice A2 n2 c2) ∧ PL w B A1 n1 c.1.2 ∧ PL w B A2 n2 c.2.2 ∧ n1 ≤ c1 ∧ c1 ≤ 9223372036854775807 ∧ n2 ≤ c2 ∧ c2 ≤ 9223372036854775807 := by
  obtain ⟨b, off, e, hb, hc⟩ := h.2 (by omega)
  have hl : k < cs.length := by have := h.1; omega
  obtain ⟨v1, v2, h0, h1, h2, h3, ⟨A1, n1, c1, rfl, p1, q1, r1⟩, ⟨A2, n2, c2, rfl, p2, q2, r2⟩⟩ := hc k cs[k] (List.getElem?_eq_getElem hl)
  exact ⟨b, off, cs[k], A1, n1, c1, A2, n2, c2, e, hb, List.getElem?_eq_getElem hl, h0, h1, h2, h3, p1, p2, q1, r1, q2, r2⟩

/-- has some part a variable from n on? -/
def gev (l : List (Int × Int)) (n : Int) : Bool := l.any fun x => decide (n ≤ x.1)
theorem gev_snoc (l : List (Int × Int)) (x : Int × Int) (n : Int) : gev (l ++ [x]) n = (gev l n || decide (n ≤ x.1)) := by simp [gev]
theorem gev_of {l : List (Int × Int)} {n : Int} {k : Nat} {x : Int × Int} (hx : l[k]? = some x) (h : n ≤ x.1) : gev l n = true := by
  simp only [gev, List.any_eq_true]
  exact ⟨x, List.mem_of_getElem? hx, by simpa using h⟩
noncomputable def belowB (n : Int) (a : Int × List (Int × Int)) : Bool := vld a.1 a.2 && !(gev a.2 n)
/-- is B as it has to be? -/
def rightB (b : Int × List (Int × Int)) : Bool := !(decide (1 < b.2.length) || (b.2.length == 1 && b.1 != 0))
noncomputable def conB (n : Int) (c : LCn) : Bool := belowB n c.1 && belowB n c.2 && rightB c.2
noncomputable def fitB (n : Int) (cs : List LCn) : Bool := cs.all (conB n)
noncomputable def gvld (n : Int) (cs : List LCn) : Bool := decide (0 ≤ n ∧ n ≤ 1200 ∧ cs.length ≤ 3000) && fitB n cs
theorem fitB_snoc (n : Int) (l : List LCn) (c : LCn) : fitB n (l ++ [c]) = (fitB n l && conB n c) := by simp [fitB]
theorem fitB_not {n : Int} {l : List LCn} {k : Nat} {c : LCn} (hc : l[k]? = some c) (h : conB n c = false) : fitB n l = false := by
  simp only [fitB, List.all_eq_false]
  exact ⟨c, List.mem_of_getElem? hc, by simp [h]⟩

set_option maxHeartbeats 400000 in
theorem indexGe_any (A : Option Addr) (n c : Nat) (l : List (Int × Int)) (v : Int) (bv : Nat) (w : World) (h : PL w w.heap.size A n l) (hn : n ≤ 9223372036854775807) (hbv : bv < w.heap.size) (hv : w.cell? ⟨bv, 0, none⟩ = some (.int .i64 v)) :
    Calls Try.prog 52 #[.slice A n c, .func (.func 36) #[] #[.pointer (some ⟨bv, 0, none⟩)]] w fun e w' => ∃ i : Int, e = .returned (.int .i64 i) ∧ decide (0 ≤ i) = gev l v ∧ Below w.heap.size w w' := by
  go_enter Try.func52, Try.ntmps52
  go_wp2
  go_loopw [8] (fun i wr => ∃ k : Nat, k ≤ n ∧ i = .int .i64 k ∧ gev (l.take k) v = false ∧ Below w.heap.size w wr) (fun i _ => n - (intOf i).toNat)
  case atStart => exact ⟨0, Nat.zero_le _, rfl, rfl, Below.refl _ _⟩
  case round =>
    obtain ⟨k, hk, rfl, hno, hb⟩ := hrel
    have Hno := Lib.hid hno; clear hno
    by_cases hlt : k < n
    · obtain ⟨b, off, x, rfl, hbl, hx, h0, h1⟩ := (h.below hb).at_ hlt
      have hvr : wr.cell? ⟨bv, 0, none⟩ = some (.int .i64 v) := (hb.cell (p := ⟨bv, 0, none⟩) hbv).trans hv
      have hbw : bv < wr.heap.size := Nat.lt_of_lt_of_le hbv hb.size
      have hbn : bv ≠ wr.heap.size := by omega
      by_cases he : v ≤ x.1
      · have Hi : Hid (gev l v = true) := gev_of hx he
        go_wp2
        go_ret
        exact ⟨_, rfl, by rw [Hi.out]; simp, hb.alloc hb.size _⟩
      · have Hi : Hid (gev (l.take (k + 1)) v = false) := by rw [Hid, take_snoc hx, gev_snoc, Hno.out]; simpa using he
        go_wp2
        go_roundw
        case rel => exact ⟨k + 1, by omega, by go_num, Hi.out, hb.alloc hb.size _⟩
        case measure => simp [intOf]; omega
    · have Hi : Hid (gev l v = false) := by
        have := Hno.out
        rwa [List.take_of_length_le (by have := h.1; omega)] at this
      go_wp2
      go_ret
      exact ⟨-1, rfl, by rw [Hi.out]; simp, hb⟩
set_option maxHeartbeats 400000 in
theorem containsGe_any (A : Option Addr) (n c : Nat) (l : List (Int × Int)) (v : Int) (bv : Nat) (w : World) (h : PL w w.heap.size A n l) (hn : n ≤ 9223372036854775807) (hbv : bv < w.heap.size) (hv : w.cell? ⟨bv, 0, none⟩ = some (.int .i64 v)) :
    Calls Try.prog 35 #[.slice A n c, .func (.func 36) #[] #[.pointer (some ⟨bv, 0, none⟩)]] w fun e w' => e = .returned (.bool (gev l v)) ∧ Below w.heap.size w w' := by
  go_enter Try.func35, Try.ntmps35
  go_wp2_with fail
  refine (indexGe_any A n c l v bv w h hn hbv hv).mono ?_
  rintro e w1 ⟨i, rfl, hi, hb⟩
  go_wp2_with fail
  go_ret
  exact ⟨rfl, hb⟩
set_option maxRecDepth 100000 in
set_option maxHeartbeats 1000000 in
theorem below_any (v c : Int) (A : Option Addr) (n cap : Nat) (l : List (Int × Int)) (w : World) (h : PL w w.heap.size A n l) (hn : n ≤ cap) (hm : cap ≤ 9223372036854775807) :
    Calls Try.prog 27 #[.int .i64 v, .agg #[.int .i64 c, .slice A n cap]] w fun e w' => e = .returned (.bool (belowB v (c, l))) ∧ Below w.heap.size w w' := by
  have hX : Below w.heap.size w ((w.alloc (.cells #[.int .i64 v] 3)).alloc (.cells #[.int .i64 c, .slice A n cap] 30)) := ((Below.refl _ w).alloc (Nat.le_refl _) _).alloc (by simp) _
  have hV := valid_any c A n cap l _ (h.lift hX) hn hm
  have x0 : ((w.alloc (.cells #[.int .i64 v] 3)).alloc (.cells #[.int .i64 c, .slice A n cap] 30)).cell? ⟨w.heap.size, 0, none⟩ = some (.int .i64 v) := (World.cell?_alloc_lt _ _ ⟨w.heap.size, 0, none⟩ (by simp)).trans (by simp)
  have HB : Hid (belowB v (c, l) = (vld c l && !(gev l v))) := rfl
  have HV := Lib.hid hV
  clear hV
  cases hv : vld c l
  · rw [hv] at HV
    have Hr : Hid (belowB v (c, l) = false) := by rw [Hid, HB.out, hv]; rfl
    go_enter Try.func27, Try.ntmps27
    go_wp2_with fail
    refine HV.out.mono ?_
    rintro e w1 ⟨rfl, hb1⟩
    go_wp2_with fail
    go_ret
    exact ⟨ret_bool Hr.out.symm, hX.trans (hb1.mono hX.size)⟩
  · rw [hv] at HV
    have Hr : Hid (belowB v (c, l) = !(gev l v)) := by rw [Hid, HB.out, hv]; rfl
    go_enter Try.func27, Try.ntmps27
    go_wp2_with fail
    refine HV.out.mono ?_
    rintro e w1 ⟨rfl, hb1⟩
    have hX1 : Below w.heap.size w w1 := hX.trans (hb1.mono hX.size)
    have y0 : w1.cell? ⟨w.heap.size, 0, none⟩ = some (.int .i64 v) := (hb1.cell (p := ⟨w.heap.size, 0, none⟩) (by simp; omega)).trans x0
    have y1 : w1.cell? ⟨w.heap.size + 1, 0, none⟩ = some (.int .i64 c) := (hb1.cell (p := ⟨w.heap.size + 1, 0, none⟩) (by simp)).trans (by simp)
    have y2 : w1.cell? ⟨w.heap.size + 1, 1, none⟩ = some (.slice A n cap) := (hb1.cell (p := ⟨w.heap.size + 1, 1, none⟩) (by simp)).trans (by simp)
    have hsz := hb1.size
    simp at hsz
    go_wp2_with fail
    refine (containsGe_any A n cap l v w.heap.size w1 (h.lift hX1) (by omega) (by omega) y0).mono ?_
    rintro e w2 ⟨rfl, hb2⟩
    go_wp2_with fail
    go_ret
    exact ⟨ret_bool Hr.out.symm, hX1.trans (hb2.mono hX1.size)⟩

theorem box4 {w wi : World} {x0 x1 x2 x3 : Value} {t : TypeId} (hb : Below (w.heap.size + 1) (w.alloc (.cells #[x0, x1, x2, x3] t)) wi) :
    wi.cell? ⟨w.heap.size, 0, none⟩ = some x0 ∧ wi.cell? ⟨w.heap.size, 1, none⟩ = some x1 ∧ wi.cell? ⟨w.heap.size, 2, none⟩ = some x2 ∧ wi.cell? ⟨w.heap.size, 3, none⟩ = some x3 ∧ Below w.heap.size w wi :=
  ⟨(hb.cell (p := ⟨w.heap.size, 0, none⟩) (by simp)).trans (by simp), (hb.cell (p := ⟨w.heap.size, 1, none⟩) (by simp)).trans (by simp), (hb.cell (p := ⟨w.heap.size, 2, none⟩) (by simp)).trans (by simp), (hb.cell (p := ⟨w.heap.size, 3, none⟩) (by simp)).trans (by simp), back0 hb⟩

set_option maxRecDepth 100000 in
set_option maxHeartbeats 2000000 in
theorem fit_any (v : Int) (A : Option Addr) (n cap : Nat) (cs : List LCn) (w : World) (h : CL w w.heap.size A n cs) (hn : n ≤ 9223372036854775807) :
    Calls Try.prog 20 #[.int .i64 v, .slice A n cap] w fun e w' => e = .returned (.bool (fitB v cs)) ∧ Below w.heap.size w w' := by
  go_enter Try.func20, Try.ntmps20
  go_wp2_with fail
  go_loopw [9] (fun i wr => ∃ k : Nat, k ≤ n ∧ i = .int .i64 k ∧ fitB v (cs.take k) = true ∧ Below w.heap.size w wr) (fun i _ => n - (intOf i).toNat)
  case atStart => exact ⟨0, Nat.zero_le _, rfl, rfl, Below.refl _ _⟩
  case round =>
    obtain ⟨k, hk, rfl, hok, hb⟩ := hrel
    have Hok := Lib.hid hok; clear hok
    by_cases hlt : k < n
    · obtain ⟨b, off, c, A1, n1, c1, A2, n2, c2, rfl, hbl, hc, z0, z1, z2, z3, p1, p2, q1, r1, q2, r2⟩ := (h.lift hb).at_ hlt
      have hX : Below wr.heap.size wr (wr.alloc (.cells #[.int .i64 c.1.1, .slice A1 n1 c1, .int .i64 c.2.1, .slice A2 n2 c2] 32)) := (Below.refl _ _).alloc (Nat.le_refl _) _
      have hA := Lib.hid (below_any v c.1.1 A1 n1 c1 c.1.2 _ (p1.lift hX) q1 r1)
      have hB := Lib.hid (fun W (hW : Below wr.heap.size wr W) => below_any v c.2.1 A2 n2 c2 c.2.2 W (p2.lift hW) q2 r2)
      have HC : Hid (conB v c = (belowB v c.1 && belowB v c.2 && rightB c.2)) := rfl
      have Hno := Lib.hid (fun h => fitB_not (n := v) hc h)
      have Hst : Hid (fitB v (cs.take (k + 1)) = conB v c) := by rw [Hid, take_snoc hc, fitB_snoc, Hok.out]; rfl
      have hl2 : c.2.2.length = n2 := p2.1
      clear hc p1 p2
      change Hid (Calls Try.prog 27 #[.int .i64 v, .agg #[.int .i64 c.1.1, .slice A1 n1 c1]] _ fun e w' => e = .returned (.bool (belowB v c.1)) ∧ _) at hA
      change Hid (∀ W, Below wr.heap.size wr W → Calls Try.prog 27 #[.int .i64 v, .agg #[.int .i64 c.2.1, .slice A2 n2 c2]] W fun e w' => e = .returned (.bool (belowB v c.2)) ∧ _) at hB
      cases hva : belowB v c.1
      · rw [hva] at hA
        have Hf : Hid (fitB v cs = false) := Hno.out (by rw [HC.out, hva]; rfl)
        clear hva
        go_wp2_with fail
        refine hA.out.mono ?_
        rintro e w1 ⟨rfl, hb1⟩
        go_wp2_with fail
        go_ret
        exact ⟨ret_bool Hf.out.symm, hb.trans ((hX.trans (hb1.mono hX.size)).mono hb.size)⟩
      · rw [hva] at hA
        cases hvb : belowB v c.2
        · have Hf : Hid (fitB v cs = false) := Hno.out (by rw [HC.out, hva, hvb]; rfl)
          rw [hvb] at hB
          clear hva hvb
          go_wp2_with fail
          refine hA.out.mono ?_
          rintro e w1 ⟨rfl, hb1⟩
          obtain ⟨g0, g1, g2, g3, hX1⟩ := box4 (hb1.mono (by simp))
          go_wp2_with fail
          refine (hB.out _ hX1).mono ?_
          rintro e w2 ⟨rfl, hb2⟩
          go_wp2_with fail
          go_ret
          exact ⟨ret_bool Hf.out.symm, hb.trans ((hX1.trans (hb2.mono hX1.size)).mono hb.size)⟩
        · have HC2 : Hid (conB v c = rightB c.2) := by rw [Hid, HC.out, hva, hvb]; rfl
          have HR : Hid (rightB c.2 = !(decide (1 < n2) || (n2 == 1 && c.2.1 != 0))) := by rw [Hid, ← hl2]; rfl
          rw [hvb] at hB
          clear hva hvb hl2
          go_wp2_with fail
          refine hA.out.mono ?_
          rintro e w1 ⟨rfl, hb1⟩
          have hb1' := hb1.mono (B' := wr.heap.size + 1) (by simp)
          obtain ⟨g0, g1, g2, g3, hX1⟩ := box4 hb1'
          go_wp2_with fail
          refine (hB.out _ hX1).mono ?_
          rintro e w2 ⟨rfl, hb2⟩
          have hb2' := hb1'.trans (hb2.mono (by have := hb1'.size; simp at this; omega))
          clear g0 g1 g2 g3
          obtain ⟨g0, g1, g2, g3, hX2⟩ := box4 hb2'
          have hf2 : Below w.heap.size w w2 := hb.trans (hX2.mono hb.size)
          by_cases hn1 : 1 < n2
          · have hi1 : (1 : Int) < (n2 : Int) := by omega
            have Hf : Hid (fitB v cs = false) := Hno.out (by rw [HC2.out, HR.out, decide_eq_true hn1]; rfl)
            go_wp2_with fail
            go_ret
            exact ⟨ret_bool Hf.out.symm, hf2⟩
          · have hi1 : ¬ (1 : Int) < (n2 : Int) := by omega
            by_cases hn2 : n2 = 1
            · have hi2 : ((n2 : Int) == 1) = true := by simp [hn2]
              by_cases hc0 : c.2.1 = 0
              · have hi3 : (c.2.1 == 0) = true := by simp [hc0]
                have hi4 : (c.2.1 != 0) = false := by simp [hc0]
                have Hn : Hid (fitB v (cs.take (k + 1)) = true) := by rw [Hid, Hst.out, HC2.out, HR.out, decide_eq_false hn1, hi4]; simp
                clear hc0 hn2
                go_wp2_with fail
                go_roundw
                case rel => exact ⟨k + 1, by omega, by go_num, Hn.out, hf2⟩
                case measure => simp [intOf]; omega
              · have hi3 : (c.2.1 == 0) = false := by simp [hc0]
                have hi4 : (c.2.1 != 0) = true := by simp [hc0]
                have Hf : Hid (fitB v cs = false) := Hno.out (by rw [HC2.out, HR.out, hi4, hn2]; rfl)
                clear hc0 hn2
                go_wp2_with fail
                go_ret
                exact ⟨ret_bool Hf.out.symm, hf2⟩
            · have hi2 : ((n2 : Int) == 1) = false := by simp; omega
              have Hn : Hid (fitB v (cs.take (k + 1)) = true) := by
                rw [Hid, Hst.out, HC2.out, HR.out, decide_eq_false hn1, show (n2 == 1) = false by simp [hn2]]; rfl
              clear hn2
              go_wp2_with fail
              go_roundw
              case rel => exact ⟨k + 1, by omega, by go_num, Hn.out, hf2⟩
              case measure => simp [intOf]; omega
    · have Hn : Hid (fitB v cs = true) := by
        have := Hok.out
        rwa [List.take_of_length_le (by have := h.1; omega)] at this
      go_wp2_with fail
      go_ret
      exact ⟨ret_bool Hn.out.symm, hb⟩

set_option maxRecDepth 100000 in
set_option maxHeartbeats 1000000 in
theorem gvalid_any (v : Int) (A : Option Addr) (n cap : Nat) (cs : List LCn) (w : World) (h : CL w w.heap.size A n cs) (hn : n ≤ 9223372036854775807) :
    Calls Try.prog 11 #[.int .i64 v, .slice A n cap] w fun e w' => e = .returned (.bool (gvld v cs)) ∧ Below w.heap.size w w' := by
  have hl : cs.length = n := h.1
  have hF := Lib.hid (fit_any v A n cap cs w h hn)
  by_cases h0 : 0 ≤ v
  · by_cases h1 : v ≤ 1200
    · by_cases h2 : n ≤ 3000
      · have h2' : (n : Int) ≤ 3000 := by omega
        have Hr : Hid (gvld v cs = fitB v cs) := by rw [Hid, gvld, decide_eq_true ⟨h0, h1, by omega⟩, Bool.true_and]
        go_enter Try.func11, Try.ntmps11
        go_wp2_with fail
        refine hF.out.mono ?_
        rintro e w1 ⟨rfl, hb1⟩
        go_wp2_with fail
        go_ret
        exact ⟨ret_bool Hr.out.symm, hb1⟩
      · have h2' : ¬ (n : Int) ≤ 3000 := by omega
        have Hr : Hid (gvld v cs = false) := by rw [Hid, gvld, decide_eq_false (by omega), Bool.false_and]
        go_enter Try.func11, Try.ntmps11
        go_wp2_with fail
        go_ret
        exact ⟨ret_bool Hr.out.symm, Below.refl _ _⟩
    · have Hr : Hid (gvld v cs = false) := by rw [Hid, gvld, decide_eq_false (by omega), Bool.false_and]
      go_enter Try.func11, Try.ntmps11
      go_wp2_with fail
      go_ret
      exact ⟨ret_bool Hr.out.symm, Below.refl _ _⟩
  · have Hr : Hid (gvld v cs = false) := by rw [Hid, gvld, decide_eq_false (by omega), Bool.false_and]
    go_enter Try.func11, Try.ntmps11
    go_wp2_with fail
    go_ret
    exact ⟨ret_bool Hr.out.symm, Below.refl _ _⟩
end Go.Proofs.Ytapajkfnpkekdaa
