/-
  Same and Alike, by both sides.
-/
import Derived.Test.YtdhbfkbkgjmniaaGreatDoorTmAg
namespace Go.Proofs.YtdhbfkbkgjmniaaGreatDoor
open Go Go.RowKit

theorem ndB_len {a b : Tm} (h : ndB a b = true) : a.l.length = b.l.length := by
  unfold ndB at h
  rw [Bool.and_eq_true] at h
  exact of_decide_eq_true h.2

set_option maxRecDepth 100000 in
set_option maxHeartbeats 4000000 in
theorem sameP_any (a b : Tm) (a0 a1 a2 a3 a4 b0 b1 b2 b3 b4 : Value) (w : World) (ha : TmAt w w.heap.size a0 a1 a2 a3 a4 a) (hb : TmAt w w.heap.size b0 b1 b2 b3 b4 b) :
    Calls Tryz.prog 22 #[.agg #[a0, a1, a2, a3, a4], .agg #[b0, b1, b2, b3, b4]] w fun e w' => e = .returned (.bool (agr skN a b)) ∧ Below w.heap.size w w' := by
  have HT : Hid (∀ W1, Below w.heap.size w W1 → Calls Tryz.prog 55 #[.agg #[a0, a1, a2, a3, a4], .agg #[b0, b1, b2, b3, b4], .func (.func 56) #[] #[]] W1 fun e w' => e = .returned (.bool (agr skN a b)) ∧ Below W1.heap.size W1 w') := Lib.hid fun W1 h => agreeN_any a b _ _ _ _ _ _ _ _ _ _ W1 (ha.lift h) (hb.lift h)
  obtain ⟨U, nu, cu, L, nl, cl, rfl, rfl, rfl, rfl, rfl, _⟩ := ha.inv
  obtain ⟨V, nv, cv, M, nm, cm, rfl, rfl, rfl, rfl, rfl, _⟩ := hb.inv
  clear ha hb
  generalize agr skN a b = q at HT ⊢
  have X := Lib.hid (tbox (w := w) (a0 := .int .i64 a.op) (a1 := .int .i64 a.n) (a2 := .string a.s) (a3 := .slice U nu cu) (a4 := .slice L nl cl) (b0 := .int .i64 b.op) (b1 := .int .i64 b.n) (b2 := .string b.s) (b3 := .slice V nv cv) (b4 := .slice M nm cm) (ty := 25) (Below.refl _ _))
  go_enter Tryz.func22, Tryz.ntmps22
  go_upto_region 1 with fail
  generalize (w.alloc (.cells #[.int .i64 a.op, .int .i64 a.n, .string a.s, .slice U nu cu, .slice L nl cl] 25)).alloc (.cells #[.int .i64 b.op, .int .i64 b.n, .string b.s, .slice V nv cv, .slice M nm cm] 25) = W1 at X ⊢
  obtain ⟨k1, k2, hs1, hb1⟩ := X.out
  clear X
  obtain ⟨x0, x1, x2, x3, x4⟩ := cells5 k1
  obtain ⟨y0, y1, y2, y3, y4⟩ := cells5 k2
  have HA := Lib.hid (HT.out W1 hb1)
  clear HT
  go_wp2_with fail
  refine HA.out.mono ?_
  rintro e W2 ⟨rfl, hb2⟩
  go_wp2_with fail
  go_ret
  exact ⟨rfl, hb1.trans (hb2.mono hb1.size)⟩

set_option maxRecDepth 100000 in
set_option maxHeartbeats 4000000 in
theorem alikeP_any (a b : Tm) (a0 a1 a2 a3 a4 b0 b1 b2 b3 b4 : Value) (w : World) (ha : TmAt w w.heap.size a0 a1 a2 a3 a4 a) (hb : TmAt w w.heap.size b0 b1 b2 b3 b4 b) :
    Calls Tryz.prog 24 #[.agg #[a0, a1, a2, a3, a4], .agg #[b0, b1, b2, b3, b4]] w fun e w' => e = .returned (.bool (agr pfB a b)) ∧ Below w.heap.size w w' := by
  have HT : Hid (∀ W1, Below w.heap.size w W1 → Calls Tryz.prog 55 #[.agg #[a0, a1, a2, a3, a4], .agg #[b0, b1, b2, b3, b4], .func (.func 58) #[] #[]] W1 fun e w' => e = .returned (.bool (agr pfB a b)) ∧ Below W1.heap.size W1 w') := Lib.hid fun W1 h => agreeP_any a b _ _ _ _ _ _ _ _ _ _ W1 (ha.lift h) (hb.lift h)
  obtain ⟨U, nu, cu, L, nl, cl, rfl, rfl, rfl, rfl, rfl, _⟩ := ha.inv
  obtain ⟨V, nv, cv, M, nm, cm, rfl, rfl, rfl, rfl, rfl, _⟩ := hb.inv
  clear ha hb
  generalize agr pfB a b = q at HT ⊢
  have X := Lib.hid (tbox (w := w) (a0 := .int .i64 a.op) (a1 := .int .i64 a.n) (a2 := .string a.s) (a3 := .slice U nu cu) (a4 := .slice L nl cl) (b0 := .int .i64 b.op) (b1 := .int .i64 b.n) (b2 := .string b.s) (b3 := .slice V nv cv) (b4 := .slice M nm cm) (ty := 25) (Below.refl _ _))
  go_enter Tryz.func24, Tryz.ntmps24
  go_upto_region 1 with fail
  generalize (w.alloc (.cells #[.int .i64 a.op, .int .i64 a.n, .string a.s, .slice U nu cu, .slice L nl cl] 25)).alloc (.cells #[.int .i64 b.op, .int .i64 b.n, .string b.s, .slice V nv cv, .slice M nm cm] 25) = W1 at X ⊢
  obtain ⟨k1, k2, hs1, hb1⟩ := X.out
  clear X
  obtain ⟨x0, x1, x2, x3, x4⟩ := cells5 k1
  obtain ⟨y0, y1, y2, y3, y4⟩ := cells5 k2
  have HA := Lib.hid (HT.out W1 hb1)
  clear HT
  go_wp2_with fail
  refine HA.out.mono ?_
  rintro e W2 ⟨rfl, hb2⟩
  go_wp2_with fail
  go_ret
  exact ⟨rfl, hb1.trans (hb2.mono hb1.size)⟩

set_option maxRecDepth 100000 in
set_option maxHeartbeats 8000000 in
theorem sameR_any (a : Tm) : ∀ (b : Tm) (a0 a1 a2 a3 a4 b0 b1 b2 b3 b4 : Value) (w : World), TmAt w w.heap.size a0 a1 a2 a3 a4 a → TmAt w w.heap.size b0 b1 b2 b3 b4 b →
    Calls Tryz.prog 23 #[.agg #[a0, a1, a2, a3, a4], .agg #[b0, b1, b2, b3, b4]] w fun e w' => e = .returned (.bool (agr skN a b)) ∧ Below w.heap.size w w' := by
  induction a using Tm.ind
  rename_i a ih
  intro b a0 a1 a2 a3 a4 b0 b1 b2 b3 b4 w ha hb
  have HT : Hid (∀ W1, Below w.heap.size w W1 → Calls Tryz.prog 57 #[.agg #[a0, a1, a2, a3, a4], .agg #[b0, b1, b2, b3, b4]] W1 fun e w' => e = .returned (.bool (ndB a b)) ∧ Below W1.heap.size W1 w') := Lib.hid fun W1 h => node_any a b _ _ _ _ _ _ _ _ _ _ W1 (ha.lift h) (hb.lift h)
  obtain ⟨U, nu, cu, L, nl, cl, rfl, rfl, rfl, rfl, rfl, hu, hnu, hcu, hl, hnl, hcl⟩ := ha.inv
  obtain ⟨V, nv, cv, M, nm, cm, rfl, rfl, rfl, rfl, rfl, hv, hnv, hcv, hm, hnm, hcm⟩ := hb.inv
  clear ha hb hu hv
  have hll := hl.1
  have hml := hm.1
  have hlen := @ndB_len a b
  rw [hll, hml] at hlen
  have HD := Lib.hid (agr_eq skN a b)
  generalize agr skN a b = q at HD ⊢
  generalize ndB a b = g at HD HT hlen
  have HL := Lib.hid hlen
  clear hlen hll hml
  have X := Lib.hid (tbox (w := w) (a0 := .int .i64 a.op) (a1 := .int .i64 a.n) (a2 := .string a.s) (a3 := .slice U nu cu) (a4 := .slice L nl cl) (b0 := .int .i64 b.op) (b1 := .int .i64 b.n) (b2 := .string b.s) (b3 := .slice V nv cv) (b4 := .slice M nm cm) (ty := 25) (Below.refl _ _))
  go_enter Tryz.func23, Tryz.ntmps23
  go_upto_region 1 with fail
  generalize (w.alloc (.cells #[.int .i64 a.op, .int .i64 a.n, .string a.s, .slice U nu cu, .slice L nl cl] 25)).alloc (.cells #[.int .i64 b.op, .int .i64 b.n, .string b.s, .slice V nv cv, .slice M nm cm] 25) = W1 at X ⊢
  obtain ⟨k1, k2, hs1, hb1⟩ := X.out
  clear X
  obtain ⟨x0, x1, x2, x3, x4⟩ := cells5 k1
  obtain ⟨y0, y1, y2, y3, y4⟩ := cells5 k2
  have HS := Lib.hid (HT.out W1 hb1)
  clear HT
  go_wp2_with fail
  refine HS.out.mono ?_
  clear HS x0 x1 x2 x3 x4 y0 y1 y2 y3 y4
  rintro e W2 ⟨rfl, hb2⟩
  have k3 := (hb2.block _ (Array.getElem?_eq_some_iff.1 k1).1).trans k1
  have k4 := (hb2.block _ (Array.getElem?_eq_some_iff.1 k2).1).trans k2
  have hbw := hb1.trans (hb2.mono (by omega))
  have hsz2 := hb2.size
  clear k1 k2
  cases g
  · have Hq : Hid (q = false) := Lib.hid (by rw [HD.out]; rfl)
    go_wp2_with fail
    go_ret
    exact ⟨ret_bool Hq.out.symm, hbw⟩
  · have hq : q = agrL skN a.op a.n 0 a.l b.l := by rw [HD.out]; simp
    have h4 := HL.out rfl
    clear HL
    subst h4
    have Hok : Hid ((∀ (k : Nat) x y, k < nl → a.l[k]? = some x → b.l[k]? = some y → skN a.op a.n k = true ∨ agr skN x y = true) → q = true) := Lib.hid fun h => by
      rw [hq]
      exact agrL_ok a.l b.l 0 fun k x y hx hy => by rw [Nat.zero_add]; exact h k x y (by rw [← hl.1]; exact (List.getElem?_eq_some_iff.1 hx).1) hx hy
    have Hbd : Hid (∀ (k : Nat) x y, a.l[k]? = some x → b.l[k]? = some y → skN a.op a.n k = false → agr skN x y = false → q = false) := Lib.hid fun k x y hx hy h1 h2 => by
      rw [hq]
      exact agrL_bad a.l b.l 0 k x y hx hy (by rw [Nat.zero_add]; exact h1) h2
    have HK : Hid (∀ W, Below W2.heap.size W2 W → W.heap[w.heap.size]? = some (.cells #[.int .i64 a.op, .int .i64 a.n, .string a.s, .slice U nu cu, .slice L nl cl] 25) ∧ W.heap[w.heap.size + 1]? = some (.cells #[.int .i64 b.op, .int .i64 b.n, .string b.s, .slice V nv cv, .slice M nl cm] 25)) := Lib.hid fun W hW => ⟨(hW.block _ (Array.getElem?_eq_some_iff.1 k3).1).trans k3, (hW.block _ (Array.getElem?_eq_some_iff.1 k4).1).trans k4⟩
    obtain ⟨x0, x1, x2, x3, x4⟩ := cells5 k3
    obtain ⟨y0, y1, y2, y3, y4⟩ := cells5 k4
    clear HD hq k3 k4
    go_wp2_with fail
    go_loopw [5] (fun i wr => ∃ k : Nat, k ≤ nl ∧ i = .int .i64 k ∧ (∀ (j : Nat) x y, j < k → a.l[j]? = some x → b.l[j]? = some y → skN a.op a.n j = true ∨ agr skN x y = true) ∧ Below W2.heap.size W2 wr) (fun i _ => nl - (intOf i).toNat)
    case atStart => exact ⟨0, Nat.zero_le _, rfl, fun j x y hj => absurd hj (by omega), Below.refl _ _⟩
    case round =>
      obtain ⟨k, hk, rfl, hup, hbr⟩ := hrel
      have Hup := Lib.hid hup
      clear hup x0 x1 x2 x3 x4 y0 y1 y2 y3 y4
      have hbwr := hbw.trans (hbr.mono (by omega))
      have hK0 := HK.out wr hbr
      obtain ⟨x0, x1, x2, x3, x4⟩ := cells5 hK0.1
      clear x0 x1 x2 x3 hK0
      by_cases hkn : k < nl
      · have hki : (k : Int) < (nl : Int) := by omega
        obtain ⟨bx, ox, x, e0, e1, e2, e3, e4, rfl, hbx, hx, hTx, p0, p1, p2, p3, p4⟩ := (hl.below hbwr).at_ hkn
        obtain ⟨by', oy, y, f0, f1, f2, f3, f4, rfl, hby, hy, hTy, s0, s1, s2, s3, s4⟩ := (hm.below hbwr).at_ hkn
        obtain ⟨U1, nu1, cu1, L1, nl1, cl1, rfl, rfl, rfl, rfl, rfl, _⟩ := hTx.inv
        obtain ⟨U2, nu2, cu2, L2, nl2, cl2, rfl, rfl, rfl, rfl, rfl, _⟩ := hTy.inv
        have hsr := hbwr.size
        have hyih := ih k x hx y
        have Hx := Lib.hid hx
        have Hy := Lib.hid hy
        have rK := fun p : Bel wr.heap.size wr => HK.out p.v (hbr.trans (p.h.mono hbr.size))
        have r0 : ∀ p : Bel wr.heap.size wr, p.v.cell? ⟨w.heap.size, 0, none⟩ = some (.int .i64 a.op) := fun p => (cells5 (rK p).1).1
        have r1 : ∀ p : Bel wr.heap.size wr, p.v.cell? ⟨w.heap.size, 1, none⟩ = some (.int .i64 a.n) := fun p => (cells5 (rK p).1).2.1
        have r2 : ∀ p : Bel wr.heap.size wr, p.v.cell? ⟨w.heap.size, 2, none⟩ = some (.string a.s) := fun p => (cells5 (rK p).1).2.2.1
        have r3 : ∀ p : Bel wr.heap.size wr, p.v.cell? ⟨w.heap.size, 3, none⟩ = some (.slice U nu cu) := fun p => (cells5 (rK p).1).2.2.2.1
        have r4 : ∀ p : Bel wr.heap.size wr, p.v.cell? ⟨w.heap.size, 4, none⟩ = some (.slice (some ⟨bx, ox, none⟩) nl cl) := fun p => (cells5 (rK p).1).2.2.2.2
        have q4 : ∀ p : Bel wr.heap.size wr, p.v.cell? ⟨w.heap.size + 1, 4, none⟩ = some (.slice (some ⟨by', oy, none⟩) nl cm) := fun p => (cells5 (rK p).2).2.2.2.2
        have u0 := fun p : Bel wr.heap.size wr => Bel.cell (a := ⟨bx, ox + k * 5, none⟩) (show bx < wr.heap.size by omega) p0 p
        have u1 := fun p : Bel wr.heap.size wr => Bel.cell (a := ⟨bx, ox + k * 5 + 1, none⟩) (show bx < wr.heap.size by omega) p1 p
        have u2 := fun p : Bel wr.heap.size wr => Bel.cell (a := ⟨bx, ox + k * 5 + 2, none⟩) (show bx < wr.heap.size by omega) p2 p
        have u3 := fun p : Bel wr.heap.size wr => Bel.cell (a := ⟨bx, ox + k * 5 + 3, none⟩) (show bx < wr.heap.size by omega) p3 p
        have u4 := fun p : Bel wr.heap.size wr => Bel.cell (a := ⟨bx, ox + k * 5 + 4, none⟩) (show bx < wr.heap.size by omega) p4 p
        have v0 := fun p : Bel wr.heap.size wr => Bel.cell (a := ⟨by', oy + k * 5, none⟩) (show by' < wr.heap.size by omega) s0 p
        have v1 := fun p : Bel wr.heap.size wr => Bel.cell (a := ⟨by', oy + k * 5 + 1, none⟩) (show by' < wr.heap.size by omega) s1 p
        have v2 := fun p : Bel wr.heap.size wr => Bel.cell (a := ⟨by', oy + k * 5 + 2, none⟩) (show by' < wr.heap.size by omega) s2 p
        have v3 := fun p : Bel wr.heap.size wr => Bel.cell (a := ⟨by', oy + k * 5 + 3, none⟩) (show by' < wr.heap.size by omega) s3 p
        have v4 := fun p : Bel wr.heap.size wr => Bel.cell (a := ⟨by', oy + k * 5 + 4, none⟩) (show by' < wr.heap.size by omega) s4 p
        have rR := fun p : Bel wr.heap.size wr => hyih _ _ _ _ _ _ _ _ _ _ p.v ((hTx.more hsr).lift p.h) ((hTy.more hsr).lift p.h)
        have Fin : Hid (∀ W, Below wr.heap.size wr W → Below W2.heap.size W2 W ∧ Below w.heap.size w W) := Lib.hid fun W hW => ⟨hbr.trans (hW.mono hbr.size), hbwr.trans (hW.mono hsr)⟩
        clear hx hy hTx hTy hyih rK p0 p1 p2 p3 p4 s0 s1 s2 s3 s4 hl hm
        have hsk : skN a.op a.n k = false := rfl
        generalize hz : agr skN x y = z at rR
        have Hz := Lib.hid hz
        clear hz
        have HrR := Lib.hid rR
        clear rR
        go_wp2_with fail
        refine wp_region_bel wr.heap.size wr (by kernel_rfl) (by kernel_rfl) (Below.refl _ _) ?_
        repeat (go_big_quiet_step (first | (go_at_call 23; with_reducible exact Calls.bel_of (by simp) (HrR.out _))))
        refine wpQuiet_nil ?_
        rintro _ ⟨pq, rfl⟩
        have hbq := pq.h
        generalize pq.v = W3 at hbq ⊢
        obtain ⟨hb23, hb03⟩ := Fin.out W3 hbq
        clear r0 r1 r2 r3 r4 q4 u0 u1 u2 u3 u4 v0 v1 v2 v3 v4 HrR
        cases z
        · have Hn := Lib.hid (Hbd.out k x y Hx.out Hy.out hsk Hz.out)
          go_wp2_with fail
          go_ret
          exact ⟨ret_bool Hn.out.symm, hb03⟩
        · have Hn : Hid (∀ (j : Nat) x y, j < k + 1 → a.l[j]? = some x → b.l[j]? = some y → skN a.op a.n j = true ∨ agr skN x y = true) := Lib.hid fun j x' y' hj hx' hy' => by
            by_cases e : j = k
            · subst e
              rw [Hx.out] at hx'
              rw [Hy.out] at hy'
              cases hx'; cases hy'; exact .inr Hz.out
            · exact Hup.out j x' y' (by omega) hx' hy'
          go_wp2_with fail
          go_roundw
          case rel => exact ⟨k + 1, by omega, by go_num, Hn.out, hb23⟩
          case measure => simp [intOf]; omega
      · obtain rfl : k = nl := by omega
        have hkk : ¬ (k : Int) < (k : Int) := by omega
        have Hn := Lib.hid (Hok.out Hup.out)
        go_wp2_with fail
        go_ret
        exact ⟨ret_bool Hn.out.symm, hbwr⟩

set_option maxRecDepth 100000 in
set_option maxHeartbeats 8000000 in
theorem alikeR_any (a : Tm) : ∀ (b : Tm) (a0 a1 a2 a3 a4 b0 b1 b2 b3 b4 : Value) (w : World), TmAt w w.heap.size a0 a1 a2 a3 a4 a → TmAt w w.heap.size b0 b1 b2 b3 b4 b →
    Calls Tryz.prog 25 #[.agg #[a0, a1, a2, a3, a4], .agg #[b0, b1, b2, b3, b4]] w fun e w' => e = .returned (.bool (agr pfB a b)) ∧ Below w.heap.size w w' := by
  induction a using Tm.ind
  rename_i a ih
  intro b a0 a1 a2 a3 a4 b0 b1 b2 b3 b4 w ha hb
  have HT : Hid (∀ W1, Below w.heap.size w W1 → Calls Tryz.prog 57 #[.agg #[a0, a1, a2, a3, a4], .agg #[b0, b1, b2, b3, b4]] W1 fun e w' => e = .returned (.bool (ndB a b)) ∧ Below W1.heap.size W1 w') := Lib.hid fun W1 h => node_any a b _ _ _ _ _ _ _ _ _ _ W1 (ha.lift h) (hb.lift h)
  obtain ⟨U, nu, cu, L, nl, cl, rfl, rfl, rfl, rfl, rfl, hu, hnu, hcu, hl, hnl, hcl⟩ := ha.inv
  obtain ⟨V, nv, cv, M, nm, cm, rfl, rfl, rfl, rfl, rfl, hv, hnv, hcv, hm, hnm, hcm⟩ := hb.inv
  clear ha hb hu hv
  have hll := hl.1
  have hml := hm.1
  have hlen := @ndB_len a b
  rw [hll, hml] at hlen
  have HD := Lib.hid (agr_eq pfB a b)
  generalize agr pfB a b = q at HD ⊢
  generalize ndB a b = g at HD HT hlen
  have HL := Lib.hid hlen
  clear hlen hll hml
  have X := Lib.hid (tbox (w := w) (a0 := .int .i64 a.op) (a1 := .int .i64 a.n) (a2 := .string a.s) (a3 := .slice U nu cu) (a4 := .slice L nl cl) (b0 := .int .i64 b.op) (b1 := .int .i64 b.n) (b2 := .string b.s) (b3 := .slice V nv cv) (b4 := .slice M nm cm) (ty := 25) (Below.refl _ _))
  go_enter Tryz.func25, Tryz.ntmps25
  go_upto_region 1 with fail
  generalize (w.alloc (.cells #[.int .i64 a.op, .int .i64 a.n, .string a.s, .slice U nu cu, .slice L nl cl] 25)).alloc (.cells #[.int .i64 b.op, .int .i64 b.n, .string b.s, .slice V nv cv, .slice M nm cm] 25) = W1 at X ⊢
  obtain ⟨k1, k2, hs1, hb1⟩ := X.out
  clear X
  obtain ⟨x0, x1, x2, x3, x4⟩ := cells5 k1
  obtain ⟨y0, y1, y2, y3, y4⟩ := cells5 k2
  have HS := Lib.hid (HT.out W1 hb1)
  clear HT
  go_wp2_with fail
  refine HS.out.mono ?_
  clear HS x0 x1 x2 x3 x4 y0 y1 y2 y3 y4
  rintro e W2 ⟨rfl, hb2⟩
  have k3 := (hb2.block _ (Array.getElem?_eq_some_iff.1 k1).1).trans k1
  have k4 := (hb2.block _ (Array.getElem?_eq_some_iff.1 k2).1).trans k2
  have hbw := hb1.trans (hb2.mono (by omega))
  have hsz2 := hb2.size
  clear k1 k2
  cases g
  · have Hq : Hid (q = false) := Lib.hid (by rw [HD.out]; rfl)
    go_wp2_with fail
    go_ret
    exact ⟨ret_bool Hq.out.symm, hbw⟩
  · have hq : q = agrL pfB a.op a.n 0 a.l b.l := by rw [HD.out]; simp
    have h4 := HL.out rfl
    clear HL
    subst h4
    have Hok : Hid ((∀ (k : Nat) x y, k < nl → a.l[k]? = some x → b.l[k]? = some y → pfB a.op a.n k = true ∨ agr pfB x y = true) → q = true) := Lib.hid fun h => by
      rw [hq]
      exact agrL_ok a.l b.l 0 fun k x y hx hy => by rw [Nat.zero_add]; exact h k x y (by rw [← hl.1]; exact (List.getElem?_eq_some_iff.1 hx).1) hx hy
    have Hbd : Hid (∀ (k : Nat) x y, a.l[k]? = some x → b.l[k]? = some y → pfB a.op a.n k = false → agr pfB x y = false → q = false) := Lib.hid fun k x y hx hy h1 h2 => by
      rw [hq]
      exact agrL_bad a.l b.l 0 k x y hx hy (by rw [Nat.zero_add]; exact h1) h2
    have HK : Hid (∀ W, Below W2.heap.size W2 W → W.heap[w.heap.size]? = some (.cells #[.int .i64 a.op, .int .i64 a.n, .string a.s, .slice U nu cu, .slice L nl cl] 25) ∧ W.heap[w.heap.size + 1]? = some (.cells #[.int .i64 b.op, .int .i64 b.n, .string b.s, .slice V nv cv, .slice M nl cm] 25)) := Lib.hid fun W hW => ⟨(hW.block _ (Array.getElem?_eq_some_iff.1 k3).1).trans k3, (hW.block _ (Array.getElem?_eq_some_iff.1 k4).1).trans k4⟩
    obtain ⟨x0, x1, x2, x3, x4⟩ := cells5 k3
    obtain ⟨y0, y1, y2, y3, y4⟩ := cells5 k4
    clear HD hq k3 k4
    go_wp2_with fail
    go_loopw [5] (fun i wr => ∃ k : Nat, k ≤ nl ∧ i = .int .i64 k ∧ (∀ (j : Nat) x y, j < k → a.l[j]? = some x → b.l[j]? = some y → pfB a.op a.n j = true ∨ agr pfB x y = true) ∧ Below W2.heap.size W2 wr) (fun i _ => nl - (intOf i).toNat)
    case atStart => exact ⟨0, Nat.zero_le _, rfl, fun j x y hj => absurd hj (by omega), Below.refl _ _⟩
    case round =>
      obtain ⟨k, hk, rfl, hup, hbr⟩ := hrel
      have Hup := Lib.hid hup
      clear hup x0 x1 x2 x3 x4 y0 y1 y2 y3 y4
      have hbwr := hbw.trans (hbr.mono (by omega))
      have hK0 := HK.out wr hbr
      obtain ⟨x0, x1, x2, x3, x4⟩ := cells5 hK0.1
      clear x0 x1 x2 x3 hK0
      by_cases hkn : k < nl
      · have hki : (k : Int) < (nl : Int) := by omega
        obtain ⟨bx, ox, x, e0, e1, e2, e3, e4, rfl, hbx, hx, hTx, p0, p1, p2, p3, p4⟩ := (hl.below hbwr).at_ hkn
        obtain ⟨by', oy, y, f0, f1, f2, f3, f4, rfl, hby, hy, hTy, s0, s1, s2, s3, s4⟩ := (hm.below hbwr).at_ hkn
        obtain ⟨U1, nu1, cu1, L1, nl1, cl1, rfl, rfl, rfl, rfl, rfl, _⟩ := hTx.inv
        obtain ⟨U2, nu2, cu2, L2, nl2, cl2, rfl, rfl, rfl, rfl, rfl, _⟩ := hTy.inv
        have hsr := hbwr.size
        have hyih := ih k x hx y
        have Hx := Lib.hid hx
        have Hy := Lib.hid hy
        have rK := fun p : Bel wr.heap.size wr => HK.out p.v (hbr.trans (p.h.mono hbr.size))
        have r0 : ∀ p : Bel wr.heap.size wr, p.v.cell? ⟨w.heap.size, 0, none⟩ = some (.int .i64 a.op) := fun p => (cells5 (rK p).1).1
        have r1 : ∀ p : Bel wr.heap.size wr, p.v.cell? ⟨w.heap.size, 1, none⟩ = some (.int .i64 a.n) := fun p => (cells5 (rK p).1).2.1
        have r2 : ∀ p : Bel wr.heap.size wr, p.v.cell? ⟨w.heap.size, 2, none⟩ = some (.string a.s) := fun p => (cells5 (rK p).1).2.2.1
        have r3 : ∀ p : Bel wr.heap.size wr, p.v.cell? ⟨w.heap.size, 3, none⟩ = some (.slice U nu cu) := fun p => (cells5 (rK p).1).2.2.2.1
        have r4 : ∀ p : Bel wr.heap.size wr, p.v.cell? ⟨w.heap.size, 4, none⟩ = some (.slice (some ⟨bx, ox, none⟩) nl cl) := fun p => (cells5 (rK p).1).2.2.2.2
        have q4 : ∀ p : Bel wr.heap.size wr, p.v.cell? ⟨w.heap.size + 1, 4, none⟩ = some (.slice (some ⟨by', oy, none⟩) nl cm) := fun p => (cells5 (rK p).2).2.2.2.2
        have u0 := fun p : Bel wr.heap.size wr => Bel.cell (a := ⟨bx, ox + k * 5, none⟩) (show bx < wr.heap.size by omega) p0 p
        have u1 := fun p : Bel wr.heap.size wr => Bel.cell (a := ⟨bx, ox + k * 5 + 1, none⟩) (show bx < wr.heap.size by omega) p1 p
        have u2 := fun p : Bel wr.heap.size wr => Bel.cell (a := ⟨bx, ox + k * 5 + 2, none⟩) (show bx < wr.heap.size by omega) p2 p
        have u3 := fun p : Bel wr.heap.size wr => Bel.cell (a := ⟨bx, ox + k * 5 + 3, none⟩) (show bx < wr.heap.size by omega) p3 p
        have u4 := fun p : Bel wr.heap.size wr => Bel.cell (a := ⟨bx, ox + k * 5 + 4, none⟩) (show bx < wr.heap.size by omega) p4 p
        have v0 := fun p : Bel wr.heap.size wr => Bel.cell (a := ⟨by', oy + k * 5, none⟩) (show by' < wr.heap.size by omega) s0 p
        have v1 := fun p : Bel wr.heap.size wr => Bel.cell (a := ⟨by', oy + k * 5 + 1, none⟩) (show by' < wr.heap.size by omega) s1 p
        have v2 := fun p : Bel wr.heap.size wr => Bel.cell (a := ⟨by', oy + k * 5 + 2, none⟩) (show by' < wr.heap.size by omega) s2 p
        have v3 := fun p : Bel wr.heap.size wr => Bel.cell (a := ⟨by', oy + k * 5 + 3, none⟩) (show by' < wr.heap.size by omega) s3 p
        have v4 := fun p : Bel wr.heap.size wr => Bel.cell (a := ⟨by', oy + k * 5 + 4, none⟩) (show by' < wr.heap.size by omega) s4 p
        have rS := fun p : Bel wr.heap.size wr => isProofR_any a.op a.n a.s U (some ⟨bx, ox, none⟩) nu cu nl cl k p.v hkn
        have rR := fun p : Bel wr.heap.size wr => hyih _ _ _ _ _ _ _ _ _ _ p.v ((hTx.more hsr).lift p.h) ((hTy.more hsr).lift p.h)
        have Fin : Hid (∀ W, Below wr.heap.size wr W → Below W2.heap.size W2 W ∧ Below w.heap.size w W) := Lib.hid fun W hW => ⟨hbr.trans (hW.mono hbr.size), hbwr.trans (hW.mono hsr)⟩
        clear hx hy hTx hTy hyih rK p0 p1 p2 p3 p4 s0 s1 s2 s3 s4 hl hm
        cases hsk : pfB a.op a.n k
        · rw [hsk] at rS
          generalize hz : agr pfB x y = z at rR
          have Hz := Lib.hid hz
          clear hz
          have HrR := Lib.hid rR
          clear rR
          have HrS := Lib.hid rS
          clear rS
          go_wp2_with fail
          refine wp_region_bel wr.heap.size wr (by kernel_rfl) (by kernel_rfl) (Below.refl _ _) ?_
          repeat (go_big_quiet_step (first | (go_at_call 59; with_reducible exact Calls.bel_of (by simp) (HrS.out _)) | (go_at_call 25; with_reducible exact Calls.bel_of (by simp) (HrR.out _))))
          refine wpQuiet_nil ?_
          rintro _ ⟨pq, rfl⟩
          have hbq := pq.h
          generalize pq.v = W3 at hbq ⊢
          obtain ⟨hb23, hb03⟩ := Fin.out W3 hbq
          clear r0 r1 r2 r3 r4 q4 u0 u1 u2 u3 u4 v0 v1 v2 v3 v4 HrR HrS
          cases z
          · have Hn := Lib.hid (Hbd.out k x y Hx.out Hy.out hsk Hz.out)
            go_wp2_with fail
            go_ret
            exact ⟨ret_bool Hn.out.symm, hb03⟩
          · have Hn : Hid (∀ (j : Nat) x y, j < k + 1 → a.l[j]? = some x → b.l[j]? = some y → pfB a.op a.n j = true ∨ agr pfB x y = true) := Lib.hid fun j x' y' hj hx' hy' => by
              by_cases e : j = k
              · subst e
                rw [Hx.out] at hx'
                rw [Hy.out] at hy'
                cases hx'; cases hy'; exact .inr Hz.out
              · exact Hup.out j x' y' (by omega) hx' hy'
            go_wp2_with fail
            go_roundw
            case rel => exact ⟨k + 1, by omega, by go_num, Hn.out, hb23⟩
            case measure => simp [intOf]; omega
        · rw [hsk] at rS
          have Hn : Hid (∀ (j : Nat) x y, j < k + 1 → a.l[j]? = some x → b.l[j]? = some y → pfB a.op a.n j = true ∨ agr pfB x y = true) := Lib.hid fun j x' y' hj hx' hy' => by
            by_cases e : j = k
            · subst e
              exact .inl hsk
            · exact Hup.out j x' y' (by omega) hx' hy'
          have HrS := Lib.hid rS
          have HrR := Lib.hid rR
          clear rS rR
          go_wp2_with fail
          refine wp_region_bel wr.heap.size wr (by kernel_rfl) (by kernel_rfl) (Below.refl _ _) ?_
          repeat (go_big_quiet_step (first | (go_at_call 59; with_reducible exact Calls.bel_of (by simp) (HrS.out _)) | (go_at_call 25; with_reducible exact Calls.bel_of (by simp) (HrR.out _))))
          refine wpQuiet_nil ?_
          rintro _ ⟨pq, rfl⟩
          have hbq := pq.h
          generalize pq.v = W3 at hbq ⊢
          obtain ⟨hb23, hb03⟩ := Fin.out W3 hbq
          clear r0 r1 r2 r3 r4 q4 u0 u1 u2 u3 u4 v0 v1 v2 v3 v4 HrR HrS
          go_wp2_with fail
          go_roundw
          case rel => exact ⟨k + 1, by omega, by go_num, Hn.out, hb23⟩
          case measure => simp [intOf]; omega
      · obtain rfl : k = nl := by omega
        have hkk : ¬ (k : Int) < (k : Int) := by omega
        have Hn := Lib.hid (Hok.out Hup.out)
        go_wp2_with fail
        go_ret
        exact ⟨ret_bool Hn.out.symm, hbwr⟩
end Go.Proofs.YtdhbfkbkgjmniaaGreatDoor
