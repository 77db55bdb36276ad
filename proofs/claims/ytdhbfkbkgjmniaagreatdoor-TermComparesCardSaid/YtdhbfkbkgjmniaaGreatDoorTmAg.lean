/-
  'agree' of package term, with both of its functions.
-/
import Derived.Test.YtdhbfkbkgjmniaaGreatDoorTmPf
namespace Go.Proofs.YtdhbfkbkgjmniaaGreatDoor
open Go Go.RowKit

mutual
/-- two terms compared but for parts that are skipped -/
noncomputable def agr (sk : Int → Int → Nat → Bool) : Tm → Tm → Bool
  | .mk o n s u l, b => ndB (.mk o n s u l) b && agrL sk o n 0 l b.l
noncomputable def agrL (sk : Int → Int → Nat → Bool) (o n : Int) (i : Nat) : List Tm → List Tm → Bool
  | [], _ => true
  | x :: xs, m => match m with
    | [] => true
    | y :: ys => (sk o n i || agr sk x y) && agrL sk o n (i + 1) xs ys
end
theorem agr_eq (sk : Int → Int → Nat → Bool) (a b : Tm) : agr sk a b = (ndB a b && agrL sk a.op a.n 0 a.l b.l) := by
  cases a; rfl
theorem agrL_bad {sk : Int → Int → Nat → Bool} {o n : Int} : ∀ (l m : List Tm) (i k : Nat) (x y : Tm), l[k]? = some x → m[k]? = some y → sk o n (i + k) = false → agr sk x y = false → agrL sk o n i l m = false := by
  intro l
  induction l with
  | nil => intro m i k x y hx; simp at hx
  | cons a l ih =>
    intro m i k x y hx hy h1 h2
    cases m with
    | nil => simp at hy
    | cons b m =>
      cases k with
      | zero => simp at hx hy; subst hx; subst hy; simp only [agrL]; rw [show i = i + 0 from rfl, h1, h2]; rfl
      | succ k =>
        simp at hx hy
        simp only [agrL]
        rw [ih m (i + 1) k x y hx hy (by rw [← h1]; congr 1; omega) h2, Bool.and_false]
theorem agrL_ok {sk : Int → Int → Nat → Bool} {o n : Int} : ∀ (l m : List Tm) (i : Nat), (∀ (k : Nat) x y, l[k]? = some x → m[k]? = some y → sk o n (i + k) = true ∨ agr sk x y = true) → agrL sk o n i l m = true := by
  intro l
  induction l with
  | nil => intro m i _; simp [agrL]
  | cons a l ih =>
    intro m i h
    cases m with
    | nil => simp [agrL]
    | cons b m =>
      simp only [agrL]
      rw [ih m (i + 1) (fun k x y hx hy => by rw [show i + 1 + k = i + (k + 1) by omega]; exact h (k + 1) x y (by simpa using hx) (by simpa using hy))]
      rcases h 0 a b rfl rfl with e | e
      · rw [show i + 0 = i from rfl] at e; rw [e]; rfl
      · rw [e, Bool.or_true]; rfl
def skN : Int → Int → Nat → Bool := fun _ _ _ => false

set_option maxRecDepth 100000 in
theorem sameSkip_any (op n : Int) (s : ByteArray) (U L : Option Addr) (nu cu nl cl i : Nat) (w : World) (_hk : i < nl) :
    Calls Tryz.prog 56 #[.agg #[.int .i64 op, .int .i64 n, .string s, .slice U nu cu, .slice L nl cl], .int .i64 i] w fun e w' => e = .returned (.bool (skN op n i)) ∧ Below w.heap.size w w' := by
  have hbx : Below w.heap.size w (w.alloc (.cells #[.int .i64 op, .int .i64 n, .string s, .slice U nu cu, .slice L nl cl] 25)) := (Below.refl _ _).alloc (Nat.le_refl _) _
  unfold skN
  go_enter Tryz.func56, Tryz.ntmps56
  go_wp2_with fail
  go_ret
  exact ⟨rfl, hbx⟩

set_option maxRecDepth 100000 in
set_option maxHeartbeats 8000000 in
theorem agreeP_any (a : Tm) : ∀ (b : Tm) (a0 a1 a2 a3 a4 b0 b1 b2 b3 b4 : Value) (w : World), TmAt w w.heap.size a0 a1 a2 a3 a4 a → TmAt w w.heap.size b0 b1 b2 b3 b4 b →
    Calls Tryz.prog 55 #[.agg #[a0, a1, a2, a3, a4], .agg #[b0, b1, b2, b3, b4], .func (.func 58) #[] #[]] w fun e w' => e = .returned (.bool (agr pfB a b)) ∧ Below w.heap.size w w' := by
  induction a using Tm.ind
  rename_i a ih
  intro b a0 a1 a2 a3 a4 b0 b1 b2 b3 b4 w ha hb
  obtain ⟨U, nu, cu, L, nl, cl, rfl, rfl, rfl, rfl, rfl, hu, hnu, hcu, hl, hnl, hcl⟩ := ha.inv
  obtain ⟨V, nv, cv, M, nm, cm, rfl, rfl, rfl, rfl, rfl, hv, hnv, hcv, hm, hnm, hcm⟩ := hb.inv
  clear ha hb
  have hll := hl.1
  have hml := hm.1
  have hnd : ndB a b = (decide (a.op = b.op) && decide (a.n = b.n) && (a.s.toList == b.s.toList) && usB a.u b.u && decide (a.l.length = b.l.length)) := rfl
  rw [hll, hml] at hnd
  have hag := agr_eq pfB a b
  rw [hnd] at hag
  generalize agr pfB a b = q at hag ⊢
  have HD := Lib.hid hag
  clear hnd hag
  have X := Lib.hid (tbox (w := w) (a0 := .int .i64 a.op) (a1 := .int .i64 a.n) (a2 := .string a.s) (a3 := .slice U nu cu) (a4 := .slice L nl cl) (b0 := .int .i64 b.op) (b1 := .int .i64 b.n) (b2 := .string b.s) (b3 := .slice V nv cv) (b4 := .slice M nm cm) (ty := 25) (Below.refl _ _))
  clear hll hml
  go_enter Tryz.func55, Tryz.ntmps55
  go_upto_region 1 with fail
  generalize (w.alloc (.cells #[.int .i64 a.op, .int .i64 a.n, .string a.s, .slice U nu cu, .slice L nl cl] 25)).alloc (.cells #[.int .i64 b.op, .int .i64 b.n, .string b.s, .slice V nv cv, .slice M nm cm] 25) = W1 at X ⊢
  obtain ⟨k1, k2, hs1, hb1⟩ := X.out
  clear X
  obtain ⟨x0, x1, x2, x3, x4⟩ := cells5 k1
  obtain ⟨y0, y1, y2, y3, y4⟩ := cells5 k2
  by_cases h1 : a.op = b.op
  · by_cases h2 : a.n = b.n
    · cases h3 : (a.s.toList == b.s.toList)
      · have Hq : Hid (q = false) := Lib.hid (by rw [HD.out, h3, Bool.and_false]; rfl)
        go_wp2_with fail
        go_ret
        exact ⟨ret_bool Hq.out.symm, hb1⟩
      · by_cases h4 : nl = nm
        · subst h4
          have HS := Lib.hid (equalFunc_any U nu cu V nv cv a.u b.u W1 ((hu.below hb1).more hb1.size) ((hv.below hb1).more hb1.size) (by omega) (by omega))
          rw [decide_eq_true h1, decide_eq_true h2, h3] at HD
          generalize usB a.u b.u = us at HS HD
          go_wp2_with fail
          refine HS.out.mono ?_
          clear HS x0 x1 x2 x3 x4 y0 y1 y2 y3 y4
          rintro e W2 ⟨rfl, hb2⟩
          have k3 := (hb2.block _ (Array.getElem?_eq_some_iff.1 k1).1).trans k1
          have k4 := (hb2.block _ (Array.getElem?_eq_some_iff.1 k2).1).trans k2
          have hbw := hb1.trans (hb2.mono (by omega))
          have hsz2 := hb2.size
          clear k1 k2
          cases us
          · have Hq : Hid (q = false) := Lib.hid (by rw [HD.out]; rfl)
            go_wp2_with fail
            go_ret
            exact ⟨ret_bool Hq.out.symm, hbw⟩
          · have hq : q = agrL pfB a.op a.n 0 a.l b.l := by rw [HD.out]; simp
            have Hok : Hid ((∀ (k : Nat) x y, k < nl → a.l[k]? = some x → b.l[k]? = some y → pfB a.op a.n k = true ∨ agr pfB x y = true) → q = true) := Lib.hid fun h => by
              rw [hq]
              exact agrL_ok a.l b.l 0 fun k x y hx hy => by rw [Nat.zero_add]; exact h k x y (by rw [← hl.1]; exact (List.getElem?_eq_some_iff.1 hx).1) hx hy
            have Hbd : Hid (∀ (k : Nat) x y, a.l[k]? = some x → b.l[k]? = some y → pfB a.op a.n k = false → agr pfB x y = false → q = false) := Lib.hid fun k x y hx hy h1 h2 => by
              rw [hq]
              exact agrL_bad a.l b.l 0 k x y hx hy (by rw [Nat.zero_add]; exact h1) h2
            have HK : Hid (∀ W, Below W2.heap.size W2 W → W.heap[w.heap.size]? = some (.cells #[.int .i64 a.op, .int .i64 a.n, .string a.s, .slice U nu cu, .slice L nl cl] 25) ∧ W.heap[w.heap.size + 1]? = some (.cells #[.int .i64 b.op, .int .i64 b.n, .string b.s, .slice V nv cv, .slice M nl cm] 25)) := Lib.hid fun W hW => ⟨(hW.block _ (Array.getElem?_eq_some_iff.1 k3).1).trans k3, (hW.block _ (Array.getElem?_eq_some_iff.1 k4).1).trans k4⟩
            obtain ⟨x0, x1, x2, x3, x4⟩ := cells5 k3
            obtain ⟨y0, y1, y2, y3, y4⟩ := cells5 k4
            clear HD hq k3 k4 h3
            go_wp2_with fail
            go_loopw [47] (fun i wr => ∃ k : Nat, k ≤ nl ∧ i = .int .i64 k ∧ (∀ (j : Nat) x y, j < k → a.l[j]? = some x → b.l[j]? = some y → pfB a.op a.n j = true ∨ agr pfB x y = true) ∧ Below W2.heap.size W2 wr) (fun i _ => nl - (intOf i).toNat)
            case atStart => exact ⟨0, Nat.zero_le _, rfl, fun j x y hj => absurd hj (by omega), Below.refl _ _⟩
            case round =>
              obtain ⟨k, hk, rfl, hup, hbr⟩ := hrel
              have Hup := Lib.hid hup
              clear hup x0 x1 x2 x3 x4 y0 y1 y2 y3 y4
              have hbwr := hbw.trans (hbr.mono (by omega))
              by_cases hkn : k < nl
              · have hki : (k : Int) < (nl : Int) := by omega
                obtain ⟨bx, ox, x, e0, e1, e2, e3, e4, rfl, hbx, hx, hTx, p0, p1, p2, p3, p4⟩ := (hl.below hbwr).at_ hkn
                obtain ⟨by', oy, y, f0, f1, f2, f3, f4, rfl, hby, hy, hTy, s0, s1, s2, s3, s4⟩ := (hm.below hbwr).at_ hkn
                obtain ⟨U1, nu1, cu1, L1, nl1, cl1, rfl, rfl, rfl, rfl, rfl, _⟩ := hTx.inv
                obtain ⟨U2, nu2, cu2, L2, nl2, cl2, rfl, rfl, rfl, rfl, rfl, _⟩ := hTy.inv
                have hsr := hbwr.size
                have hyih := ih k x hx y
                have Hx := Lib.hid hx
                have Hy := Lib.hid hy
                have rK := fun p : Bel wr.heap.size wr => HK.out p.v (hbr.trans (p.h.mono hbr.size))
                have r0 : ∀ p : Bel wr.heap.size wr, p.v.cell? ⟨w.heap.size, 0, none⟩ = some (.int .i64 a.op) := fun p => (cells5 (rK p).1).1
                have r1 : ∀ p : Bel wr.heap.size wr, p.v.cell? ⟨w.heap.size, 1, none⟩ = some (.int .i64 a.n) := fun p => (cells5 (rK p).1).2.1
                have r2 : ∀ p : Bel wr.heap.size wr, p.v.cell? ⟨w.heap.size, 2, none⟩ = some (.string a.s) := fun p => (cells5 (rK p).1).2.2.1
                have r3 : ∀ p : Bel wr.heap.size wr, p.v.cell? ⟨w.heap.size, 3, none⟩ = some (.slice U nu cu) := fun p => (cells5 (rK p).1).2.2.2.1
                have r4 : ∀ p : Bel wr.heap.size wr, p.v.cell? ⟨w.heap.size, 4, none⟩ = some (.slice (some ⟨bx, ox, none⟩) nl cl) := fun p => (cells5 (rK p).1).2.2.2.2
                have q4 : ∀ p : Bel wr.heap.size wr, p.v.cell? ⟨w.heap.size + 1, 4, none⟩ = some (.slice (some ⟨by', oy, none⟩) nl cm) := fun p => (cells5 (rK p).2).2.2.2.2
                have u0 := fun p : Bel wr.heap.size wr => Bel.cell (a := ⟨bx, ox + k * 5, none⟩) (show bx < wr.heap.size by omega) p0 p
                have u1 := fun p : Bel wr.heap.size wr => Bel.cell (a := ⟨bx, ox + k * 5 + 1, none⟩) (show bx < wr.heap.size by omega) p1 p
                have u2 := fun p : Bel wr.heap.size wr => Bel.cell (a := ⟨bx, ox + k * 5 + 2, none⟩) (show bx < wr.heap.size by omega) p2 p
                have u3 := fun p : Bel wr.heap.size wr => Bel.cell (a := ⟨bx, ox + k * 5 + 3, none⟩) (show bx < wr.heap.size by omega) p3 p
                have u4 := fun p : Bel wr.heap.size wr => Bel.cell (a := ⟨bx, ox + k * 5 + 4, none⟩) (show bx < wr.heap.size by omega) p4 p
                have v0 := fun p : Bel wr.heap.size wr => Bel.cell (a := ⟨by', oy + k * 5, none⟩) (show by' < wr.heap.size by omega) s0 p
                have v1 := fun p : Bel wr.heap.size wr => Bel.cell (a := ⟨by', oy + k * 5 + 1, none⟩) (show by' < wr.heap.size by omega) s1 p
                have v2 := fun p : Bel wr.heap.size wr => Bel.cell (a := ⟨by', oy + k * 5 + 2, none⟩) (show by' < wr.heap.size by omega) s2 p
                have v3 := fun p : Bel wr.heap.size wr => Bel.cell (a := ⟨by', oy + k * 5 + 3, none⟩) (show by' < wr.heap.size by omega) s3 p
                have v4 := fun p : Bel wr.heap.size wr => Bel.cell (a := ⟨by', oy + k * 5 + 4, none⟩) (show by' < wr.heap.size by omega) s4 p
                have rS := fun p : Bel wr.heap.size wr => isProofP_any b.op b.n a.s U (some ⟨bx, ox, none⟩) nu cu nl cl k p.v hkn
                have rR := fun p : Bel wr.heap.size wr => hyih _ _ _ _ _ _ _ _ _ _ p.v ((hTx.more hsr).lift p.h) ((hTy.more hsr).lift p.h)
                have Fin : Hid (∀ W, Below wr.heap.size wr W → Below W2.heap.size W2 W ∧ Below w.heap.size w W) := Lib.hid fun W hW => ⟨hbr.trans (hW.mono hbr.size), hbwr.trans (hW.mono hsr)⟩
                clear hx hy hTx hTy hyih rK p0 p1 p2 p3 p4 s0 s1 s2 s3 s4 hl hm
                cases hsk' : pfB b.op b.n k
                · have hsk : pfB a.op a.n k = _ := (congrFun (congr (congrArg pfB h1) h2) k).trans hsk'
                  rw [hsk'] at rS
                  generalize hz : agr pfB x y = z at rR
                  have Hz := Lib.hid hz
                  clear hz
                  have HrS := Lib.hid rS
                  have HrR := Lib.hid rR
                  clear rS rR
                  go_wp2_with fail
                  refine wp_region_bel wr.heap.size wr (by kernel_rfl) (by kernel_rfl) (Below.refl _ _) ?_
                  repeat (go_big_quiet_step (first | (go_at_call 58; with_reducible exact Calls.bel_of (by simp) (HrS.out _)) | (go_at_call 55; with_reducible exact Calls.bel_of (by simp) (HrR.out _))))
                  refine wpQuiet_nil ?_
                  rintro _ ⟨pq, rfl⟩
                  have hbq := pq.h
                  generalize pq.v = W3 at hbq ⊢
                  obtain ⟨hb23, hb03⟩ := Fin.out W3 hbq
                  clear r0 r1 r2 r3 r4 q4 u0 u1 u2 u3 u4 v0 v1 v2 v3 v4 HrS HrR
                  cases z
                  · have Hn := Lib.hid (Hbd.out k x y Hx.out Hy.out hsk Hz.out)
                    go_wp2_with fail
                    go_ret
                    exact ⟨ret_bool Hn.out.symm, hb03⟩
                  · have Hn : Hid (∀ (j : Nat) x y, j < k + 1 → a.l[j]? = some x → b.l[j]? = some y → pfB a.op a.n j = true ∨ agr pfB x y = true) := Lib.hid fun j x' y' hj hx' hy' => by
                      by_cases e : j = k
                      · subst e
                        rw [Hx.out] at hx'
                        rw [Hy.out] at hy'
                        cases hx'; cases hy'; exact .inr Hz.out
                      · exact Hup.out j x' y' (by omega) hx' hy'
                    go_wp2_with fail
                    go_roundw
                    case rel => exact ⟨k + 1, by omega, by go_num, Hn.out, hb23⟩
                    case measure => simp [intOf]; omega
                · have hsk : pfB a.op a.n k = _ := (congrFun (congr (congrArg pfB h1) h2) k).trans hsk'
                  rw [hsk'] at rS
                  have Hn : Hid (∀ (j : Nat) x y, j < k + 1 → a.l[j]? = some x → b.l[j]? = some y → pfB a.op a.n j = true ∨ agr pfB x y = true) := Lib.hid fun j x' y' hj hx' hy' => by
                    by_cases e : j = k
                    · subst e
                      exact .inl hsk
                    · exact Hup.out j x' y' (by omega) hx' hy'
                  have HrS := Lib.hid rS
                  have HrR := Lib.hid rR
                  clear rS rR
                  go_wp2_with fail
                  refine wp_region_bel wr.heap.size wr (by kernel_rfl) (by kernel_rfl) (Below.refl _ _) ?_
                  repeat (go_big_quiet_step (first | (go_at_call 58; with_reducible exact Calls.bel_of (by simp) (HrS.out _)) | (go_at_call 55; with_reducible exact Calls.bel_of (by simp) (HrR.out _))))
                  refine wpQuiet_nil ?_
                  rintro _ ⟨pq, rfl⟩
                  have hbq := pq.h
                  generalize pq.v = W3 at hbq ⊢
                  obtain ⟨hb23, hb03⟩ := Fin.out W3 hbq
                  clear r0 r1 r2 r3 r4 q4 u0 u1 u2 u3 u4 v0 v1 v2 v3 v4 HrS HrR
                  go_wp2_with fail
                  go_roundw
                  case rel => exact ⟨k + 1, by omega, by go_num, Hn.out, hb23⟩
                  case measure => simp [intOf]; omega
              · obtain rfl : k = nl := by omega
                have hkk : ¬ (k : Int) < (k : Int) := by omega
                have Hn := Lib.hid (Hok.out Hup.out)
                go_wp2_with fail
                go_ret
                exact ⟨ret_bool Hn.out.symm, hbwr⟩
        · have Hq : Hid (q = false) := Lib.hid (by rw [HD.out, decide_eq_false h4, Bool.and_false]; rfl)
          have h5 : ¬ (nl : Int) = (nm : Int) := by omega
          have h6 : ((nl : Int) == (nm : Int)) = false := beq_eq_false_iff_ne.2 h5
          go_wp2_with fail
          go_ret
          exact ⟨ret_bool Hq.out.symm, hb1⟩
    · have Hq : Hid (q = false) := Lib.hid (by rw [HD.out, decide_eq_false h2, Bool.and_false]; rfl)
      have h6 : (a.n == b.n) = false := beq_eq_false_iff_ne.2 h2
      go_wp2_with fail
      go_ret
      exact ⟨ret_bool Hq.out.symm, hb1⟩
  · have Hq : Hid (q = false) := Lib.hid (by rw [HD.out, decide_eq_false h1]; rfl)
    have h6 : (a.op == b.op) = false := beq_eq_false_iff_ne.2 h1
    go_wp2_with fail
    go_ret
    exact ⟨ret_bool Hq.out.symm, hb1⟩

set_option maxRecDepth 100000 in
set_option maxHeartbeats 8000000 in
theorem agreeN_any (a : Tm) : ∀ (b : Tm) (a0 a1 a2 a3 a4 b0 b1 b2 b3 b4 : Value) (w : World), TmAt w w.heap.size a0 a1 a2 a3 a4 a → TmAt w w.heap.size b0 b1 b2 b3 b4 b →
    Calls Tryz.prog 55 #[.agg #[a0, a1, a2, a3, a4], .agg #[b0, b1, b2, b3, b4], .func (.func 56) #[] #[]] w fun e w' => e = .returned (.bool (agr skN a b)) ∧ Below w.heap.size w w' := by
  induction a using Tm.ind
  rename_i a ih
  intro b a0 a1 a2 a3 a4 b0 b1 b2 b3 b4 w ha hb
  obtain ⟨U, nu, cu, L, nl, cl, rfl, rfl, rfl, rfl, rfl, hu, hnu, hcu, hl, hnl, hcl⟩ := ha.inv
  obtain ⟨V, nv, cv, M, nm, cm, rfl, rfl, rfl, rfl, rfl, hv, hnv, hcv, hm, hnm, hcm⟩ := hb.inv
  clear ha hb
  have hll := hl.1
  have hml := hm.1
  have hnd : ndB a b = (decide (a.op = b.op) && decide (a.n = b.n) && (a.s.toList == b.s.toList) && usB a.u b.u && decide (a.l.length = b.l.length)) := rfl
  rw [hll, hml] at hnd
  have hag := agr_eq skN a b
  rw [hnd] at hag
  generalize agr skN a b = q at hag ⊢
  have HD := Lib.hid hag
  clear hnd hag
  have X := Lib.hid (tbox (w := w) (a0 := .int .i64 a.op) (a1 := .int .i64 a.n) (a2 := .string a.s) (a3 := .slice U nu cu) (a4 := .slice L nl cl) (b0 := .int .i64 b.op) (b1 := .int .i64 b.n) (b2 := .string b.s) (b3 := .slice V nv cv) (b4 := .slice M nm cm) (ty := 25) (Below.refl _ _))
  clear hll hml
  go_enter Tryz.func55, Tryz.ntmps55
  go_upto_region 1 with fail
  generalize (w.alloc (.cells #[.int .i64 a.op, .int .i64 a.n, .string a.s, .slice U nu cu, .slice L nl cl] 25)).alloc (.cells #[.int .i64 b.op, .int .i64 b.n, .string b.s, .slice V nv cv, .slice M nm cm] 25) = W1 at X ⊢
  obtain ⟨k1, k2, hs1, hb1⟩ := X.out
  clear X
  obtain ⟨x0, x1, x2, x3, x4⟩ := cells5 k1
  obtain ⟨y0, y1, y2, y3, y4⟩ := cells5 k2
  by_cases h1 : a.op = b.op
  · by_cases h2 : a.n = b.n
    · cases h3 : (a.s.toList == b.s.toList)
      · have Hq : Hid (q = false) := Lib.hid (by rw [HD.out, h3, Bool.and_false]; rfl)
        go_wp2_with fail
        go_ret
        exact ⟨ret_bool Hq.out.symm, hb1⟩
      · by_cases h4 : nl = nm
        · subst h4
          have HS := Lib.hid (equalFunc_any U nu cu V nv cv a.u b.u W1 ((hu.below hb1).more hb1.size) ((hv.below hb1).more hb1.size) (by omega) (by omega))
          rw [decide_eq_true h1, decide_eq_true h2, h3] at HD
          generalize usB a.u b.u = us at HS HD
          go_wp2_with fail
          refine HS.out.mono ?_
          clear HS x0 x1 x2 x3 x4 y0 y1 y2 y3 y4
          rintro e W2 ⟨rfl, hb2⟩
          have k3 := (hb2.block _ (Array.getElem?_eq_some_iff.1 k1).1).trans k1
          have k4 := (hb2.block _ (Array.getElem?_eq_some_iff.1 k2).1).trans k2
          have hbw := hb1.trans (hb2.mono (by omega))
          have hsz2 := hb2.size
          clear k1 k2
          cases us
          · have Hq : Hid (q = false) := Lib.hid (by rw [HD.out]; rfl)
            go_wp2_with fail
            go_ret
            exact ⟨ret_bool Hq.out.symm, hbw⟩
          · have hq : q = agrL skN a.op a.n 0 a.l b.l := by rw [HD.out]; simp
            have Hok : Hid ((∀ (k : Nat) x y, k < nl → a.l[k]? = some x → b.l[k]? = some y → skN a.op a.n k = true ∨ agr skN x y = true) → q = true) := Lib.hid fun h => by
              rw [hq]
              exact agrL_ok a.l b.l 0 fun k x y hx hy => by rw [Nat.zero_add]; exact h k x y (by rw [← hl.1]; exact (List.getElem?_eq_some_iff.1 hx).1) hx hy
            have Hbd : Hid (∀ (k : Nat) x y, a.l[k]? = some x → b.l[k]? = some y → skN a.op a.n k = false → agr skN x y = false → q = false) := Lib.hid fun k x y hx hy h1 h2 => by
              rw [hq]
              exact agrL_bad a.l b.l 0 k x y hx hy (by rw [Nat.zero_add]; exact h1) h2
            have HK : Hid (∀ W, Below W2.heap.size W2 W → W.heap[w.heap.size]? = some (.cells #[.int .i64 a.op, .int .i64 a.n, .string a.s, .slice U nu cu, .slice L nl cl] 25) ∧ W.heap[w.heap.size + 1]? = some (.cells #[.int .i64 b.op, .int .i64 b.n, .string b.s, .slice V nv cv, .slice M nl cm] 25)) := Lib.hid fun W hW => ⟨(hW.block _ (Array.getElem?_eq_some_iff.1 k3).1).trans k3, (hW.block _ (Array.getElem?_eq_some_iff.1 k4).1).trans k4⟩
            obtain ⟨x0, x1, x2, x3, x4⟩ := cells5 k3
            obtain ⟨y0, y1, y2, y3, y4⟩ := cells5 k4
            clear HD hq k3 k4 h3
            go_wp2_with fail
            go_loopw [47] (fun i wr => ∃ k : Nat, k ≤ nl ∧ i = .int .i64 k ∧ (∀ (j : Nat) x y, j < k → a.l[j]? = some x → b.l[j]? = some y → skN a.op a.n j = true ∨ agr skN x y = true) ∧ Below W2.heap.size W2 wr) (fun i _ => nl - (intOf i).toNat)
            case atStart => exact ⟨0, Nat.zero_le _, rfl, fun j x y hj => absurd hj (by omega), Below.refl _ _⟩
            case round =>
              obtain ⟨k, hk, rfl, hup, hbr⟩ := hrel
              have Hup := Lib.hid hup
              clear hup x0 x1 x2 x3 x4 y0 y1 y2 y3 y4
              have hbwr := hbw.trans (hbr.mono (by omega))
              by_cases hkn : k < nl
              · have hki : (k : Int) < (nl : Int) := by omega
                obtain ⟨bx, ox, x, e0, e1, e2, e3, e4, rfl, hbx, hx, hTx, p0, p1, p2, p3, p4⟩ := (hl.below hbwr).at_ hkn
                obtain ⟨by', oy, y, f0, f1, f2, f3, f4, rfl, hby, hy, hTy, s0, s1, s2, s3, s4⟩ := (hm.below hbwr).at_ hkn
                obtain ⟨U1, nu1, cu1, L1, nl1, cl1, rfl, rfl, rfl, rfl, rfl, _⟩ := hTx.inv
                obtain ⟨U2, nu2, cu2, L2, nl2, cl2, rfl, rfl, rfl, rfl, rfl, _⟩ := hTy.inv
                have hsr := hbwr.size
                have hyih := ih k x hx y
                have Hx := Lib.hid hx
                have Hy := Lib.hid hy
                have rK := fun p : Bel wr.heap.size wr => HK.out p.v (hbr.trans (p.h.mono hbr.size))
                have r0 : ∀ p : Bel wr.heap.size wr, p.v.cell? ⟨w.heap.size, 0, none⟩ = some (.int .i64 a.op) := fun p => (cells5 (rK p).1).1
                have r1 : ∀ p : Bel wr.heap.size wr, p.v.cell? ⟨w.heap.size, 1, none⟩ = some (.int .i64 a.n) := fun p => (cells5 (rK p).1).2.1
                have r2 : ∀ p : Bel wr.heap.size wr, p.v.cell? ⟨w.heap.size, 2, none⟩ = some (.string a.s) := fun p => (cells5 (rK p).1).2.2.1
                have r3 : ∀ p : Bel wr.heap.size wr, p.v.cell? ⟨w.heap.size, 3, none⟩ = some (.slice U nu cu) := fun p => (cells5 (rK p).1).2.2.2.1
                have r4 : ∀ p : Bel wr.heap.size wr, p.v.cell? ⟨w.heap.size, 4, none⟩ = some (.slice (some ⟨bx, ox, none⟩) nl cl) := fun p => (cells5 (rK p).1).2.2.2.2
                have q4 : ∀ p : Bel wr.heap.size wr, p.v.cell? ⟨w.heap.size + 1, 4, none⟩ = some (.slice (some ⟨by', oy, none⟩) nl cm) := fun p => (cells5 (rK p).2).2.2.2.2
                have u0 := fun p : Bel wr.heap.size wr => Bel.cell (a := ⟨bx, ox + k * 5, none⟩) (show bx < wr.heap.size by omega) p0 p
                have u1 := fun p : Bel wr.heap.size wr => Bel.cell (a := ⟨bx, ox + k * 5 + 1, none⟩) (show bx < wr.heap.size by omega) p1 p
                have u2 := fun p : Bel wr.heap.size wr => Bel.cell (a := ⟨bx, ox + k * 5 + 2, none⟩) (show bx < wr.heap.size by omega) p2 p
                have u3 := fun p : Bel wr.heap.size wr => Bel.cell (a := ⟨bx, ox + k * 5 + 3, none⟩) (show bx < wr.heap.size by omega) p3 p
                have u4 := fun p : Bel wr.heap.size wr => Bel.cell (a := ⟨bx, ox + k * 5 + 4, none⟩) (show bx < wr.heap.size by omega) p4 p
                have v0 := fun p : Bel wr.heap.size wr => Bel.cell (a := ⟨by', oy + k * 5, none⟩) (show by' < wr.heap.size by omega) s0 p
                have v1 := fun p : Bel wr.heap.size wr => Bel.cell (a := ⟨by', oy + k * 5 + 1, none⟩) (show by' < wr.heap.size by omega) s1 p
                have v2 := fun p : Bel wr.heap.size wr => Bel.cell (a := ⟨by', oy + k * 5 + 2, none⟩) (show by' < wr.heap.size by omega) s2 p
                have v3 := fun p : Bel wr.heap.size wr => Bel.cell (a := ⟨by', oy + k * 5 + 3, none⟩) (show by' < wr.heap.size by omega) s3 p
                have v4 := fun p : Bel wr.heap.size wr => Bel.cell (a := ⟨by', oy + k * 5 + 4, none⟩) (show by' < wr.heap.size by omega) s4 p
                have rS := fun p : Bel wr.heap.size wr => sameSkip_any b.op b.n a.s U (some ⟨bx, ox, none⟩) nu cu nl cl k p.v hkn
                have rR := fun p : Bel wr.heap.size wr => hyih _ _ _ _ _ _ _ _ _ _ p.v ((hTx.more hsr).lift p.h) ((hTy.more hsr).lift p.h)
                have Fin : Hid (∀ W, Below wr.heap.size wr W → Below W2.heap.size W2 W ∧ Below w.heap.size w W) := Lib.hid fun W hW => ⟨hbr.trans (hW.mono hbr.size), hbwr.trans (hW.mono hsr)⟩
                clear hx hy hTx hTy hyih rK p0 p1 p2 p3 p4 s0 s1 s2 s3 s4 hl hm
                cases hsk' : skN b.op b.n k
                · have hsk : skN a.op a.n k = _ := (congrFun (congr (congrArg skN h1) h2) k).trans hsk'
                  rw [hsk'] at rS
                  generalize hz : agr skN x y = z at rR
                  have Hz := Lib.hid hz
                  clear hz
                  have HrS := Lib.hid rS
                  have HrR := Lib.hid rR
                  clear rS rR
                  go_wp2_with fail
                  refine wp_region_bel wr.heap.size wr (by kernel_rfl) (by kernel_rfl) (Below.refl _ _) ?_
                  repeat (go_big_quiet_step (first | (go_at_call 56; with_reducible exact Calls.bel_of (by simp) (HrS.out _)) | (go_at_call 55; with_reducible exact Calls.bel_of (by simp) (HrR.out _))))
                  refine wpQuiet_nil ?_
                  rintro _ ⟨pq, rfl⟩
                  have hbq := pq.h
                  generalize pq.v = W3 at hbq ⊢
                  obtain ⟨hb23, hb03⟩ := Fin.out W3 hbq
                  clear r0 r1 r2 r3 r4 q4 u0 u1 u2 u3 u4 v0 v1 v2 v3 v4 HrS HrR
                  cases z
                  · have Hn := Lib.hid (Hbd.out k x y Hx.out Hy.out hsk Hz.out)
                    go_wp2_with fail
                    go_ret
                    exact ⟨ret_bool Hn.out.symm, hb03⟩
                  · have Hn : Hid (∀ (j : Nat) x y, j < k + 1 → a.l[j]? = some x → b.l[j]? = some y → skN a.op a.n j = true ∨ agr skN x y = true) := Lib.hid fun j x' y' hj hx' hy' => by
                      by_cases e : j = k
                      · subst e
                        rw [Hx.out] at hx'
                        rw [Hy.out] at hy'
                        cases hx'; cases hy'; exact .inr Hz.out
                      · exact Hup.out j x' y' (by omega) hx' hy'
                    go_wp2_with fail
                    go_roundw
                    case rel => exact ⟨k + 1, by omega, by go_num, Hn.out, hb23⟩
                    case measure => simp [intOf]; omega
                · have hsk : skN a.op a.n k = _ := (congrFun (congr (congrArg skN h1) h2) k).trans hsk'
                  rw [hsk'] at rS
                  have Hn : Hid (∀ (j : Nat) x y, j < k + 1 → a.l[j]? = some x → b.l[j]? = some y → skN a.op a.n j = true ∨ agr skN x y = true) := Lib.hid fun j x' y' hj hx' hy' => by
                    by_cases e : j = k
                    · subst e
                      exact .inl hsk
                    · exact Hup.out j x' y' (by omega) hx' hy'
                  have HrS := Lib.hid rS
                  have HrR := Lib.hid rR
                  clear rS rR
                  go_wp2_with fail
                  refine wp_region_bel wr.heap.size wr (by kernel_rfl) (by kernel_rfl) (Below.refl _ _) ?_
                  repeat (go_big_quiet_step (first | (go_at_call 56; with_reducible exact Calls.bel_of (by simp) (HrS.out _)) | (go_at_call 55; with_reducible exact Calls.bel_of (by simp) (HrR.out _))))
                  refine wpQuiet_nil ?_
                  rintro _ ⟨pq, rfl⟩
                  have hbq := pq.h
                  generalize pq.v = W3 at hbq ⊢
                  obtain ⟨hb23, hb03⟩ := Fin.out W3 hbq
                  clear r0 r1 r2 r3 r4 q4 u0 u1 u2 u3 u4 v0 v1 v2 v3 v4 HrS HrR
                  go_wp2_with fail
                  go_roundw
                  case rel => exact ⟨k + 1, by omega, by go_num, Hn.out, hb23⟩
                  case measure => simp [intOf]; omega
              · obtain rfl : k = nl := by omega
                have hkk : ¬ (k : Int) < (k : Int) := by omega
                have Hn := Lib.hid (Hok.out Hup.out)
                go_wp2_with fail
                go_ret
                exact ⟨ret_bool Hn.out.symm, hbwr⟩
        · have Hq : Hid (q = false) := Lib.hid (by rw [HD.out, decide_eq_false h4, Bool.and_false]; rfl)
          have h5 : ¬ (nl : Int) = (nm : Int) := by omega
          have h6 : ((nl : Int) == (nm : Int)) = false := beq_eq_false_iff_ne.2 h5
          go_wp2_with fail
          go_ret
          exact ⟨ret_bool Hq.out.symm, hb1⟩
    · have Hq : Hid (q = false) := Lib.hid (by rw [HD.out, decide_eq_false h2, Bool.and_false]; rfl)
      have h6 : (a.n == b.n) = false := beq_eq_false_iff_ne.2 h2
      go_wp2_with fail
      go_ret
      exact ⟨ret_bool Hq.out.symm, hb1⟩
  · have Hq : Hid (q = false) := Lib.hid (by rw [HD.out, decide_eq_false h1]; rfl)
    have h6 : (a.op == b.op) = false := beq_eq_false_iff_ne.2 h1
    go_wp2_with fail
    go_ret
    exact ⟨ret_bool Hq.out.symm, hb1⟩
end Go.Proofs.YtdhbfkbkgjmniaaGreatDoor
