/-
  'longest' of the reference: the greatest lengths of ways, by rounds over all edges.
-/
import Derived.Test.YtfaebmpdianniaaGREdge
import Derived.Test.YtfaebmpdianniaaGLonM
namespace Go.Proofs.Ytfaebmpdianniaa
open Go Go.RowKit

/-- the two cells of a way -/
def encW : Option Int → List Value
  | none => [.bool false, .int .i64 0]
  | some a => [.bool true, .int .i64 a]
def isW : Option Int → Bool
  | none => false
  | some _ => true
def numW : Option Int → Int
  | none => 0
  | some a => a
theorem encW_eq (x : Option Int) : encW x = [.bool (isW x), .int .i64 (numW x)] := by cases x <;> rfl
def flatW (l : List (Option Int)) : List Value := l.flatMap encW
theorem flatW_len (l : List (Option Int)) : (flatW l).length = l.length * 2 := by
  induction l with
  | nil => rfl
  | cons x r ih => show (encW x ++ flatW r).length = _; rw [List.length_append, ih, encW_eq]; simp; omega
theorem flatW_at {l : List (Option Int)} : ∀ {j : Nat}, j < l.length → (flatW l)[j * 2]? = some (.bool (isW (gw l j))) ∧ (flatW l)[j * 2 + 1]? = some (.int .i64 (numW (gw l j))) := by
  induction l with
  | nil => intro j h; simp at h
  | cons y r ih =>
    intro j h
    have e : flatW (y :: r) = .bool (isW y) :: .int .i64 (numW y) :: flatW r := by show encW y ++ flatW r = _; rw [encW_eq]; rfl
    rw [e]
    cases j with
    | zero => exact ⟨rfl, rfl⟩
    | succ j =>
      obtain ⟨i1, i2⟩ := ih (j := j) (by simpa using h)
      rw [show (j + 1) * 2 = j * 2 + 1 + 1 by omega]
      exact ⟨by simpa [gw] using i1, by simpa [gw] using i2⟩
theorem flatW_set {l : List (Option Int)} : ∀ {t : Nat} (x : Int), ((flatW l).set (t * 2) (.bool true)).set (t * 2 + 1) (.int .i64 x) = flatW (l.set t (some x)) := by
  induction l with
  | nil => intro t x; rfl
  | cons y r ih =>
    intro t x
    have e : ∀ y, flatW (y :: r) = .bool (isW y) :: .int .i64 (numW y) :: flatW r := by intro y; show encW y ++ flatW r = _; rw [encW_eq]; rfl
    cases t with
    | zero => rw [e]; show _ = flatW (some x :: r); rw [e]; rfl
    | succ t =>
      have e2 : flatW ((y :: r).set (t + 1) (some x)) = .bool (isW y) :: .int .i64 (numW y) :: flatW (r.set t (some x)) := by show encW y ++ flatW _ = _; rw [encW_eq]; rfl
      rw [e, e2, ← ih x, show (t + 1) * 2 = t * 2 + 1 + 1 by omega]
      rfl
theorem flatW_first {n s : Nat} (hs : s < n + 1) : (flatW (List.replicate (n + 1) none)).set (s * 2) (.bool true) = flatW ((List.replicate (n + 1) none).set s (some 0)) := by
  rw [← flatW_set 0]
  refine (List.ext_getElem? fun j => ?_)
  rw [List.getElem?_set (i := s * 2 + 1)]
  split
  · rename_i h
    subst h
    rw [if_pos (by rw [List.length_set, flatW_len]; simp; omega), List.getElem?_set_ne (by omega), (flatW_at (by simpa using hs)).2]
    have : gw (List.replicate (n + 1) (none : Option Int)) s = none := by
      unfold gw
      rw [List.getD_eq_getElem?_getD, List.getElem?_replicate]
      split <;> rfl
    rw [this]; rfl
  · rfl
theorem made_ways (n : Nat) : (madeCells #[.bool false, .int .i64 0] (n * 2)).toList = flatW (List.replicate n none) := by
  refine List.ext_getElem? fun j => ?_
  have hg : ∀ k, gw (List.replicate n (none : Option Int)) k = none := fun k => by
    unfold gw
    rw [List.getD_eq_getElem?_getD, List.getElem?_replicate]
    split <;> rfl
  by_cases hj : j < n * 2
  · have hlen : (flatW (List.replicate n none)).length = n * 2 := by rw [flatW_len]; simp
    have h := flatW_at (l := List.replicate n none) (j := j / 2) (by simp; omega)
    rw [hg] at h
    rcases Nat.mod_two_eq_zero_or_one j with h0 | h0
    · rw [show j / 2 * 2 = j by omega] at h
      rw [h.1]; simp [madeCells, hj, h0, isW]
    · rw [show j / 2 * 2 + 1 = j by omega] at h
      rw [h.2]; simp [madeCells, hj, h0, numW]
  · rw [List.getElem?_eq_none (by simp [madeCells]; omega), List.getElem?_eq_none (by rw [flatW_len]; simp; omega)]
theorem infoW : (Try.prog.info? 104).map (fun i => (i.zero, i.size, i.bytes)) = some (some (.agg #[.bool false, .int .i64 0]), 2, 16) := by kernel_rfl
theorem heap_two' (w : World) (a b : Obj) : ((w.alloc a).alloc b).heap[w.heap.size]? = some a ∧ ((w.alloc a).alloc b).heap[w.heap.size + 1]? = some b := heap_two w a b

/-- what longest says -/
def LonPost (n s : Nat) (E : List Edg) (w : World) (e : Ending) (w' : World) : Prop :=
  Below w.heap.size w w' ∧ ((∃ g st, e = .returned (.tuple #[.slice (some ⟨g, 0, none⟩) (n + 1) (n + 1), .bool true]) ∧ w'.ownsRow w.heap.size 104 2 (.slice (some ⟨g, 0, none⟩) (n + 1) (n + 1)) (n + 1) (flatW st) ∧ LonE n E s st ∧ SmW 1000000000000 st) ∨
    (e = .returned (.tuple #[.slice none 0 0, .bool false]) ∧ ∀ y : Nat → Int, (∀ e ∈ E, hol y e) → False))

set_option maxRecDepth 100000 in
set_option maxHeartbeats 4000000 in
theorem longest_any (n s : Nat) (A : Option Addr) (m c : Nat) (E : List Edg) (w : World) (h : RL w w.heap.size A m E) (hE : ∀ e ∈ E, e.f < n + 1 ∧ e.t < n + 1 ∧ -1000 ≤ e.b ∧ e.b ≤ 1000) (hn : n ≤ 1200) (hs : s < n + 1) (hm : m ≤ 100000) :
    Calls Try.prog 48 #[.int .i64 n, .slice A m c, .int .i64 s] w (LonPost n s E w) := by
  obtain ⟨i0, hi, hz0, hz1, hz2⟩ := info_parts infoW
  have hl : E.length = m := h.1
  have HE := Lib.hid hE
  clear hE
  go_enter Try.func48, Try.ntmps48
  go_wp2_with (refine wpList_make_full _ rfl (.tmp 15) (.tmp 15) 100 rfl w.heap.size 104 i0 (.agg #[.bool false, .int .i64 0]) 2 Try.underlying100 hi hz0 hz1 .i64 .i64 _ _ (n + 1) rfl rfl (by omega) (by omega) (by rw [hz2]; omega) (by unfold maxLen; omega) (Nat.le_refl _) ?_)
  intro w1 hown1 hgrow1
  have hb1 : Below w.heap.size w w1 := (Below.refl _ w).grown hgrow1 (Nat.le_refl _) (fun j hj => by cases hj)
  have hown1' : w1.ownsRow w.heap.size 104 2 (.slice (some ⟨w.heap.size, 0, none⟩) (n + 1) (n + 1)) (n + 1) (flatW (List.replicate (n + 1) none)) := by
    rw [← made_ways]; exact hown1
  clear hown1 hgrow1
  have hfl : (flatW (List.replicate (n + 1) none)).length = (n + 1) * 2 := by rw [flatW_len]; simp
  have f0 := hown1'.frozenAt (s * 2)
  have hfa := flatW_at (l := List.replicate (n + 1) none) (j := s) (by simpa using hs)
  have c0 := (hown1'.cellAt (s * 2) (by omega)).trans hfa.1
  have hown2 : (w1.setCell ⟨w.heap.size, s * 2, none⟩ (.bool true)).ownsRow w.heap.size 104 2 (.slice (some ⟨w.heap.size, 0, none⟩) (n + 1) (n + 1)) (n + 1) (flatW ((List.replicate (n + 1) none).set s (some 0))) := by
    rw [← flatW_first hs]
    exact (hown1'.stored (s * 2) (.bool true)).1
  have hb2 : Below w.heap.size w (w1.setCell ⟨w.heap.size, s * 2, none⟩ (.bool true)) := hb1.setCell (Nat.le_refl _) _
  have hsi : (s : Int) < (n : Int) + 1 := by omega
  generalize hg : w.heap.size = g at *
  clear hfa hown1' hfl
  go_wp2_with fail
  generalize w1.setCell ⟨g, s * 2, none⟩ (.bool true) = w2 at hown2 hb2 ⊢
  clear f0 c0 hb1 w1
  go_loopw [9] (fun r wr => ∃ k : Nat, k ≤ n + 2 ∧ r = .int .i64 k ∧ ∃ st, wr.ownsRow g 104 2 (.slice (some ⟨g, 0, none⟩) (n + 1) (n + 1)) (n + 1) (flatW st) ∧ LonR n E s k st ∧ SmW (1000 * ((k * m : Nat) : Int)) st ∧ Below g w wr) (fun r _ => n + 2 - (intOf r).toNat)
  case atStart => exact ⟨0, Nat.zero_le _, rfl, _, hown2, LonR.begin hs, by rw [Nat.zero_mul]; exact SmW.zero n s, hb2⟩
  case round =>
    clear hown2 hb2
    obtain ⟨k, hk, rfl, st, hown, hlon, hsm, hbr⟩ := hrel
    by_cases hkn : k ≤ n + 1
    · have hki : (k : Int) ≤ (n : Int) + 1 := by omega
      have hkm : k * m ≤ 1201 * m := Nat.mul_le_mul_right _ (by omega)
      have Hlon := Lib.hid hlon
      have Hsm := Lib.hid hsm
      clear hlon hsm
      go_wp2_with fail
      go_loopw [10, 11] (fun q i wx => ∃ j : Nat, j ≤ m ∧ i = .int .i64 j ∧ q = .bool (mores st (E.take j)) ∧ wx.ownsRow g 104 2 (.slice (some ⟨g, 0, none⟩) (n + 1) (n + 1)) (n + 1) (flatW (rnd st (E.take j))) ∧ SmW (1000 * ((k * m + j : Nat) : Int)) (rnd st (E.take j)) ∧ Below g w wx) (fun _ i _ => m - (intOf i).toNat)
      case atStart => exact ⟨0, Nat.zero_le _, rfl, rfl, hown, Hsm.out, hbr⟩
      case round =>
        clear hown hbr
        obtain ⟨j, hj, rfl, rfl, hown, hsm, hbr⟩ := hrel
        by_cases hjm : j < m
        · obtain ⟨b, off, e, rfl, hbl, he, h0, h1, h2⟩ := (h.below hbr).at_ hjm
          obtain ⟨ef, et, eb0, eb1⟩ := HE.out e (List.mem_of_getElem? he)
          have Hst : Hid (E.take (j + 1) = E.take j ++ [e]) := take_snoc he
          have hlen : (rnd st (E.take j)).length = n + 1 := by rw [rnd_len]; exact Hlon.out.len
          have Hmo : Hid (mores st (E.take (j + 1)) = (mores st (E.take j) || chg (rnd st (E.take j)) e)) := by rw [Hid, Hst.out, mores_snoc]
          have Hrn : Hid (rnd st (E.take (j + 1)) = rstep (rnd st (E.take j)) e) := by rw [Hid, Hst.out, rnd_snoc]
          generalize rnd st (E.take j) = sj at hown hsm hlen Hmo Hrn
          generalize mores st (E.take j) = mj at Hmo
          have hgl : g < wr.heap.size := (hown.lt g rfl).2
          have hfl : (flatW sj).length = (n + 1) * 2 := by rw [flatW_len, hlen]
          obtain ⟨pf0, pf1⟩ := flatW_at (l := sj) (j := e.f) (by omega)
          obtain ⟨pt0, pt1⟩ := flatW_at (l := sj) (j := e.t) (by omega)
          have u0 := (hown.cellAt (e.f * 2) (by omega)).trans pf0
          have u1 := (hown.cellAt (e.f * 2 + 1) (by omega)).trans pf1
          have u2 := (hown.cellAt (e.t * 2) (by omega)).trans pt0
          have u3 := (hown.cellAt (e.t * 2 + 1) (by omega)).trans pt1
          have i1 : (e.f : Int) < (n : Int) + 1 := by omega
          have i2 : (e.t : Int) < (n : Int) + 1 := by omega
          have hbw : b < wr.heap.size := by omega
          have hnb : b ≠ g := by omega
          have HK : Hid (∀ w', Below wr.heap.size wr w' → w'.cell? ⟨b, off + j * 3, none⟩ = some (.int .i64 e.f) ∧ w'.cell? ⟨b, off + j * 3 + 1, none⟩ = some (.int .i64 e.t) ∧ w'.cell? ⟨g, e.f * 2, none⟩ = some (.bool (isW (gw sj e.f))) ∧ w'.cell? ⟨g, e.f * 2 + 1, none⟩ = some (.int .i64 (numW (gw sj e.f))) ∧ w'.cell? ⟨g, e.t * 2, none⟩ = some (.bool (isW (gw sj e.t))) ∧ w'.cell? ⟨g, e.t * 2 + 1, none⟩ = some (.int .i64 (numW (gw sj e.t)))) := fun w' hW =>
            ⟨(hW.cell (p := ⟨b, _, none⟩) hbw).trans h0, (hW.cell (p := ⟨b, _, none⟩) hbw).trans h1, (hW.cell (p := ⟨g, _, none⟩) hgl).trans u0, (hW.cell (p := ⟨g, _, none⟩) hgl).trans u1, (hW.cell (p := ⟨g, _, none⟩) hgl).trans u2, (hW.cell (p := ⟨g, _, none⟩) hgl).trans u3⟩
          clear pf0 pf1 pt0 pt1 he
          go_upto_region 10 with fail
          go_cut [12, 13] (fun x y wx => ∃ p q : Nat, x = .pointer (some ⟨p, 0, none⟩) ∧ y = .pointer (some ⟨q, 0, none⟩) ∧ p ≠ q ∧ wx.heap[p]? = some (.cells #[.bool (isW (gw sj e.f)), .int .i64 (numW (gw sj e.f))] 104 (0, 0)) ∧ wx.heap[q]? = some (.cells #[.bool (isW (gw sj e.t)), .int .i64 (numW (gw sj e.t))] 104 (0, 0)) ∧ wr.heap.size ≤ p ∧ wr.heap.size ≤ q ∧ Below wr.heap.size wr wx)
          case first =>
            go_region_held3 (fun w' => w'.cell? ⟨b, off + j * 3, none⟩ = some (.int .i64 e.f) ∧ w'.cell? ⟨b, off + j * 3 + 1, none⟩ = some (.int .i64 e.t) ∧ w'.cell? ⟨g, e.f * 2, none⟩ = some (.bool (isW (gw sj e.f))) ∧ w'.cell? ⟨g, e.f * 2 + 1, none⟩ = some (.int .i64 (numW (gw sj e.f))) ∧ w'.cell? ⟨g, e.t * 2, none⟩ = some (.bool (isW (gw sj e.t))) ∧ w'.cell? ⟨g, e.t * 2 + 1, none⟩ = some (.int .i64 (numW (gw sj e.t)))) (first | exact ⟨h0, h1, u0, u1, u2, u3⟩ | exact HK.out _ (((Below.refl _ wr).alloc (Nat.le_refl _) _).drew) | exact HK.out _ ((((Below.refl _ wr).alloc (Nat.le_refl _) _).alloc (by simp) _).drew)) (fail)
            all_goals (go_wp2_with fail; go_meet)
            all_goals first
              | (have hh := heap_two wr (.cells #[.bool (isW (gw sj e.f)), .int .i64 (numW (gw sj e.f))] 104) (.cells #[.bool (isW (gw sj e.t)), .int .i64 (numW (gw sj e.t))] 104)
                 exact ⟨wr.heap.size, wr.heap.size + 1, rfl, rfl, by omega, hh.1, hh.2, Nat.le_refl _, by omega, (((Below.refl _ wr).alloc (Nat.le_refl _) _).alloc (by simp) _).drew⟩)
              | (have hh := heap_two wr (.cells #[.bool (isW (gw sj e.t)), .int .i64 (numW (gw sj e.t))] 104) (.cells #[.bool (isW (gw sj e.f)), .int .i64 (numW (gw sj e.f))] 104)
                 exact ⟨wr.heap.size + 1, wr.heap.size, rfl, rfl, by omega, hh.2, hh.1, by omega, Nat.le_refl _, (((Below.refl _ wr).alloc (Nat.le_refl _) _).alloc (by simp) _).drew⟩)
          case rest =>
            obtain ⟨p, q, rfl, rfl, hpq, hp, hq, hpl, hql, hbc⟩ := hcut
            obtain ⟨h0, h1, u0, u1, u2, u3⟩ := HK.out _ hbc
            have h2 : wc.cell? ⟨b, off + j * 3 + 2, none⟩ = some (.int .i64 e.b) := (hbc.cell (p := ⟨b, _, none⟩) hbw).trans h2
            have hown := own_below hown hbc
            have hbr := hbr.trans (hbc.mono (by have := hbr.size; omega))
            have hpw : p < wc.heap.size := (Array.getElem?_eq_some_iff.1 hp).1
            have hqw : q < wc.heap.size := (Array.getElem?_eq_some_iff.1 hq).1
            cases hf : gw sj e.f with
            | none =>
              have y0 : wc.cell? ⟨p, 0, none⟩ = some (.bool false) := by simp [World.cell?, hp, hf, isW]
              have hch : chg sj e = false := by unfold chg; rw [hf]
              have hrs : rstep sj e = sj := by unfold rstep; rw [hch]; rfl
              rw [hch, Bool.or_false] at Hmo
              rw [hrs] at Hrn
              clear hf hch hrs hp hq
              go_wp2_with fail
              go_quiet (fail)
              go_wp2_with fail
              go_roundw
              case rel => exact ⟨j + 1, by omega, by go_num, by rw [Hmo.out], by rw [Hrn.out]; exact own_below hown (below_drewN (Below.refl _ _) _), by rw [Hrn.out]; exact fun v a hv => by have := hsm v a hv; omega, below_drewN hbr _⟩
              case measure => simp [intOf]; omega
            | some a =>
              have hab := hsm e.f a hf
              have ha0 : -200000000000 ≤ a := by omega
              have ha1 : a ≤ 200000000000 := by omega
              have y0 : wc.cell? ⟨p, 0, none⟩ = some (.bool true) := by simp [World.cell?, hp, hf, isW]
              have y1 : wc.cell? ⟨p, 1, none⟩ = some (.int .i64 a) := by simp [World.cell?, hp, hf, numW]
              cases ht : gw sj e.t with
              | none =>
                have y2 : wc.cell? ⟨q, 0, none⟩ = some (.bool false) := by simp [World.cell?, hq, ht, isW]
                have hch : chg sj e = true := by unfold chg; rw [hf, ht]
                have hrs : rstep sj e = sj.set e.t (some (a + e.b)) := by unfold rstep; rw [hch, hf]; rfl
                have hsm2 := hsm.step ⟨eb0, eb1⟩
                rw [hch, Bool.or_true] at Hmo
                rw [hrs] at Hrn hsm2
                clear hf hch hrs hp hq ht hab
                go_wp2_with fail
                go_quiet (fail)
                have hbd : Below wc.heap.size wc (wc.drewN nq) := below_drewN (Below.refl _ _) _
                have k1 := (hbd.cell (p := ⟨b, off + j * 3 + 1, none⟩) (show b < wc.heap.size by have := hbc.size; omega)).trans h1
                have k2 := (hbd.cell (p := ⟨b, off + j * 3 + 2, none⟩) (show b < wc.heap.size by have := hbc.size; omega)).trans h2
                have k3 := (hbd.cell (p := ⟨p, 1, none⟩) hpw).trans y1
                have hown3 := own_below hown hbd
                have hbr3 := hbr.trans (hbd.mono (by have := hbr.size; omega))
                generalize wc.drewN nq = W3 at k1 k2 k3 hown3 hbr3 ⊢
                have v0 := (hown3.cellAt (e.t * 2) (by omega)).trans (flatW_at (l := sj) (j := e.t) (by omega)).1
                have v1 := (hown3.cellAt (e.t * 2 + 1) (by omega)).trans (flatW_at (l := sj) (j := e.t) (by omega)).2
                have z0 := hown3.frozenAt (e.t * 2)
                have z1 := hown3.frozenAt (e.t * 2 + 1)
                have hgp : g ≠ p := by omega
                clear y0 y1 y2 h0 h1 h2 u0 u1 u2 u3
                go_wp2_with fail
                go_region_held3 (fun w' => w'.cell? ⟨b, off + j * 3 + 1, none⟩ = some (.int .i64 e.t) ∧ w'.cell? ⟨b, off + j * 3 + 2, none⟩ = some (.int .i64 e.b) ∧ w'.cell? ⟨p, 1, none⟩ = some (.int .i64 a)) (first | exact ⟨k1, k2, k3⟩ | exact ⟨keep_set hnb (keep_set hnb k1), keep_set hnb (keep_set hnb k2), keep_set (Ne.symm hgp) (keep_set (Ne.symm hgp) k3)⟩) (fail)
                rw [show IntKind.i64.wrap (a + e.b) = a + e.b by rw [IntKind.wrap_i64]; omega]
                have hown4 : ((W3.setCell ⟨g, e.t * 2, none⟩ (.bool true)).setCell ⟨g, e.t * 2 + 1, none⟩ (.int .i64 (a + e.b))).ownsRow g 104 2 (.slice (some ⟨g, 0, none⟩) (n + 1) (n + 1)) (n + 1) (flatW (sj.set e.t (some (a + e.b)))) := by
                  have h8 := ((hown3.stored (e.t * 2) (.bool true)).1.stored (e.t * 2 + 1) (.int .i64 (a + e.b))).1
                  rw [flatW_set] at h8
                  exact h8
                have hbr4 : Below g w ((W3.setCell ⟨g, e.t * 2, none⟩ (.bool true)).setCell ⟨g, e.t * 2 + 1, none⟩ (.int .i64 (a + e.b))) := (hbr3.setCell (Nat.le_refl _) _).setCell (Nat.le_refl _) _
                generalize (W3.setCell ⟨g, e.t * 2, none⟩ (.bool true)).setCell ⟨g, e.t * 2 + 1, none⟩ (.int .i64 (a + e.b)) = W4 at hown4 hbr4 ⊢
                clear k1 k2 k3 v0 v1 z0 z1 hown3 hbr3
                go_wp2_with fail
                go_roundw
                case rel => exact ⟨j + 1, by omega, by go_num, by rw [Hmo.out], by rw [Hrn.out]; exact own_below hown4 (Below.refl _ _).drew, by rw [Hrn.out]; exact fun v b hv => by have := hsm2 v b hv; omega, hbr4.drew⟩
                case measure => simp [intOf]; omega
              | some x =>
                have hax := hsm e.t x ht
                have hx0 : -200000000000 ≤ x := by omega
                have hx1 : x ≤ 200000000000 := by omega
                have y2 : wc.cell? ⟨q, 0, none⟩ = some (.bool true) := by simp [World.cell?, hq, ht, isW]
                have y3 : wc.cell? ⟨q, 1, none⟩ = some (.int .i64 x) := by simp [World.cell?, hq, ht, numW]
                by_cases hgt : x < a + e.b
                · have hch : chg sj e = true := by unfold chg; rw [hf, ht]; simpa using hgt
                  have hrs : rstep sj e = sj.set e.t (some (a + e.b)) := by unfold rstep; rw [hch, hf]; rfl
                  have hsm2 := hsm.step ⟨eb0, eb1⟩
                  rw [hch, Bool.or_true] at Hmo
                  rw [hrs] at Hrn hsm2
                  clear hf hch hrs hp hq ht hab hax
                  go_wp2_with fail
                  go_quiet (fail)
                  have hbd : Below wc.heap.size wc (wc.drewN nq) := below_drewN (Below.refl _ _) _
                  have k1 := (hbd.cell (p := ⟨b, off + j * 3 + 1, none⟩) (show b < wc.heap.size by have := hbc.size; omega)).trans h1
                  have k2 := (hbd.cell (p := ⟨b, off + j * 3 + 2, none⟩) (show b < wc.heap.size by have := hbc.size; omega)).trans h2
                  have k3 := (hbd.cell (p := ⟨p, 1, none⟩) hpw).trans y1
                  have hown3 := own_below hown hbd
                  have hbr3 := hbr.trans (hbd.mono (by have := hbr.size; omega))
                  generalize wc.drewN nq = W3 at k1 k2 k3 hown3 hbr3 ⊢
                  have v0 := (hown3.cellAt (e.t * 2) (by omega)).trans (flatW_at (l := sj) (j := e.t) (by omega)).1
                  have v1 := (hown3.cellAt (e.t * 2 + 1) (by omega)).trans (flatW_at (l := sj) (j := e.t) (by omega)).2
                  have z0 := hown3.frozenAt (e.t * 2)
                  have z1 := hown3.frozenAt (e.t * 2 + 1)
                  have hgp : g ≠ p := by omega
                  clear y0 y1 y2 y3 h0 h1 h2 u0 u1 u2 u3
                  go_wp2_with fail
                  go_region_held3 (fun w' => w'.cell? ⟨b, off + j * 3 + 1, none⟩ = some (.int .i64 e.t) ∧ w'.cell? ⟨b, off + j * 3 + 2, none⟩ = some (.int .i64 e.b) ∧ w'.cell? ⟨p, 1, none⟩ = some (.int .i64 a)) (first | exact ⟨k1, k2, k3⟩ | exact ⟨keep_set hnb (keep_set hnb k1), keep_set hnb (keep_set hnb k2), keep_set (Ne.symm hgp) (keep_set (Ne.symm hgp) k3)⟩) (fail)
                  rw [show IntKind.i64.wrap (a + e.b) = a + e.b by rw [IntKind.wrap_i64]; omega]
                  have hown4 : ((W3.setCell ⟨g, e.t * 2, none⟩ (.bool true)).setCell ⟨g, e.t * 2 + 1, none⟩ (.int .i64 (a + e.b))).ownsRow g 104 2 (.slice (some ⟨g, 0, none⟩) (n + 1) (n + 1)) (n + 1) (flatW (sj.set e.t (some (a + e.b)))) := by
                    have h8 := ((hown3.stored (e.t * 2) (.bool true)).1.stored (e.t * 2 + 1) (.int .i64 (a + e.b))).1
                    rw [flatW_set] at h8
                    exact h8
                  have hbr4 : Below g w ((W3.setCell ⟨g, e.t * 2, none⟩ (.bool true)).setCell ⟨g, e.t * 2 + 1, none⟩ (.int .i64 (a + e.b))) := (hbr3.setCell (Nat.le_refl _) _).setCell (Nat.le_refl _) _
                  generalize (W3.setCell ⟨g, e.t * 2, none⟩ (.bool true)).setCell ⟨g, e.t * 2 + 1, none⟩ (.int .i64 (a + e.b)) = W4 at hown4 hbr4 ⊢
                  clear k1 k2 k3 v0 v1 z0 z1 hown3 hbr3
                  go_wp2_with fail
                  go_roundw
                  case rel => exact ⟨j + 1, by omega, by go_num, by rw [Hmo.out], by rw [Hrn.out]; exact own_below hown4 (Below.refl _ _).drew, by rw [Hrn.out]; exact fun v b hv => by have := hsm2 v b hv; omega, hbr4.drew⟩
                  case measure => simp [intOf]; omega
                · have hch : chg sj e = false := by unfold chg; rw [hf, ht]; simpa using hgt
                  have hrs : rstep sj e = sj := by unfold rstep; rw [hch]; rfl
                  rw [hch, Bool.or_false] at Hmo
                  rw [hrs] at Hrn
                  clear hf hch hrs hp hq ht hab hax
                  go_wp2_with fail
                  go_quiet (fail)
                  go_wp2_with fail
                  go_roundw
                  case rel => exact ⟨j + 1, by omega, by go_num, by rw [Hmo.out], by rw [Hrn.out]; exact own_below hown (below_drewN (Below.refl _ _) _), by rw [Hrn.out]; exact fun v a hv => by have := hsm v a hv; omega, below_drewN hbr _⟩
                  case measure => simp [intOf]; omega
        · have hfull : E.take j = E := List.take_of_length_le (by omega)
          have hjm' : j = m := by omega
          rw [hfull] at hown hsm ⊢
          have HE2 : Hid (∀ e ∈ E, e.t < n + 1) := fun e he => (HE.out e he).2.1
          clear hfull
          cases hmo : mores st E
          · have hLE := LonE.of Hlon.out.toLon hmo
            have hrs := (mores_false hmo).1
            rw [hrs] at hown
            have hsm0 := Hsm.out
            clear hmo hrs
            go_wp2_with fail
            go_ret2
            refine ⟨by rw [hg]; exact hbr, .inl ⟨g, st, rfl, by rw [hg]; exact hown, hLE, fun v a hv => ?_⟩⟩
            have := hsm0 v a hv
            omega
          · have hLN := Lib.hid (Hlon.out.next HE2.out hmo)
            have hsm2 : Hid (SmW (1000 * (((k + 1) * m : Nat) : Int)) (rnd st E)) := by
              rw [Hid, Nat.succ_mul, ← hjm']
              rw [hjm'] at hsm ⊢
              exact hsm
            clear hmo hjm' hsm
            go_wp2_with fail
            go_roundw
            case rel => exact ⟨k + 1, by omega, by go_num, _, hown, hLN.out, hsm2.out, hbr⟩
            case measure => simp [intOf]; omega
    · have hkn2 : k = n + 2 := by omega
      have hki : ¬ (k : Int) ≤ (n : Int) + 1 := by omega
      have hno : ∀ y : Nat → Int, (∀ e ∈ E, hol y e) → False := by rw [hkn2] at hlon; exact hlon.no
      clear hkn2
      go_wp2_with fail
      go_ret2
      exact ⟨by rw [hg]; exact hbr, .inr ⟨rfl, hno⟩⟩
end Go.Proofs.Ytfaebmpdianniaa
