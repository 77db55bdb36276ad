/-
  'Format' of package level: the text of the canonical form, for every level.
-/
import Derived.Test.YtgbbmcfhakliiaaGreatDoorWhole
namespace Go.Proofs.YtgbbmcfhakliiaaGreatDoor
open Go Go.RowKit Go.Shelf

theorem join_len {K : Nat} : ∀ {ps : List (List UInt8)}, (∀ p ∈ ps, p.length ≤ K) → (Lib.join ps [44]).length ≤ ps.length * (K + 1)
  | [], _ => by simp [Lib.join_nil]
  | x :: r, h => by
    rw [Lib.join_cons]
    have h1 : (Lib.joinTail [44] r).length ≤ r.length * (K + 1) := by
      have : ∀ (r : List (List UInt8)), (∀ p ∈ r, p.length ≤ K) → (Lib.joinTail [44] r).length ≤ r.length * (K + 1) := by
        intro r
        induction r with
        | nil => intro _; simp [Lib.joinTail]
        | cons y t ih =>
          intro hh
          have h2 := ih fun p hp => hh p (List.mem_cons_of_mem _ hp)
          have h3 := hh y (by simp)
          have e : Lib.joinTail [44] (y :: t) = [44] ++ y ++ Lib.joinTail [44] t := by simp [Lib.joinTail]
          rw [e]
          simp only [List.length_append, List.length_cons, List.length_nil, Nat.add_mul]
          omega
      exact this r fun p hp => h p (List.mem_cons_of_mem _ hp)
    have h2 := h x (by simp)
    simp only [List.length_append, List.length_cons, Nat.add_mul]
    omega
theorem part_len {x : Int × Int} (h : (0 ≤ x.1 ∧ x.1 ≤ 1000000) ∧ 0 ≤ x.2 ∧ x.2 ≤ 1000000) : (partB x).length ≤ 44 := by
  have h1 := Lib.itoa_length_le x.1 (by omega) (by omega)
  have h2 := Lib.itoa_length_le x.2 (by omega) (by omega)
  unfold partB
  split
  · simp; omega
  · simp; omega
theorem parts_len {c : Int} {l : List (Int × Int)} (hs : Small l) (h0 : 0 ≤ c) (h1 : c ≤ 1000000) : ∀ p ∈ partsB c l, p.length ≤ 44 := by
  intro p hp
  unfold partsB at hp
  rcases List.mem_append.1 hp with hp | hp
  · obtain ⟨x, hx, rfl⟩ := List.mem_map.1 hp
    exact part_len (hs x hx)
  · split at hp
    · cases hp
    · rw [List.mem_singleton.1 hp]
      exact Nat.le_trans (Lib.itoa_length_le c (by omega) (by omega)) (by omega)
theorem parts_ne (c : Int) (l : List (Int × Int)) : partsB c l ≠ [] := by
  unfold partsB
  by_cases h : c = 0 ∧ l ≠ []
  · rw [if_pos h]; simp [h.2]
  · rw [if_neg h]; simp
theorem parts_count (c : Int) (l : List (Int × Int)) : (partsB c l).length ≤ l.length + 1 := by
  unfold partsB
  split <;> simp

theorem canon_small {c : Int} {l : List (Int × Int)} (h : vld c l = true) : Small (canonV l) ∧ (canonV l).length ≤ 8 := by
  have hv := vld_iff.1 h
  refine ⟨fun x hx => ?_, Nat.le_trans (canonV_len l) hv.len⟩
  obtain ⟨i, hi, e⟩ := List.mem_iff_getElem.1 ((canonV_canon l).top x hx).1
  obtain ⟨h1, h2, _⟩ := hv.ok i x hi (by rw [← e]; exact List.getElem?_eq_getElem hi)
  omega
theorem nvars_small {c : Int} {l : List (Int × Int)} (h : nErr c l = 0) : Small (nVars c l) ∧ (nVars c l).length ≤ 8 ∧ 0 ≤ nConst c l ∧ nConst c l ≤ 1000 := by
  have hv : vld c l = true := by
    cases hv : vld c l with
    | true => rfl
    | false => rw [nErr, hv] at h; simp at h
  have hce : cErr c l = 0 := by rw [nErr, if_pos hv] at h; exact h
  obtain ⟨h1, h2⟩ := canon_small hv
  obtain ⟨h3, h4⟩ := vld_c hv
  rw [nVars, if_pos hv, nConst, if_pos hv, cVars, if_pos hce, cConst, if_pos hce]
  refine ⟨h1, h2, ?_⟩
  split <;> omega

/-- Format's text -/
noncomputable def fText (c : Int) (l : List (Int × Int)) : List UInt8 := if nErr c l = 0 then wholeB (partsB (nConst c l) (nVars c l)) else []

set_option maxRecDepth 100000 in
set_option maxHeartbeats 4000000 in
theorem format_any (c : Int) (A : Option Addr) (n cap : Nat) (l : List (Int × Int)) (w : World) (h : PL w w.heap.size A n l) (hn : n ≤ cap) (hm : cap ≤ 9223372036854775807) (hP : Pow w) :
    Calls Tryz.prog 6 #[.agg #[.int .i64 c, .slice A n cap]] w fun e w' => e = .returned (.tuple #[.string (bs (fText c l)), .int .i64 (nErr c l)]) ∧ Below w.heap.size w w' := by
  have hb0 : Below w.heap.size w (w.alloc (.cells #[.int .i64 c, .slice A n cap] 24)) := (Below.refl _ _).alloc (Nat.le_refl _) _
  have hN := normal_any c A n cap l _ (h.lift hb0) hn hm
  have Hsm := Lib.hid (@nvars_small c l)
  have Hft : Hid (fText c l = if nErr c l = 0 then wholeB (partsB (nConst c l) (nVars c l)) else []) := rfl
  generalize nErr c l = er at hN Hsm Hft ⊢
  generalize nConst c l = cc at hN Hsm Hft
  generalize nVars c l = cv at hN Hsm Hft
  by_cases he : er = 0
  · have hq1 : (er == 0) = true := by simp [he]
    have hq2 : (er != 0) = false := by simp [he]
    obtain ⟨hsm, hlen, hc0, hc1⟩ := Hsm.out he
    have Hf : Hid (fText c l = wholeB (partsB cc cv)) := by rw [Hid, Hft.out, if_pos he]
    have He := Lib.hid he; clear he
    go_enter Tryz.func6, Tryz.ntmps6
    go_wp2_with fail
    refine hN.mono ?_
    rintro e w1 ⟨v, rfl, ⟨A2, m2, c2, rfl, hP2, hm2, hc2, _⟩, hb1⟩
    go_wp2_with fail
    have hb01 : Below w.heap.size w w1 := hb0.trans (hb1.mono hb0.size)
    have hb2 : Below w1.heap.size w1 ((w1.alloc (.cells #[.int .i64 cc, .slice A2 m2 c2] 24)).alloc (.cells #[.slice none 0 0] 39)) := ((Below.refl _ _).alloc (Nat.le_refl _) _).alloc (by simp) _
    have hwl := hP.lt
    have hwl1 := hb01.size
    have hP' := hP.below (hb01.trans (hb2.mono hb01.size)) (.inl (Nat.le_refl _))
    refine (eachPart_any cc A2 m2 c2 cv (w1.heap.size + 1) _ (hP2.lift hb2) (by have := hP2.1; omega) (by simp) (by simp) (by simp) hsm hc0 (by omega) (fun h0 b off e => ?_) hP' (by omega)).mono ?_
    · obtain ⟨b', off', e', hb', _⟩ := hP2.2 h0
      rw [e] at e'; injection e' with e'; injection e' with e'; omega
    rintro e w3 ⟨rfl, htx, hbb⟩
    have hb23 := hbb.below (T := w1.heap.size + 1) (by simp)
    have hT3 : w1.heap.size + 1 < w3.heap.size := by have := hbb.size; simp at this; omega
    go_wp2_with fail
    refine (whole_any _ (w1.heap.size + 1) (partsB cc cv) w3 htx (parts_ne _ _) (by have := parts_count cc cv; omega) (by have h1 := join_len (parts_len (c := cc) hsm hc0 (by omega)); have h2 := parts_count cc cv; have h3 : (partsB cc cv).length * (44 + 1) ≤ 9 * 45 := Nat.mul_le_mul (by omega) (Nat.le_refl _); omega)).mono ?_
    rintro e w4 ⟨rfl, hb4⟩
    go_wp2_with fail
    go_ret2
    have hb13 : Below w1.heap.size w1 w3 := hb2.trans (hb23.mono (by omega))
    have hb03 : Below w.heap.size w w3 := hb01.trans (hb13.mono hb01.size)
    exact ⟨by rw [Hf.out, He.out]; rfl, hb03.trans (hb4.mono hb03.size)⟩
  · have hq1 : (er == 0) = false := by simp [he]
    have hq2 : (er != 0) = true := by simp [he]
    have Hf : Hid (fText c l = []) := by rw [Hid, Hft.out, if_neg he]
    have He := Lib.hid he; clear he
    go_enter Tryz.func6, Tryz.ntmps6
    go_wp2_with fail
    refine hN.mono ?_
    rintro e w1 ⟨v, rfl, ⟨A2, m2, c2, rfl, _, _, _, _⟩, hb1⟩
    have hb01 : Below w.heap.size w w1 := hb0.trans (hb1.mono hb0.size)
    go_wp2_with fail
    go_ret2
    exact ⟨by rw [Hf.out]; rfl, hb01.alloc hb01.size _⟩
end Go.Proofs.YtgbbmcfhakliiaaGreatDoor
