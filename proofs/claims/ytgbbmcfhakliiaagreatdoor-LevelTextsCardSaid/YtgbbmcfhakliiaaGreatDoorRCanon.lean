/-
  'canonical' of the reference: the canonical list of the parts, and the number beside it where no part reaches it.
-/
import Derived.Test.YtgbbmcfhakliiaaGreatDoorPut
namespace Go.Proofs.YtgbbmcfhakliiaaGreatDoor
open Go Go.RowKit Go.Sort Go.Shelf

def cf (c : Int) (r : List (Int × Int)) : Int := r.foldl (fun t y => if t ≤ y.2 then 0 else t) c
theorem cf_snoc (c : Int) (r : List (Int × Int)) (y : Int × Int) : cf c (r ++ [y]) = if cf c r ≤ y.2 then 0 else cf c r := by unfold cf; rw [List.foldl_append]; rfl
theorem cf_zero (r : List (Int × Int)) : cf 0 r = 0 := by
  induction r with
  | nil => rfl
  | cons y r ih =>
    have e : cf 0 (y :: r) = cf (if (0 : Int) ≤ y.2 then 0 else 0) r := rfl
    rw [e, ite_self, ih]
theorem cf_eq {c : Int} (hc : 0 ≤ c) (r : List (Int × Int)) : cf c r = if c ≤ gplus r then 0 else c := by
  have key : ∀ (r : List (Int × Int)) (t : Int), 0 ≤ t → c ≠ 0 → t < c → cf c r = if c ≤ r.foldl (fun t x => if t < x.2 then x.2 else t) t then 0 else c := by
    intro r
    induction r with
    | nil => intro t _ _ h; have h' : ¬ c ≤ t := by omega
             simp [cf, h']
    | cons y r ih =>
      intro t h0 h1 h2
      have e : cf c (y :: r) = cf (if c ≤ y.2 then 0 else c) r := rfl
      rw [e, List.foldl_cons]
      by_cases h : c ≤ y.2
      · rw [if_pos h, cf_zero, if_pos (by omega : t < y.2)]
        have mono : ∀ (r : List (Int × Int)) (t : Int), t ≤ r.foldl (fun t x => if t < x.2 then x.2 else t) t := by
          intro r
          induction r with
          | nil => intro t; exact Int.le_refl _
          | cons z r ih' =>
            intro t
            simp only [List.foldl_cons]
            have := ih' (if t < z.2 then z.2 else t)
            split at this <;> (rename_i hh; simp only [hh, if_true, if_false]; omega)
        have := mono r y.2
        rw [if_pos (by omega)]
      · rw [if_neg h]
        exact ih _ (by split <;> omega) h1 (by split <;> omega)
  by_cases h0 : c = 0
  · subst h0
    rw [cf_zero]; split <;> rfl
  · exact key r 0 (Int.le_refl _) h0 (by omega)

/-- what stands while the reference makes its canonical level: the result's box R, the level's box S -/
structure RC (w wr : World) (c : Int) (A : Option Addr) (m cap : Nat) (r : List (Int × Int)) : Prop where
  bel : Go.RowKit.Below w.heap.size w wr
  size : w.heap.size + 2 ≤ wr.heap.size
  r0 : wr.cell? ⟨w.heap.size, 0, none⟩ = some (.int .i64 0)
  r1 : wr.cell? ⟨w.heap.size, 1, none⟩ = some (.slice none 0 0)
  r2 : wr.frozen? ⟨w.heap.size, 0, none⟩ = false
  r3 : wr.frozen? ⟨w.heap.size, 1, none⟩ = false
  s0 : wr.cell? ⟨w.heap.size + 1, 0, none⟩ = some (.int .i64 c)
  s1 : wr.cell? ⟨w.heap.size + 1, 1, none⟩ = some (.slice A m cap)
  s2 : wr.frozen? ⟨w.heap.size + 1, 0, none⟩ = false
  s3 : wr.frozen? ⟨w.heap.size + 1, 1, none⟩ = false
  pl : PL wr wr.heap.size A m r
  le : m ≤ cap
  top : cap ≤ 9223372036854775807
  off : ∀ b off, A = some ⟨b, off, none⟩ → w.heap.size + 2 ≤ b
theorem RC.go {w wr w5 : World} {c : Int} {A A' : Option Addr} {m cap m' cap' : Nat} {r r' : List (Int × Int)} (h : RC w wr c A m cap r) (hb : Go.RowKit.Below wr.heap.size wr w5) (hp : PL w5 w5.heap.size A' m' r') (hl : m' ≤ cap') (ht : cap' ≤ 9223372036854775807)
    (ho : ∀ b off, A' = some ⟨b, off, none⟩ → w.heap.size + 2 ≤ b) : RC w (w5.setCell ⟨w.heap.size + 1, 1, none⟩ (.slice A' m' cap')) c A' m' cap' r' := by
  have hs := h.size
  have c0 := (hb.cell (p := ⟨w.heap.size, 0, none⟩) (show w.heap.size < _ by omega)).trans h.r0
  have c1 := (hb.cell (p := ⟨w.heap.size, 1, none⟩) (show w.heap.size < _ by omega)).trans h.r1
  have c2 := (hb.frozen (p := ⟨w.heap.size, 0, none⟩) (show w.heap.size < _ by omega)).trans h.r2
  have c3 := (hb.frozen (p := ⟨w.heap.size, 1, none⟩) (show w.heap.size < _ by omega)).trans h.r3
  have d0 := (hb.cell (p := ⟨w.heap.size + 1, 0, none⟩) (show w.heap.size + 1 < _ by omega)).trans h.s0
  have d1 := (hb.cell (p := ⟨w.heap.size + 1, 1, none⟩) (show w.heap.size + 1 < _ by omega)).trans h.s1
  have d2 := (hb.frozen (p := ⟨w.heap.size + 1, 0, none⟩) (show w.heap.size + 1 < _ by omega)).trans h.s2
  have d3 := (hb.frozen (p := ⟨w.heap.size + 1, 1, none⟩) (show w.heap.size + 1 < _ by omega)).trans h.s3
  have hsz : (w5.setCell ⟨w.heap.size + 1, 1, none⟩ (.slice A' m' cap')).heap.size = w5.heap.size := by simp
  refine ⟨(h.bel.trans (hb.mono h.bel.size)).setCell (by show w.heap.size ≤ w.heap.size + 1; omega) _, by rw [hsz]; have := hb.size; omega, keep_set (by omega) c0, keep_set (by omega) c1, by rw [World.frozen?_setCell]; exact c2, by rw [World.frozen?_setCell]; exact c3, keep_off (by decide) d0, World.cell?_setCell_same _ _ _ d1, by rw [World.frozen?_setCell]; exact d2, by rw [World.frozen?_setCell]; exact d3, ?_, hl, ht, ho⟩
  rw [hsz]
  exact hp.set1 _ fun b off e => by have := ho b off e; omega
theorem RC.num {w wr : World} {c : Int} {A : Option Addr} {m cap : Nat} {r : List (Int × Int)} (h : RC w wr c A m cap r) (d : Int) : RC w (wr.setCell ⟨w.heap.size + 1, 0, none⟩ (.int .i64 d)) d A m cap r := by
  have hsz : (wr.setCell ⟨w.heap.size + 1, 0, none⟩ (.int .i64 d)).heap.size = wr.heap.size := by simp
  refine ⟨h.bel.setCell (by show w.heap.size ≤ w.heap.size + 1; omega) _, by rw [hsz]; exact h.size, keep_set (by omega) h.r0, keep_set (by omega) h.r1, by rw [World.frozen?_setCell]; exact h.r2, by rw [World.frozen?_setCell]; exact h.r3, World.cell?_setCell_same _ _ _ h.s0, keep_off (by decide) h.s1, by rw [World.frozen?_setCell]; exact h.s2, by rw [World.frozen?_setCell]; exact h.s3, ?_, h.le, h.top, h.off⟩
  rw [hsz]
  exact h.pl.set1 _ fun b off e => by have := h.off b off e; omega
theorem RC.drew {w wr : World} {c : Int} {A : Option Addr} {m cap : Nat} {r : List (Int × Int)} (h : RC w wr c A m cap r) (k : Nat) : RC w (wr.drewN k) c A m cap r :=
  ⟨below_drewN h.bel k, by simpa using h.size, by simpa using h.r0, by simpa using h.r1, by simpa using h.r2, by simpa using h.r3, by simpa using h.s0, by simpa using h.s1, by simpa using h.s2, by simpa using h.s3, by
    have := h.pl.lift (below_drewN (Go.RowKit.Below.refl wr.heap.size wr) k); exact this, h.le, h.top, h.off⟩

theorem RC.start (w : World) (c : Int) : RC w ((w.alloc (.cells #[.int .i64 0, .slice none 0 0] 24)).alloc (.cells #[.int .i64 c, .slice none 0 0] 24)) c none 0 0 [] := by
  obtain ⟨⟨q0, q1, q2, q3⟩, q4, q5⟩ := box2 (w := w) (x0 := .int .i64 0) (x1 := .slice none 0 0) (y0 := .int .i64 c) (y1 := .slice none 0 0) (t := 24) (Go.RowKit.Below.refl _ _)
  exact ⟨q5, q4, q0, q1, by simp, by simp, q2, q3, by simp, by simp, PL.nil_ _, Nat.le_refl _, Nat.zero_le _, fun _ _ e => by cases e⟩

set_option maxRecDepth 100000 in
set_option maxHeartbeats 4000000 in
theorem refCanonical_any (c : Int) (A : Option Addr) (n cap : Nat) (l : List (Int × Int)) (w : World) (h : PL w w.heap.size A n l) (hn : n ≤ 1000000) (hc : 0 ≤ c) :
    Calls Tryz.prog 22 #[.int .i64 c, .slice A n cap] w fun e w' => ∃ v, e = .returned v ∧ LvRes w.heap.size w' v (if c ≤ gplus (canonV l) then 0 else c) (canonV l) ∧ Go.RowKit.Below w.heap.size w w' := by
  obtain ⟨r, hr⟩ : ∃ r, canonV l = r := ⟨_, rfl⟩
  rw [hr, ← cf_eq hc r]
  have Hr := Lib.hid hr; clear hr
  go_enter Tryz.func22, Tryz.ntmps22
  go_wp2_with fail
  go_loopw [6] (fun i wr => ∃ k : Nat, k ≤ n ∧ i = .int .i64 k ∧ ∃ A' m cap', RC w wr c A' m cap' (canonV (l.take k))) (fun i _ => n - (intOf i).toNat)
  case atStart =>
    refine ⟨0, Nat.zero_le _, rfl, none, 0, 0, ?_⟩
    exact RC.start w c
  case round =>
    obtain ⟨k, hk, rfl, A', m, cap', hrc⟩ := hrel
    have hml : m ≤ 1000000 := by
      have h1 := hrc.pl.1
      have h2 := canonV_len (l.take k)
      rw [List.length_take] at h2; omega
    by_cases hlt : k < n
    · obtain ⟨b, off, x, rfl, hbl, hx, hx0, hx1⟩ := (h.below hrc.bel).at_ hlt
      have Hst : Hid (canonV (l.take (k + 1)) = putP (canonV (l.take k)) x) := by rw [Hid, take_snoc hx, canonV_snoc]
      have hasc := (canonV_canon (l.take k)).asc
      generalize canonV (l.take k) = q at hrc Hst hasc
      have hcall := fun W (hW : Go.RowKit.Below wr.heap.size wr W) => put_any A' m cap' q x W (hrc.pl.lift hW) hml hasc
      have Hcall := Lib.hid hcall; clear hcall
      have s1 := hrc.s1
      have s3 := hrc.s3
      have hsz := hrc.size
      go_wp2_with fail
      go_region_with ((go_at_call 34; refine (Hcall.out _ (Go.RowKit.Below.drew (Go.RowKit.Below.refl _ wr))).mono ?_; rintro e w5 ⟨v5, rfl, hown5, hb5⟩; obtain ⟨A5, c5, rfl, hl5, hm5, hp5, ho5⟩ := PL.of_own hown5; clear hown5; have hb6 : Go.RowKit.Below wr.heap.size wr w5 := (Go.RowKit.Below.drew (Go.RowKit.Below.refl _ wr)).trans (hb5.mono (by simp)); have y1 := (hb6.cell (p := ⟨w.heap.size + 1, 1, none⟩) (show w.heap.size + 1 < wr.heap.size by omega)).trans s1; have y3 := (hb6.frozen (p := ⟨w.heap.size + 1, 1, none⟩) (show w.heap.size + 1 < wr.heap.size by omega)).trans s3))
      all_goals
        have hgo := hrc.go hb6 hp5 hl5 (by unfold maxLen at hm5; omega) (fun b off e => by
          rcases ho5 with rfl | ⟨g, rfl, hg, _⟩
          · cases e
          · injection e with e; injection e with e; subst e; have : wr.heap.size ≤ g := by simpa using hg
            omega)
        clear y1 y3 s1 s3
        go_wp2_with fail
        go_roundw
        case rel => exact ⟨k + 1, by omega, by go_num, A5, _, c5, by rw [Hst.out]; exact hgo⟩
        case measure => simp [intOf]; omega
    · have hfull : l.take k = l := List.take_of_length_le (by have := h.1; omega)
      rw [hfull] at hrc
      clear hfull
      rw [Hr.out] at hrc
      have s1 := hrc.s1
      go_wp2_with fail
      have hrc0 : RC w wr (cf c (r.take 0)) A' m cap' r := hrc
      clear hrc s1
      go_loopw [7] (fun i wr => ∃ k : Nat, k ≤ m ∧ i = .int .i64 k ∧ RC w wr (cf c (r.take k)) A' m cap' r) (fun i _ => m - (intOf i).toNat)
      case atStart => exact ⟨0, Nat.zero_le _, rfl, hrc0⟩
      case round =>
        rename_i wr0 _ wr
        obtain ⟨j, hj, rfl, hrc⟩ := hrel
        have s0 := hrc.s0
        have s1 := hrc.s1
        have s2 := hrc.s2
        by_cases hlt2 : j < m
        · obtain ⟨b, off, y, rfl, hbl, hy, hy0, hy1⟩ := hrc.pl.at_ hlt2
          have hcs := cf_snoc c (r.take j) y
          rw [← take_snoc hy] at hcs
          generalize cf c (r.take j) = d at hrc hcs s0
          by_cases hd : d ≤ y.2
          · rw [if_pos hd] at hcs
            have Hcs := Lib.hid hcs; clear hcs
            go_wp2_with fail
            go_quiet (fail)
            go_wp2_with fail
            go_roundw
            case rel => exact ⟨j + 1, by omega, by go_num, by rw [Hcs.out]; exact (hrc.drew _).num 0⟩
            case measure => simp [intOf]; omega
          · rw [if_neg hd] at hcs
            have Hcs := Lib.hid hcs; clear hcs
            go_wp2_with fail
            go_quiet (fail)
            go_wp2_with fail
            go_roundw
            case rel => exact ⟨j + 1, by omega, by go_num, by rw [Hcs.out]; exact hrc.drew _⟩
            case measure => simp [intOf]; omega
        · have hfull : r.take j = r := List.take_of_length_le (by have := hrc.pl.1; omega)
          rw [hfull] at hrc s0
          clear hfull
          have e0 := World.cell?_setCell_same wr ⟨w.heap.size, 0, none⟩ (.int .i64 (cf c r)) hrc.r0
          have e1 := World.cell?_setCell_same (wr.setCell ⟨w.heap.size, 0, none⟩ (.int .i64 (cf c r))) ⟨w.heap.size, 1, none⟩ (.slice A' m cap') (keep_off (by decide) hrc.r1)
          have r0 := hrc.r0
          have r1 := hrc.r1
          have r2 := hrc.r2
          have r3 := hrc.r3
          go_wp2_with fail
          refine bodyPost_ret (v := .agg #[.int .i64 (cf c r), .slice A' m cap']) (by simp [results, Tryz.results22, go_sem, e0, e1]) rfl ?_
          refine ⟨_, rfl, ⟨A', m, cap', rfl, ?_, hrc.le, hrc.top, fun b off e => by have := hrc.off b off e; omega⟩, (hrc.bel.setCell (Nat.le_refl _) _).setCell (Nat.le_refl _) _⟩
          exact hrc.pl.set2 _ _ (fun b off e => by have := hrc.off b off e; omega) (by simp)
end Go.Proofs.YtgbbmcfhakliiaaGreatDoor
