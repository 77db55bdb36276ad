/-
  'merged' of package level at parts of levels, with 'byVar' and 'greater': the parts sorted, equal variables joined; in memory of its own.
-/
import Derived.Test.YtgbbmcfhakliiaaGreatDoorOwn
import Derived.Test.YtgbbmcfhakliiaaGreatDoorShelf
import Derived.Deep.RegionWith
import Derived.RegionTactic
namespace Go.Proofs.YtgbbmcfhakliiaaGreatDoor
open Go Go.RowKit Go.Sort Go.Shelf

theorem infoV : (Tryz.prog.info? 45).map (fun i => (i.zero, i.size, i.bytes)) = some (some (.agg #[.int .i64 0, .int .i64 0]), 2, 16) := by kernel_rfl

set_option maxHeartbeats 1000000 in
theorem byVar_any (x y : Int × Int) (W : World) : Calls Tryz.prog 37 #[.agg #[.int .i64 x.1, .int .i64 x.2], .agg #[.int .i64 y.1, .int .i64 y.2]] W fun e w' => e = .returned (.int .i64 (Lib.compareInt x.1 y.1)) ∧ ∃ q os', w' = grow (W.drewN q) os' := by
  have hcon := fun W' => Any.cmp_Compare_int Tryz.layCompare x.1 y.1 W'
  change ∀ W', Calls Tryz.prog 55 _ _ _ at hcon
  generalize Lib.compareInt x.1 y.1 = r at hcon ⊢
  go_enter Tryz.func37, Tryz.ntmps37
  go_wp2_with (go_at_call 55; refine (hcon _).mono ?_; rintro e w' ⟨rfl, rfl⟩)
  go_ret
  exact ⟨rfl, 0, _, by rw [alloc_eq_grow, alloc_eq_grow, grow_grow]; rfl⟩
theorem below_drewN' {B : Nat} {a w : World} (h : Below B a w) (n : Nat) : Below B a (w.drewN n) := below_drewN h n
theorem byVar_below (x y : Int × Int) (W : World) : Calls Tryz.prog 37 #[.agg #[.int .i64 x.1, .int .i64 x.2], .agg #[.int .i64 y.1, .int .i64 y.2]] W fun e w' => e = .returned (.int .i64 (Lib.compareInt x.1 y.1)) ∧ Below W.heap.size W w' :=
  (byVar_any x y W).mono fun _ _ ⟨he, q, os, hw⟩ => ⟨he, hw ▸ below_grow' (below_drewN' (Below.refl _ _) q) os (Nat.le_refl _)⟩
theorem byVar_lays (blk off size : Nat) (w : World) : CmpLays Tryz.prog 37 #[] enc2 2 (fun x y => Lib.compareInt x.1 y.1) blk off size w :=
  fun _ _ _ _ x y => byVar_any x y _

theorem ltV (x y : Int × Int) : Go.Proofs.ltOf (fun x y : Int × Int => Lib.compareInt x.1 y.1) x y = decide (x.1 < y.1) := by
  unfold Go.Proofs.ltOf Lib.compareInt
  by_cases h1 : x.1 < y.1
  · simp [h1]
  · by_cases h2 : y.1 < x.1 <;> simp [h1, h2]
theorem swoV : SWO (Go.Proofs.ltOf fun x y : Int × Int => Lib.compareInt x.1 y.1) where
  irrefl x := by rw [ltV]; simp
  trans x y z h1 h2 := by rw [ltV] at *; simp at *; omega
  ntrans x y z h1 h2 := by rw [ltV] at *; simp at *; omega

set_option maxHeartbeats 1000000 in
theorem greater_any (x y : Int × Int) (W : World) : Calls Tryz.prog 38 #[.agg #[.int .i64 x.1, .int .i64 x.2], .agg #[.int .i64 y.1, .int .i64 y.2]] W fun e w' => e = .returned (.agg #[.int .i64 x.1, .int .i64 (max x.2 y.2)]) ∧ Below W.heap.size W w' := by
  go_enter Tryz.func38, Tryz.ntmps38
  go_wp2
  exact bodyPost_ret (v := .agg #[.int .i64 x.1, .int .i64 (max x.2 y.2)]) (by simp [results, Tryz.results38, go_sem]) rfl ⟨rfl, (((Below.refl _ _).alloc (Nat.le_refl _) _).alloc (by simp) _).alloc (by simp; omega) _⟩

/-- one more part behind parts in order: joined with the last one if that has its variable -/
def mgStep (acc : List (Int × Int)) (x : Int × Int) : List (Int × Int) :=
  match acc.getLast? with
  | some y => if y.1 = x.1 then acc.dropLast ++ [(y.1, max y.2 x.2)] else acc ++ [x]
  | none => acc ++ [x]
def mg (l : List (Int × Int)) : List (Int × Int) := l.foldl mgStep []
theorem mg_snoc (l : List (Int × Int)) (x : Int × Int) : mg (l ++ [x]) = mgStep (mg l) x := by unfold mg; rw [List.foldl_append]; rfl
theorem mgStep_join {acc : List (Int × Int)} {x y : Int × Int} (h : y.1 = x.1) : mgStep (acc ++ [y]) x = acc ++ [(y.1, max y.2 x.2)] := by
  unfold mgStep; rw [List.getLast?_append]; simp [h]
theorem mgStep_push {acc : List (Int × Int)} {x y : Int × Int} (h : ¬ y.1 = x.1) : mgStep (acc ++ [y]) x = acc ++ [y] ++ [x] := by
  unfold mgStep; rw [List.getLast?_append]; simp [h]

/-- slices.Clone at parts: the same list in memory of its own; nil for nil. -/
theorem cloneV_zero (a : Addr) (c : Nat) (w : World) :
    Calls Tryz.prog 53 #[.slice (some a) 0 c] w fun e w' => ∃ v', e = .returned v' ∧ w'.ownsRow w.heap.size 45 2 v' 0 [] ∧ Below w.heap.size w w' := by
  obtain ⟨i0, hi, hz0, hz1, hz2⟩ := info_parts infoV
  have q22 : ∀ (w : World) (a : Option Addr) (n c n' c' : Nat), (binOp .eql 22 (.slice a n c) (.slice none n' c')).run Tryz.prog w = .ok (.bool a.isNone) w := fun w a n c n' c' => Lib.run_eql_slice_nil w _ _ a n c n' c' Tryz.underlying22
  go_enter Tryz.func53, Tryz.ntmps53
  go_wp2_with (at_builtin; refine wpList_append_own _ rfl _ _ 22 rfl w.heap.size 45 i0 (.agg #[.int .i64 0, .int .i64 0]) 2 16 Tryz.underlying22 hi hz0 hz1 hz2 rfl (by decide) _ _ _ rfl (World.ownsRow_made w #[] 0 (Nat.le_refl _) (Nat.zero_le _) rfl) a 0 c [] rfl rfl (by intro j u hj; simp at hj) (by intro u hu; cases hu) (by unfold maxLen; omega) (by omega) (by simp) ?_)
  intro v' w1 hown hgrow hnil
  go_wp2
  go_ret
  exact ⟨v', rfl, by simpa using hown, ((Below.refl _ w).alloc (Nat.le_refl _) _).grown hgrow (by simp) (by intro k hk; simp [Value.ownBlock] at hk; omega)⟩
theorem cloneV_any (A : Option Addr) (n c : Nat) (l : List (Int × Int)) (w : World) (h : PL w w.heap.size A n l) (hn : n ≤ 1000000) :
    Calls Tryz.prog 53 #[.slice A n c] w fun e w' => ∃ v', e = .returned v' ∧ w'.ownsRow w.heap.size 45 2 v' l.length (flat2 l) ∧ Below w.heap.size w w' := by
  have hl := h.1
  subst hl
  rcases Nat.eq_zero_or_pos l.length with h0 | h0
  · have hnil : l = [] := List.eq_nil_of_length_eq_zero h0
    subst hnil
    cases A with
    | none =>
      refine (AnyE.slices_Clone_nil Tryz.layCloneV 0 c w).mono ?_
      rintro e w' ⟨he, hw⟩
      exact ⟨_, he, by rw [hw]; exact World.ownsRow_nil _ _ _ _, by rw [hw]; exact Below.refl _ _⟩
    | some a => exact cloneV_zero a c w
  · obtain ⟨b, off, rfl, hb, hc⟩ := h.2 h0
    obtain ⟨i0, hi, hz0, hz1, hz2⟩ := info_parts infoV
    have hcell : ∀ j u, (flat2 l)[j]? = some u → w.cell? ⟨b, off + j, none⟩ = some u := by
      intro j u hu
      have hj : j < l.length * 2 := by rw [← flat2_len]; exact (List.getElem?_eq_some_iff.1 hu).1
      have hd : j / 2 < l.length := by omega
      obtain ⟨f1, f2⟩ := flat2_at (List.getElem?_eq_getElem hd)
      obtain ⟨c1, c2⟩ := hc (j / 2) _ (List.getElem?_eq_getElem hd)
      generalize l[j / 2] = x at f1 f2 c1 c2
      rcases Nat.mod_two_eq_zero_or_one j with h0 | h0
      · rw [show j / 2 * 2 = j by omega] at f1 c1
        rw [c1, ← f1, hu]
      · rw [show j / 2 * 2 + 1 = j by omega] at f2
        rw [Nat.add_assoc, show j / 2 * 2 + 1 = j by omega] at c2
        rw [c2, ← f2, hu]
    refine (AnyE.slices_Clone Tryz.layCloneV i0 (.agg #[.int .i64 0, .int .i64 0]) 2 16 hi hz0 hz1 hz2 rfl (by decide) Tryz.sizeOf45 b off l.length c (flat2 l) w (flat2_len l) (by unfold maxLen; omega) (by omega) hcell (flat2_one_cell l)).mono ?_
    rintro e w' ⟨v', he, hown, _, hb'⟩
    exact ⟨v', he, hown, hb'⟩
end Go.Proofs.YtgbbmcfhakliiaaGreatDoor
