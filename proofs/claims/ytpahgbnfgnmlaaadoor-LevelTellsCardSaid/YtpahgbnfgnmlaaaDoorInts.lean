/-
  Lists of numbers that a call has made itself: cloned, sorted, joined; equality of lists of numbers that are equal.
-/
import Derived.Test.YtpahgbnfgnmlaaaDoorEval
import Derived.Test.YtpahgbnfgnmlaaaDoorCanon
import Derived.Shelf.SlSortCmp.Whole1
namespace Go.Proofs.YtpahgbnfgnmlaaaDoor
open Go Go.RowKit Go.Sort Go.Shelf

def int1 (l : List Int) : List Value := l.map (Value.int .i64)
theorem int1_len (l : List Int) : (int1 l).length = l.length := by simp [int1]
theorem int1_app (l r : List Int) : int1 (l ++ r) = int1 l ++ int1 r := by simp [int1]
theorem int1_one (x : Int) : int1 [x] = [.int .i64 x] := rfl
theorem int1_at {l : List Int} {j : Nat} {x : Int} (h : l[j]? = some x) : (int1 l)[j]? = some (.int .i64 x) := by simp [int1, h]
theorem int1_one_cell (l : List Int) : ∀ u ∈ int1 l, u.oneCell' = true := by
  intro u hu
  obtain ⟨x, _, rfl⟩ := List.mem_map.1 hu
  rfl
theorem infoI : (Tryd.prog.info? 3).map (fun i => (i.zero, i.size, i.bytes)) = some (some (.int .i64 0), 1, 8) := by kernel_rfl
theorem info_partsI : ∃ i, Tryd.prog.info? 3 = some i ∧ i.zero = some (.int .i64 0) ∧ i.size = 1 ∧ i.bytes = 8 := info_parts infoI

theorem IL.of_own {w : World} {base : Nat} {e : TypeId} {v : Value} {l : List Int} (h : w.ownsRow base e 1 v l.length (int1 l)) :
    ∃ A c, v = .slice A l.length c ∧ l.length ≤ c ∧ c ≤ maxLen ∧ IL w w.heap.size A l.length l ∧ (A = none ∨ ∃ g, A = some ⟨g, 0, none⟩ ∧ base ≤ g ∧ g < w.heap.size) := by
  have h0 := h
  rcases h.2 with ⟨rfl, hn⟩ | ⟨g, cap, cur, rfl, hb, hg, hc, hm, hs, ht⟩
  · have : l = [] := List.eq_nil_of_length_eq_zero hn
    subst this
    exact ⟨none, 0, rfl, Nat.le_refl _, Nat.zero_le _, ⟨rfl, fun h => absurd h (by omega)⟩, .inl rfl⟩
  · have hlt : g < w.heap.size := (Array.getElem?_eq_some_iff.1 hg).1
    refine ⟨_, cap, rfl, hc, hm, ⟨rfl, fun _ => ⟨g, 0, rfl, hlt, fun j x hx => ?_⟩⟩, .inr ⟨g, rfl, hb, hlt⟩⟩
    have hj : j < l.length := (List.getElem?_eq_some_iff.1 hx).1
    rw [Nat.zero_add]
    exact (h0.cellAt j (by omega)).trans (int1_at hx)

theorem cloneI_zero (a : Addr) (c : Nat) (w : World) :
    Calls Tryd.prog 58 #[.slice (some a) 0 c] w fun e w' => ∃ v', e = .returned v' ∧ w'.ownsRow w.heap.size 3 1 v' 0 [] ∧ Go.RowKit.Below w.heap.size w w' := by
  obtain ⟨i0, hi, hz0, hz1, hz2⟩ := info_partsI
  have q22 : ∀ (w : World) (a : Option Addr) (n c n' c' : Nat), (binOp .eql 33 (.slice a n c) (.slice none n' c')).run Tryd.prog w = .ok (.bool a.isNone) w := fun w a n c n' c' => Lib.run_eql_slice_nil w _ _ a n c n' c' Tryd.underlying33
  go_enter Tryd.func58, Tryd.ntmps58
  go_wp2_with (at_builtin; refine wpList_append_own _ rfl _ _ 33 rfl w.heap.size 3 i0 (.int .i64 0) 1 8 Tryd.underlying33 hi hz0 hz1 hz2 rfl (by decide) _ _ _ rfl (World.ownsRow_made w #[] 0 (Nat.le_refl _) (Nat.zero_le _) rfl) a 0 c [] rfl rfl (by intro j u hj; simp at hj) (by intro u hu; cases hu) (by unfold maxLen; omega) (by omega) (by simp) ?_)
  intro v' w1 hown hgrow hnil
  go_wp2
  go_ret
  exact ⟨v', rfl, by simpa using hown, ((Go.RowKit.Below.refl _ w).alloc (Nat.le_refl _) _).grown hgrow (by simp) (by intro k hk; simp [Value.ownBlock] at hk; omega)⟩
theorem cloneI_any (A : Option Addr) (n c : Nat) (l : List Int) (w : World) (h : IL w w.heap.size A n l) (hn : n ≤ 1000000) :
    Calls Tryd.prog 58 #[.slice A n c] w fun e w' => ∃ v', e = .returned v' ∧ w'.ownsRow w.heap.size 3 1 v' l.length (int1 l) ∧ Go.RowKit.Below w.heap.size w w' := by
  have hl := h.1
  subst hl
  rcases Nat.eq_zero_or_pos l.length with h0 | h0
  · have hnil : l = [] := List.eq_nil_of_length_eq_zero h0
    subst hnil
    cases A with
    | none =>
      refine (AnyE.slices_Clone_nil Tryd.layCloneI 0 c w).mono ?_
      rintro e w' ⟨he, hw⟩
      exact ⟨_, he, by rw [hw]; exact World.ownsRow_nil _ _ _ _, by rw [hw]; exact Go.RowKit.Below.refl _ _⟩
    | some a => exact cloneI_zero a c w
  · obtain ⟨b, off, rfl, hb, hc⟩ := h.2 h0
    obtain ⟨i0, hi, hz0, hz1, hz2⟩ := info_partsI
    have hcell : ∀ j u, (int1 l)[j]? = some u → w.cell? ⟨b, off + j, none⟩ = some u := by
      intro j u hu
      have hj : j < l.length := by rw [← int1_len]; exact (List.getElem?_eq_some_iff.1 hu).1
      have := int1_at (List.getElem?_eq_getElem hj)
      rw [hu] at this
      rw [this]
      exact hc j _ (List.getElem?_eq_getElem hj)
    refine (AnyE.slices_Clone Tryd.layCloneI i0 (.int .i64 0) 1 8 hi hz0 hz1 hz2 rfl (by decide) Tryd.sizeOf3 b off l.length c (int1 l) w (by rw [int1_len]; omega) (by unfold maxLen; omega) (by omega) hcell (int1_one_cell l)).mono ?_
    rintro e w' ⟨v', he, hown, _, hb'⟩
    exact ⟨v', he, hown, hb'⟩

def AscI (l : List Int) : Prop := l.Pairwise fun x y => x ≤ y
theorem holdsI_of_own {w : World} {base : Nat} {e : TypeId} {g n cap : Nat} {l : List Int} (hl : l.length = n) (h : w.ownsRow base e 1 (.slice (some ⟨g, 0, none⟩) n cap) n (int1 l)) : Holds (Value.int .i64) w g 0 l.toArray := by
  subst hl
  intro t ht
  have ht' : t < l.length := by simpa using ht
  refine ⟨?_, by rw [Nat.zero_add]; exact h.frozenAt t⟩
  rw [Nat.zero_add, h.cellAt t (by omega), int1_at (List.getElem?_eq_getElem ht')]
  simp [ht']
theorem IL.of_holds {w : World} {g B : Nat} {d : Array Int} (h : Holds (Value.int .i64) w g 0 d) (hg : g < B) : IL w B (some ⟨g, 0, none⟩) d.size d.toList := by
  refine ⟨by simp, fun _ => ⟨g, 0, rfl, hg, fun j x hx => ?_⟩⟩
  obtain ⟨hj, rfl⟩ := List.getElem?_eq_some_iff.1 hx
  have hj' : j < d.size := by simpa using hj
  have := (h j hj').1
  simpa [hj'] using this
theorem ltI (x y : Int) : Go.Proofs.ltOf Lib.compareInt x y = decide (x < y) := by
  unfold Go.Proofs.ltOf Lib.compareInt
  by_cases h1 : x < y
  · simp [h1]
  · by_cases h2 : y < x <;> simp [h1, h2]
theorem swoI : SWO (Go.Proofs.ltOf Lib.compareInt) where
  irrefl x := by rw [ltI]; simp
  trans x y z h1 h2 := by rw [ltI] at *; simp at *; omega
  ntrans x y z h1 h2 := by rw [ltI] at *; simp at *; omega
theorem compare_int (x y : Int) (W : World) : Calls Tryd.prog 41 #[.int .i64 x, .int .i64 y] W fun e w' => e = .returned (.int .i64 (Lib.compareInt x y)) ∧ w' = W := Any.cmp_Compare_int Tryd.layCompare x y W
theorem compare_lays (blk off size : Nat) (w : World) : CmpLays1 Tryd.prog 41 #[] (Value.int .i64) Lib.compareInt blk off size w :=
  fun _ _ _ _ x y => (compare_int x y _).mono fun _ _ ⟨he, hw⟩ => ⟨he, 0, #[], by rw [hw, grow_empty]; rfl⟩
end Go.Proofs.YtpahgbnfgnmlaaaDoor
