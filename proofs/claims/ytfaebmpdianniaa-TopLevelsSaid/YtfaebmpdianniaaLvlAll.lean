/-
  LvlAll: the texts Own, Merged, Mrg, Pure, Canon, Put, RCanon, Copy, Normal, Fits, RNormal, Raised, Concat, Both, Max, one behind another.
-/
import Derived.Test.YtfaebmpdianniaaBel
import Derived.Laws.OwnMore
import Derived.Shelf.GgSortFunc.RowK
import Derived.Shelf.GgSortFunc.InsertionK
import Derived.Shelf.SlSortFuncK.RowK2
import Derived.Test.YtfaebmpdianniaaShelf
import Derived.Deep.RegionWith
import Derived.RegionTactic
import Derived.Deep.DeepMust
import Derived.Test.YtfaebmpdianniaaLeq
import Derived.Deep.DeepCutAuto
import Derived.Deep.RegionHeld3
import Derived.Deep.RegionLaw
import Derived.Test.YtfaebmpdianniaaRVld
import Derived.Test.YtfaebmpdianniaaShelf2
import Derived.Shelf.Spec.SlicesGrow
import Derived.Laws.AppendOwnNone
/-
  Rows of pairs that a call has made itself: how they read, what a store and a sort make of them. Plain lemmas.
-/
namespace Go.Proofs.Ytfaebmpdianniaa
open Go Go.RowKit Go.Sort

/-- the two cells of a pair -/
def enc2 (x : Int × Int) : List Value := [.int .i64 x.1, .int .i64 x.2]
/-- the cells of a list of pairs -/
def flat2 (l : List (Int × Int)) : List Value := l.flatMap enc2
theorem flat2_len (l : List (Int × Int)) : (flat2 l).length = l.length * 2 := by
  induction l with
  | nil => rfl
  | cons x r ih => show (enc2 x ++ flat2 r).length = _; rw [List.length_append, ih]; simp [enc2]; omega
theorem flat2_app (l r : List (Int × Int)) : flat2 (l ++ r) = flat2 l ++ flat2 r := by simp [flat2]
theorem flat2_one (x : Int × Int) : flat2 [x] = [.int .i64 x.1, .int .i64 x.2] := by simp [flat2, enc2]
theorem flat2_at {l : List (Int × Int)} : ∀ {j : Nat} {x : Int × Int}, l[j]? = some x → (flat2 l)[j * 2]? = some (.int .i64 x.1) ∧ (flat2 l)[j * 2 + 1]? = some (.int .i64 x.2) := by
  induction l with
  | nil => intro j x h; simp at h
  | cons y r ih =>
    intro j x h
    have e : flat2 (y :: r) = .int .i64 y.1 :: .int .i64 y.2 :: flat2 r := rfl
    rw [e]
    cases j with
    | zero => simp at h; subst h; exact ⟨rfl, rfl⟩
    | succ j =>
      have h' : r[j]? = some x := by simpa using h
      obtain ⟨i1, i2⟩ := ih h'
      rw [show (j + 1) * 2 = j * 2 + 1 + 1 by omega]
      exact ⟨by simpa using i1, by simpa using i2⟩
theorem flat2_one_cell (l : List (Int × Int)) : ∀ u ∈ flat2 l, u.oneCell' = true := by
  intro u hu
  obtain ⟨x, _, hx⟩ := List.mem_flatMap.1 hu
  simp only [enc2, List.mem_cons, List.not_mem_nil, or_false] at hx
  rcases hx with rfl | rfl <;> rfl

section
variable {w : World} {base : Nat} {e : TypeId} {v : Value} {l : List (Int × Int)}
theorem PL.of_own (h : w.ownsRow base e 2 v l.length (flat2 l)) :
    ∃ A c, v = .slice A l.length c ∧ l.length ≤ c ∧ c ≤ maxLen ∧ PL w w.heap.size A l.length l ∧ (A = none ∨ ∃ g, A = some ⟨g, 0, none⟩ ∧ base ≤ g ∧ g < w.heap.size) := by
  have h0 := h
  rcases h.2 with ⟨rfl, hn⟩ | ⟨g, cap, cur, rfl, hb, hg, hc, hm, hs, ht⟩
  · have : l = [] := List.eq_nil_of_length_eq_zero hn
    subst this
    exact ⟨none, 0, rfl, Nat.le_refl _, Nat.zero_le _, PL.nil_ _, .inl rfl⟩
  · have hlt : g < w.heap.size := (Array.getElem?_eq_some_iff.1 hg).1
    refine ⟨_, cap, rfl, hc, hm, ⟨rfl, fun _ => ⟨g, 0, rfl, hlt, fun j x hx => ?_⟩⟩, .inr ⟨g, rfl, hb, hlt⟩⟩
    obtain ⟨f1, f2⟩ := flat2_at hx
    have hj : j < l.length := (List.getElem?_eq_some_iff.1 hx).1
    rw [Nat.zero_add]
    exact ⟨(h0.cellAt (j * 2) (by omega)).trans f1, (h0.cellAt (j * 2 + 1) (by omega)).trans f2⟩
theorem own_set2 {g n cap : Nat} {acc : List (Int × Int)} {y : Int × Int} {a b : Int} (hn : n = acc.length) (h : w.ownsRow base e 2 (.slice (some ⟨g, 0, none⟩) (n + 1) cap) (n + 1) (flat2 (acc ++ [y]))) :
    ((w.setCell ⟨g, n * 2, none⟩ (.int .i64 a)).setCell ⟨g, n * 2 + 1, none⟩ (.int .i64 b)).ownsRow base e 2 (.slice (some ⟨g, 0, none⟩) (n + 1) cap) (n + 1) (flat2 (acc ++ [(a, b)])) := by
  subst hn
  have h1 := (h.stored (acc.length * 2) (.int .i64 a)).1
  have h2 := (h1.stored (acc.length * 2 + 1) (.int .i64 b)).1
  have e1 : ((flat2 (acc ++ [y])).set (acc.length * 2) (.int .i64 a)).set (acc.length * 2 + 1) (.int .i64 b) = flat2 (acc ++ [(a, b)]) := by
    rw [flat2_app, flat2_app, flat2_one, flat2_one, ← flat2_len acc, List.set_append_right _ _ (by omega), Nat.sub_self, List.set_append_right _ _ (by omega)]
    simp
  rw [e1] at h2
  exact h2

theorem holds_of_own {g n cap : Nat} (hl : l.length = n) (h : w.ownsRow base e 2 (.slice (some ⟨g, 0, none⟩) n cap) n (flat2 l)) : HoldsK enc2 2 w g 0 l.toArray := by
  subst hl
  intro t ht
  have ht' : t < l.length * 2 := by simpa using ht
  refine ⟨?_, by rw [Nat.zero_add]; exact h.frozenAt t⟩
  rw [Nat.zero_add, h.cellAt t ht', get_flatK _ _ _ t (by simpa using ht')]
  have hd : t / 2 < l.length := by omega
  have hx : l[t / 2]? = some l[t / 2] := List.getElem?_eq_getElem hd
  obtain ⟨f1, f2⟩ := flat2_at hx
  have e0 : l.toArray[t / 2]! = l[t / 2] := by simp [hd]
  rw [e0]
  clear e0 hx
  generalize l[t / 2] = x at f1 f2 ⊢
  rcases Nat.mod_two_eq_zero_or_one t with h0 | h0
  · rw [show t / 2 * 2 = t by omega] at f1
    rw [h0, f1]; rfl
  · rw [show t / 2 * 2 + 1 = t by omega] at f2
    rw [h0, f2]; rfl
theorem PL.of_holds {g B : Nat} {d : Array (Int × Int)} (h : HoldsK enc2 2 w g 0 d) (hg : g < B) : PL w B (some ⟨g, 0, none⟩) d.size d.toList := by
  refine ⟨by simp, fun _ => ⟨g, 0, rfl, hg, fun j x hx => ?_⟩⟩
  obtain ⟨hj, rfl⟩ := List.getElem?_eq_some_iff.1 hx
  have hj' : j < d.size := by simpa using hj
  have h0 := (h.cell hj' (show 0 < 2 by omega)).1
  have h1 := (h.cell hj' (show 1 < 2 by omega)).1
  have e0 : d[j]! = d.toList[j] := by simp [hj']
  rw [e0] at h0 h1
  exact ⟨h0, h1⟩
end

theorem below_grow' {B : Nat} {a w : World} (h : Below B a w) (os : Array Obj) (hB : B ≤ w.heap.size) : Below B a (grow w os) :=
  h.trans ⟨rfl, rfl, rfl, by simp [grow], fun k hk => by
    show (w.heap ++ os)[k]? = w.heap[k]?
    rw [Array.getElem?_append_left (by omega)]⟩
theorem below_sort {α : Type} [Inhabited α] (enc : α → List Value) (k : Nat) (w : World) (blk off n B : Nat) (d : Array α) (os : Array Obj) (hB : B ≤ blk) (hw : B ≤ w.heap.size) : Below B w (Go.Proofs.sortWorldK enc k w blk off n d os) := by
  unfold Go.Proofs.sortWorldK
  refine below_grow' ?_ os (by rw [size_putRowK]; exact hw)
  refine ⟨rfl, rfl, rfl, by rw [size_putRowK]; exact Nat.le_refl _, fun j hj => ?_⟩
  show ((Sort.ahead w n).heap.modify blk _)[j]? = _
  rw [Array.getElem?_modify, if_neg (by omega)]
  rfl
end Go.Proofs.Ytfaebmpdianniaa

/-
  'merged' of package level at parts of levels, with 'byVar' and 'greater': the parts sorted, equal variables joined; in memory of its own.
-/
namespace Go.Proofs.Ytfaebmpdianniaa
open Go Go.RowKit Go.Sort Go.Shelf

theorem infoV : (Try.prog.info? 80).map (fun i => (i.zero, i.size, i.bytes)) = some (some (.agg #[.int .i64 0, .int .i64 0]), 2, 16) := by kernel_rfl

set_option maxHeartbeats 1000000 in
theorem byVar_any (x y : Int × Int) (W : World) : Calls Try.prog 91 #[.agg #[.int .i64 x.1, .int .i64 x.2], .agg #[.int .i64 y.1, .int .i64 y.2]] W fun e w' => e = .returned (.int .i64 (Lib.compareInt x.1 y.1)) ∧ ∃ q os', w' = grow (W.drewN q) os' := by
  have hcon := fun W' => Any.cmp_Compare_int Try.layCompare x.1 y.1 W'
  change ∀ W', Calls Try.prog 105 _ _ _ at hcon
  generalize Lib.compareInt x.1 y.1 = r at hcon ⊢
  go_enter Try.func91, Try.ntmps91
  go_wp2_with (go_at_call 105; refine (hcon _).mono ?_; rintro e w' ⟨rfl, rfl⟩)
  go_ret
  exact ⟨rfl, 0, _, by rw [alloc_eq_grow, alloc_eq_grow, grow_grow]; rfl⟩
theorem below_drewN' {B : Nat} {a w : World} (h : Below B a w) (n : Nat) : Below B a (w.drewN n) := below_drewN h n
theorem byVar_below (x y : Int × Int) (W : World) : Calls Try.prog 91 #[.agg #[.int .i64 x.1, .int .i64 x.2], .agg #[.int .i64 y.1, .int .i64 y.2]] W fun e w' => e = .returned (.int .i64 (Lib.compareInt x.1 y.1)) ∧ Below W.heap.size W w' :=
  (byVar_any x y W).mono fun _ _ ⟨he, q, os, hw⟩ => ⟨he, hw ▸ below_grow' (below_drewN' (Below.refl _ _) q) os (Nat.le_refl _)⟩
theorem byVar_lays (blk off size : Nat) (w : World) : CmpLays Try.prog 91 #[] enc2 2 (fun x y => Lib.compareInt x.1 y.1) blk off size w :=
  fun _ _ _ _ x y => byVar_any x y _

theorem ltV (x y : Int × Int) : Go.Proofs.ltOf (fun x y : Int × Int => Lib.compareInt x.1 y.1) x y = decide (x.1 < y.1) := by
  unfold Go.Proofs.ltOf Lib.compareInt
  by_cases h1 : x.1 < y.1
  · simp [h1]
  · by_cases h2 : y.1 < x.1 <;> simp [h1, h2]
theorem swoV : SWO (Go.Proofs.ltOf fun x y : Int × Int => Lib.compareInt x.1 y.1) where
  irrefl x := by rw [ltV]; simp
  trans x y z h1 h2 := by rw [ltV] at *; simp at *; omega
  ntrans x y z h1 h2 := by rw [ltV] at *; simp at *; omega

set_option maxHeartbeats 1000000 in
theorem greater_any (x y : Int × Int) (W : World) : Calls Try.prog 92 #[.agg #[.int .i64 x.1, .int .i64 x.2], .agg #[.int .i64 y.1, .int .i64 y.2]] W fun e w' => e = .returned (.agg #[.int .i64 x.1, .int .i64 (max x.2 y.2)]) ∧ Below W.heap.size W w' := by
  go_enter Try.func92, Try.ntmps92
  go_wp2
  exact bodyPost_ret (v := .agg #[.int .i64 x.1, .int .i64 (max x.2 y.2)]) (by simp [results, Try.results92, go_sem]) rfl ⟨rfl, (((Below.refl _ _).alloc (Nat.le_refl _) _).alloc (by simp) _).alloc (by simp; omega) _⟩

/-- one more part behind parts in order: joined with the last one if that has its variable -/
def mgStep (acc : List (Int × Int)) (x : Int × Int) : List (Int × Int) :=
  match acc.getLast? with
  | some y => if y.1 = x.1 then acc.dropLast ++ [(y.1, max y.2 x.2)] else acc ++ [x]
  | none => acc ++ [x]
def mg (l : List (Int × Int)) : List (Int × Int) := l.foldl mgStep []
theorem mg_snoc (l : List (Int × Int)) (x : Int × Int) : mg (l ++ [x]) = mgStep (mg l) x := by unfold mg; rw [List.foldl_append]; rfl
theorem mgStep_join {acc : List (Int × Int)} {x y : Int × Int} (h : y.1 = x.1) : mgStep (acc ++ [y]) x = acc ++ [(y.1, max y.2 x.2)] := by
  unfold mgStep; rw [List.getLast?_append]; simp [h]
theorem mgStep_push {acc : List (Int × Int)} {x y : Int × Int} (h : ¬ y.1 = x.1) : mgStep (acc ++ [y]) x = acc ++ [y] ++ [x] := by
  unfold mgStep; rw [List.getLast?_append]; simp [h]

/-- slices.Clone at parts: the same list in memory of its own; nil for nil. -/
theorem cloneV_zero (a : Addr) (c : Nat) (w : World) :
    Calls Try.prog 103 #[.slice (some a) 0 c] w fun e w' => ∃ v', e = .returned v' ∧ w'.ownsRow w.heap.size 80 2 v' 0 [] ∧ Below w.heap.size w w' := by
  obtain ⟨i0, hi, hz0, hz1, hz2⟩ := info_parts infoV
  have q22 : ∀ (w : World) (a : Option Addr) (n c n' c' : Nat), (binOp .eql 35 (.slice a n c) (.slice none n' c')).run Try.prog w = .ok (.bool a.isNone) w := fun w a n c n' c' => Lib.run_eql_slice_nil w _ _ a n c n' c' Try.underlying35
  go_enter Try.func103, Try.ntmps103
  go_wp2_with (at_builtin; refine wpList_append_own _ rfl _ _ 35 rfl w.heap.size 80 i0 (.agg #[.int .i64 0, .int .i64 0]) 2 16 Try.underlying35 hi hz0 hz1 hz2 rfl (by decide) _ _ _ rfl (World.ownsRow_made w #[] 0 (Nat.le_refl _) (Nat.zero_le _) rfl) a 0 c [] rfl rfl (by intro j u hj; simp at hj) (by intro u hu; cases hu) (by unfold maxLen; omega) (by omega) (by simp) ?_)
  intro v' w1 hown hgrow hnil
  go_wp2
  go_ret
  exact ⟨v', rfl, by simpa using hown, ((Below.refl _ w).alloc (Nat.le_refl _) _).grown hgrow (by simp) (by intro k hk; simp [Value.ownBlock] at hk; omega)⟩
theorem cloneV_any (A : Option Addr) (n c : Nat) (l : List (Int × Int)) (w : World) (h : PL w w.heap.size A n l) (hn : n ≤ 1000000) :
    Calls Try.prog 103 #[.slice A n c] w fun e w' => ∃ v', e = .returned v' ∧ w'.ownsRow w.heap.size 80 2 v' l.length (flat2 l) ∧ Below w.heap.size w w' := by
  have hl := h.1
  subst hl
  rcases Nat.eq_zero_or_pos l.length with h0 | h0
  · have hnil : l = [] := List.eq_nil_of_length_eq_zero h0
    subst hnil
    cases A with
    | none =>
      refine (AnyE.slices_Clone_nil Try.layCloneV 0 c w).mono ?_
      rintro e w' ⟨he, hw⟩
      exact ⟨_, he, by rw [hw]; exact World.ownsRow_nil _ _ _ _, by rw [hw]; exact Below.refl _ _⟩
    | some a => exact cloneV_zero a c w
  · obtain ⟨b, off, rfl, hb, hc⟩ := h.2 h0
    obtain ⟨i0, hi, hz0, hz1, hz2⟩ := info_parts infoV
    have hcell : ∀ j u, (flat2 l)[j]? = some u → w.cell? ⟨b, off + j, none⟩ = some u := by
      intro j u hu
      have hj : j < l.length * 2 := by rw [← flat2_len]; exact (List.getElem?_eq_some_iff.1 hu).1
      have hd : j / 2 < l.length := by omega
      obtain ⟨f1, f2⟩ := flat2_at (List.getElem?_eq_getElem hd)
      obtain ⟨c1, c2⟩ := hc (j / 2) _ (List.getElem?_eq_getElem hd)
      generalize l[j / 2] = x at f1 f2 c1 c2
      rcases Nat.mod_two_eq_zero_or_one j with h0 | h0
      · rw [show j / 2 * 2 = j by omega] at f1 c1
        rw [c1, ← f1, hu]
      · rw [show j / 2 * 2 + 1 = j by omega] at f2
        rw [Nat.add_assoc, show j / 2 * 2 + 1 = j by omega] at c2
        rw [c2, ← f2, hu]
    refine (AnyE.slices_Clone Try.layCloneV i0 (.agg #[.int .i64 0, .int .i64 0]) 2 16 hi hz0 hz1 hz2 rfl (by decide) Try.sizeOf80 b off l.length c (flat2 l) w (flat2_len l) (by unfold maxLen; omega) (by omega) hcell (flat2_one_cell l)).mono ?_
    rintro e w' ⟨v', he, hown, _, hb'⟩
    exact ⟨v', he, hown, hb'⟩
end Go.Proofs.Ytfaebmpdianniaa

/-
  The walk of 'merged' at parts of levels.
-/
namespace Go.Proofs.Ytfaebmpdianniaa
open Go Go.RowKit Go.Sort Go.Shelf


/-- sorted by the first number -/
def AscW (l : List (Int × Int)) : Prop := l.Pairwise fun x y => x.1 ≤ y.1

theorem sortV_any (g n cap : Nat) (l : List (Int × Int)) (w : World) (hl : l.length = n) (hn : n ≤ 1000000) (h : w.ownsRow g 80 2 (.slice (some ⟨g, 0, none⟩) n cap) n (flat2 l)) (hg : g < w.heap.size) (B : Nat) (hB : B ≤ g) :
    Calls Try.prog 104 #[.slice (some ⟨g, 0, none⟩) n cap, .func (.func 91) #[] #[]] w fun e w' => e = .returned (.tuple #[]) ∧ ∃ s : List (Int × Int), s.Perm l ∧ AscW s ∧ PL w' w'.heap.size (some ⟨g, 0, none⟩) n s ∧ Go.RowKit.Below B w w' := by
  have eg : ∀ args w, (callFunc 91 args).run Try.prog w = .ok (.enter 91 args) w := enters_of Try.func91 (by kernel_rfl) rfl
  subst hl
  have hH := holds_of_own rfl h
  have hcon := AnyQ.slices_SortFunc Try.laySortV 2 Try.isAgg80 Try.sizeOf80 enc2 (fun _ => rfl) (fun x v hv => by simp [enc2] at hv; rcases hv with rfl | rfl <;> rfl) (fun x y => Lib.compareInt x.1 y.1) swoV 91 #[] g 0 cap l.toArray w eg (byVar_lays g 0 _ w) hH hg (by simp; omega)
  refine hcon.mono ?_
  rintro e w' ⟨he, d, m, os, hp, hs, rfl⟩
  have hsz : d.size = l.length := by simpa using hp.1
  have hperm : d.toList.Perm l := by
    have e1 : (d.extract 0 l.toArray.size).toList = d.toList := by rw [show l.toArray.size = d.size by simp [hsz]]; simp
    have e2 : (l.toArray.extract 0 l.toArray.size).toList = l := by simp
    have := hp.2.2
    rw [e1, e2] at this
    exact this
  have hasc : AscW d.toList := by
    rw [AscW, List.pairwise_iff_getElem]
    intro i j hi hj hij
    have hi' : i < d.size := by simpa using hi
    have hj' : j < d.size := by simpa using hj
    have := hs i j (Nat.zero_le _) hij (by simpa [hsz] using hj')
    rw [ltV] at this
    simp only [getElem!_pos d i hi', getElem!_pos d j hj', decide_eq_false_iff_not] at this
    simp only [Array.getElem_toList]
    omega
  refine ⟨he, d.toList, hperm, hasc, ?_, below_sort enc2 2 w g 0 m B d os hB (by omega)⟩
  have := PL.of_holds (B := (Go.Proofs.sortWorldK enc2 2 w g 0 m d os).heap.size) (holdsK_sortWorldK enc2 2 w g 0 m l.toArray d os hg hH (by simp [hsz])) (lt_sortWorldK enc2 2 w g 0 m d os hg)
  rw [hsz] at this
  exact this

/-- what stands between 'merged's two calls and its loop: a sorted permutation in memory of its own, nil and empty let in -/
theorem sortV_all (v : Value) (l : List (Int × Int)) (w0 w : World) (hn : l.length ≤ 1000000) (h : w.ownsRow w0.heap.size 80 2 v l.length (flat2 l)) (hw : Go.RowKit.Below w0.heap.size w0 w) :
    ∃ A c, v = .slice A l.length c ∧ Calls Try.prog 104 #[v, .func (.func 91) #[] #[]] w fun e w' => e = .returned (.tuple #[]) ∧ ∃ s : List (Int × Int), s.Perm l ∧ AscW s ∧ PL w' w'.heap.size A l.length s ∧ Go.RowKit.Below w0.heap.size w0 w' := by
  obtain ⟨A, c, rfl, hlc, hcm, hP, hA⟩ := PL.of_own h
  refine ⟨A, c, rfl, ?_⟩
  rcases Nat.eq_zero_or_pos l.length with h0 | h0
  · have hnil : l = [] := List.eq_nil_of_length_eq_zero h0
    subst hnil
    refine (AnyF.slices_SortFunc_none Try.laySortV A c _ w).mono ?_
    rintro e w' ⟨he, rfl⟩
    exact ⟨he, [], .nil, .nil, PL.nil_ _, hw⟩
  · rcases hA with rfl | ⟨g, rfl, hbg, hlt⟩
    · obtain ⟨b, off, hx, _⟩ := hP.2 h0
      cases hx
    · have hown : w.ownsRow g 80 2 (.slice (some ⟨g, 0, none⟩) l.length c) l.length (flat2 l) := by
        refine ⟨h.1, ?_⟩
        rcases h.2 with ⟨h', _⟩ | ⟨g', cap, cur, h', hb', rest⟩
        · simp at h'
        · have : g = g' := by injection h' with h1; injection h1 with h1; injection h1
          subst this
          exact .inr ⟨g, cap, cur, h', Nat.le_refl _, rest⟩
      refine (sortV_any g l.length c l w rfl hn hown hlt w0.heap.size hbg).mono ?_
      rintro e w' ⟨he, s, hp, hs, hP', hb⟩
      exact ⟨he, s, hp, hs, hP', hw.trans hb⟩

theorem own_base {w : World} {base base' : Nat} {e : TypeId} {size n : Nat} {v : Value} {xs : List Value} (h : w.ownsRow base e size v n xs) (hb : base' ≤ base) : w.ownsRow base' e size v n xs := by
  refine ⟨h.1, ?_⟩
  rcases h.2 with h0 | ⟨g, cap, cur, hv, hg, rest⟩
  · exact .inl h0
  · exact .inr ⟨g, cap, cur, hv, by omega, rest⟩

/-- one round's post: the frame's slot holds an own row of one step more -/
theorem len_le_of_mg (l : List (Int × Int)) : (mg l).length ≤ l.length := by
  have : ∀ (l acc : List (Int × Int)), (l.foldl mgStep acc).length ≤ acc.length + l.length := by
    intro l
    induction l with
    | nil => intro acc; simp
    | cons x r ih =>
      intro acc
      have h1 : (mgStep acc x).length ≤ acc.length + 1 := by
        unfold mgStep
        split
        · split
          · simp only [List.length_append, List.length_dropLast, List.length_singleton]; omega
          · simp
        · simp
      have := ih (mgStep acc x)
      simp only [List.foldl_cons, List.length_cons]
      omega
  simpa [mg] using this l []

theorem own_cases {w : World} {base : Nat} {e : TypeId} {v : Value} {acc : List (Int × Int)} (h : w.ownsRow base e 2 v acc.length (flat2 acc)) :
    (acc = [] ∧ ∃ A c, v = .slice A 0 c ∧ w.ownsRow base e 2 (.slice A 0 c) 0 []) ∨
    ∃ acc' y g c q, acc = acc' ++ [y] ∧ q = acc'.length ∧ v = .slice (some ⟨g, 0, none⟩) (q + 1) c ∧ w.ownsRow base e 2 (.slice (some ⟨g, 0, none⟩) (q + 1) c) (q + 1) (flat2 (acc' ++ [y])) ∧ base ≤ g ∧ g < w.heap.size ∧ q + 1 ≤ c ∧ c ≤ 9223372036854775807 ∧
      w.cell? ⟨g, q * 2, none⟩ = some (.int .i64 y.1) ∧ w.cell? ⟨g, q * 2 + 1, none⟩ = some (.int .i64 y.2) ∧ w.frozen? ⟨g, q * 2, none⟩ = false ∧ w.frozen? ⟨g, q * 2 + 1, none⟩ = false := by
  obtain ⟨A, c, rfl, hlc, hcm, hP, hA⟩ := PL.of_own h
  rcases List.eq_nil_or_concat acc with rfl | ⟨acc', y, rfl⟩
  · exact .inl ⟨rfl, A, c, rfl, h⟩
  · rw [List.concat_eq_append] at *
    refine .inr ?_
    have hlen : (acc' ++ [y]).length = acc'.length + 1 := by simp
    have hx : (acc' ++ [y])[acc'.length]? = some y := by simp
    obtain ⟨b, off, z, hAb, hb, hz, h0, h1⟩ := hP.at_ (show acc'.length < (acc' ++ [y]).length by omega)
    rw [hlen] at h hlc ⊢
    rcases hA with rfl | ⟨g, rfl, hbg, hlt⟩
    · cases hAb
    · obtain ⟨rfl, rfl⟩ : g = b ∧ off = 0 := by injection hAb with h2; injection h2 with h3 h4; exact ⟨h3, h4.symm⟩
      obtain rfl : y = z := Option.some.inj (hx.symm.trans hz)
      rw [Nat.zero_add] at h0 h1
      exact ⟨acc', y, g, c, acc'.length, rfl, rfl, rfl, h, hbg, hlt, hlc, by unfold maxLen at hcm; omega, h0, h1, h.frozenAt _, h.frozenAt _⟩

theorem own_below_l {w w' : World} {base : Nat} {e : TypeId} {size n : Nat} {v : Value} {xs : List Value} (h : w.ownsRow base e size v n xs) (hb : Go.RowKit.Below w.heap.size w w') : w'.ownsRow base e size v n xs := by
  refine ⟨h.1, ?_⟩
  rcases h.2 with h0 | ⟨g, cap, cur, hv, hg, hh, rest⟩
  · exact .inl h0
  · exact .inr ⟨g, cap, cur, hv, hg, (hb.block g (Array.getElem?_eq_some_iff.1 hh).1).trans hh, rest⟩
theorem news2 {w : World} {x : Int × Int} {t : TypeId} : ∀ j u, [Value.int .i64 x.1, Value.int .i64 x.2][j]? = some u → (w.alloc (.cells #[.int .i64 x.1, .int .i64 x.2] t)).cell? ((⟨w.heap.size, 0, none⟩ : Addr).add j) = some u := by
  intro j u hj
  match j, hj with
  | 0, hj => simp at hj; subst hj; simp [Addr.add]
  | 1, hj => simp at hj; subst hj; simp [Addr.add]
  | j + 2, hj => simp at hj
theorem news2_one {x : Int × Int} : ∀ u ∈ [Value.int .i64 x.1, Value.int .i64 x.2], u.oneCell' = true := by
  intro u hu
  simp only [List.mem_cons, List.not_mem_nil, or_false] at hu
  rcases hu with rfl | rfl <;> rfl

set_option maxRecDepth 100000 in
set_option maxHeartbeats 4000000 in
theorem merged_any (A : Option Addr) (n c : Nat) (l : List (Int × Int)) (w : World) (h : PL w w.heap.size A n l) (hn : n ≤ 1000000) :
    Calls Try.prog 90 #[.slice A n c, .func (.func 91) #[] #[], .func (.func 92) #[] #[]] w fun e w' =>
      ∃ (s : List (Int × Int)) (v : Value), s.Perm l ∧ AscW s ∧ e = .returned v ∧ w'.ownsRow w.heap.size 80 2 v (mg s).length (flat2 (mg s)) ∧ Go.RowKit.Below w.heap.size w w' := by
  obtain ⟨i0, hi, hz0, hz1, hz2⟩ := info_parts infoV
  go_enter Try.func90, Try.ntmps90
  go_wp2_with fail
  refine (cloneV_any A n c l w h hn).mono ?_
  rintro e w1 ⟨v, rfl, hown, hb1⟩
  obtain ⟨A1, c1, rfl, hsort⟩ := sortV_all v l w w1 (by have := h.1; omega) hown hb1
  rw [h.1] at hsort ⊢
  go_wp2_with fail
  refine hsort.mono ?_
  rintro e w2 ⟨rfl, s, hp, hs, hP, hb2⟩
  clear hsort hown
  go_wp2_with fail
  go_loopw [8, 19] (fun v i wr => ∃ k : Nat, k ≤ n ∧ i = .int .i64 k ∧ wr.ownsRow w2.heap.size 80 2 v (mg (s.take k)).length (flat2 (mg (s.take k))) ∧ Go.RowKit.Below w2.heap.size w2 wr) (fun _ i _ => n - (intOf i).toNat)
  case atStart => exact ⟨0, Nat.zero_le _, rfl, World.ownsRow_nil _ _ _ _, Go.RowKit.Below.refl _ _⟩
  case round =>
    obtain ⟨k, hk, rfl, hown, hbr⟩ := hrel
    by_cases hlt : k < n
    · obtain ⟨b, off, x, rfl, hbl, hx, hx0, hx1⟩ := (hP.below hbr).at_ hlt
      have hstep : Hid (mg (s.take (k + 1)) = mgStep (mg (s.take k)) x) := by rw [Hid, take_snoc hx, mg_snoc]
      have hmk : (mg (s.take k)).length ≤ k := by
        have := len_le_of_mg (s.take k)
        rw [List.length_take] at this; omega
      generalize mg (s.take k) = acc at hown hstep hmk
      have hbx : Go.RowKit.Below (wr.heap.size + 1) (wr.alloc (.cells #[.int .i64 x.1, .int .i64 x.2] 80)) (wr.alloc (.cells #[.int .i64 x.1, .int .i64 x.2] 80)) := Go.RowKit.Below.refl _ _
      rcases own_cases hown with ⟨rfl, A3, c3, rfl, hown3⟩ | ⟨acc', y, g, c3, q, rfl, hq, rfl, hown3, hbg, hgl, hqc, hc3, hy0, hy1, hf0, hf1⟩
      · clear hown
        go_wp2_with fail
        refine wp_region_bel (wr.heap.size + 1) _ (by kernel_rfl) (by kernel_rfl) hbx ?_
        repeat (go_big_quiet_step (fail))
        refine wpQuiet_nil ?_
        rintro _ ⟨pq, rfl⟩
        have hb4 := pq.h
        generalize pq.v = w4 at hb4 ⊢
        have hx4 : w4.cell? ⟨wr.heap.size, 0, none⟩ = some (.int .i64 x.1) := (hb4.cell (p := ⟨wr.heap.size, 0, none⟩) (Nat.lt_succ_self _)).trans (by simp)
        have hx5 : w4.cell? ⟨wr.heap.size, 1, none⟩ = some (.int .i64 x.2) := (hb4.cell (p := ⟨wr.heap.size, 1, none⟩) (Nat.lt_succ_self _)).trans (by simp)
        have hown4 : w4.ownsRow w2.heap.size 80 2 (.slice A3 0 c3) 0 [] := own_below_l (hown3.alloc (.cells #[.int .i64 x.1, .int .i64 x.2] 80)) (hb4.mono (by simp))
        have hsz5 : wr.heap.size < w4.heap.size := by have := hb4.size; simp at this; omega
        have hsz4 : w2.heap.size ≤ w4.heap.size := by have := hbr.size; omega
        have hb24 : Go.RowKit.Below w2.heap.size w2 w4 := (hbr.alloc hbr.size _).trans (hb4.mono (by have := hbr.size; omega))
        go_wp2_with (at_builtin; refine wpList_append_own _ rfl _ _ 35 rfl w2.heap.size 80 i0 (.agg #[.int .i64 0, .int .i64 0]) 2 16 Try.underlying35 hi hz0 hz1 hz2 rfl (by decide) (.slice A3 0 c3) 0 [] rfl (hown4.alloc _) ⟨w4.heap.size, 0, none⟩ 1 1 [.int .i64 x.1, .int .i64 x.2] rfl rfl news2 news2_one (by unfold maxLen; omega) (by omega) (by simp; omega) ?_)
        intro v' w5 hown5 hgrow _
        go_wp2_with fail
        go_roundw
        case rel => exact ⟨k + 1, by omega, by go_num, by rw [hstep.out]; exact hown5, (hb24.alloc hsz4 _).grown hgrow (by simp; omega) fun j hj => (hown4.lt j hj).1⟩
        case measure => simp [intOf]; omega
      · have hq1 : q + 1 ≤ 1000000 := by
          have : (acc' ++ [y]).length = q + 1 := by simp [hq]
          omega
        have Hq := Lib.hid hq; clear hq hown hmk
        have hne : g ≠ wr.heap.size := by omega
        have r1 : ∀ p : Bel (wr.heap.size + 1) (wr.alloc (.cells #[.int .i64 x.1, .int .i64 x.2] 80)), p.v.cell? ⟨g, q * 2, none⟩ = some (.int .i64 y.1) := Bel.cell (show g < _ by omega) ((World.cell?_alloc_lt wr _ ⟨g, q * 2, none⟩ hgl).trans hy0)
        have r2 : ∀ p : Bel (wr.heap.size + 1) (wr.alloc (.cells #[.int .i64 x.1, .int .i64 x.2] 80)), p.v.cell? ⟨g, q * 2 + 1, none⟩ = some (.int .i64 y.2) := Bel.cell (show g < _ by omega) ((World.cell?_alloc_lt wr _ ⟨g, q * 2 + 1, none⟩ hgl).trans hy1)
        have r3 : ∀ p : Bel (wr.heap.size + 1) (wr.alloc (.cells #[.int .i64 x.1, .int .i64 x.2] 80)), p.v.cell? ⟨wr.heap.size, 0, none⟩ = some (.int .i64 x.1) := Bel.cell (Nat.lt_succ_self _) (by simp)
        have r4 : ∀ p : Bel (wr.heap.size + 1) (wr.alloc (.cells #[.int .i64 x.1, .int .i64 x.2] 80)), p.v.cell? ⟨wr.heap.size, 1, none⟩ = some (.int .i64 x.2) := Bel.cell (Nat.lt_succ_self _) (by simp)
        have hcmp := fun p : Bel (wr.heap.size + 1) (wr.alloc (.cells #[.int .i64 x.1, .int .i64 x.2] 80)) => byVar_below y x p.v
        by_cases he : y.1 = x.1
        · have hce : (Lib.compareInt y.1 x.1 == 0) = true := by simp [Lib.compareInt, he]
          generalize Lib.compareInt y.1 x.1 = ce at hce hcmp
          have Hcmp := Lib.hid hcmp; clear hcmp
          have Hst : Hid (mg (s.take (k + 1)) = acc' ++ [(y.1, max y.2 x.2)]) := by rw [Hid, hstep.out, mgStep_join he]
          clear he
          go_wp2_with fail
          refine wp_region_bel (wr.heap.size + 1) _ (by kernel_rfl) (by kernel_rfl) hbx ?_
          repeat (go_big_quiet_step ((go_at_call 91; exact Calls.bel_of (by simp) (Hcmp.out _))))
          refine wpQuiet_nil ?_
          rintro _ ⟨pq, rfl⟩
          have hb4 := pq.h
          clear r1 r2 r3 r4
          generalize pq.v = w4 at hb4 ⊢
          have hb24 : Go.RowKit.Below w2.heap.size w2 w4 := (hbr.alloc hbr.size _).trans (hb4.mono (by have := hbr.size; omega))
          have hown4 : w4.ownsRow w2.heap.size 80 2 (.slice (some ⟨g, 0, none⟩) (q + 1) c3) (q + 1) (flat2 (acc' ++ [y])) := own_below_l (hown3.alloc (.cells #[.int .i64 x.1, .int .i64 x.2] 80)) (hb4.mono (by simp))
          have z0 : w4.cell? ⟨g, q * 2, none⟩ = some (.int .i64 y.1) := (hb4.cell (p := ⟨g, q * 2, none⟩) (show g < _ by omega)).trans ((World.cell?_alloc_lt wr _ ⟨g, q * 2, none⟩ hgl).trans hy0)
          have z1 : w4.cell? ⟨g, q * 2 + 1, none⟩ = some (.int .i64 y.2) := (hb4.cell (p := ⟨g, q * 2 + 1, none⟩) (show g < _ by omega)).trans ((World.cell?_alloc_lt wr _ ⟨g, q * 2 + 1, none⟩ hgl).trans hy1)
          have z2 : w4.cell? ⟨wr.heap.size, 0, none⟩ = some (.int .i64 x.1) := (hb4.cell (p := ⟨wr.heap.size, 0, none⟩) (Nat.lt_succ_self _)).trans (by simp)
          have z3 : w4.cell? ⟨wr.heap.size, 1, none⟩ = some (.int .i64 x.2) := (hb4.cell (p := ⟨wr.heap.size, 1, none⟩) (Nat.lt_succ_self _)).trans (by simp)
          have hg4 : g < w4.heap.size := by have := hb4.size; simp at this; omega
          clear hx0 hx1 hy0 hy1 hf0 hf1
          go_wp2_with fail
          go_region_with ((go_at_call 92; refine (greater_any y x _).mono ?_; rintro e w5 ⟨rfl, hb5⟩; have y0 := (hb5.cell (p := ⟨g, q * 2, none⟩) (by simpa using hg4)); have y1 := (hb5.cell (p := ⟨g, q * 2 + 1, none⟩) (by simpa using hg4)); simp only [World.cell?_drew, z0, z1] at y0 y1; have y2 : w5.frozen? ⟨g, q * 2, none⟩ = false := (own_below_l hown4 (Go.RowKit.Below.trans (Go.RowKit.Below.drew (Go.RowKit.Below.refl _ w4)) hb5)).frozenAt _; have y3 : w5.frozen? ⟨g, q * 2 + 1, none⟩ = false := (own_below_l hown4 (Go.RowKit.Below.trans (Go.RowKit.Below.drew (Go.RowKit.Below.refl _ w4)) hb5)).frozenAt _))
          all_goals
            have hb25 : Go.RowKit.Below w2.heap.size w2 w5 := hb24.trans ((Go.RowKit.Below.drew (Go.RowKit.Below.refl _ w4)).trans (hb5.mono (by have := hb24.size; simpa using this)))
            have hown5 := own_set2 (a := y.1) (b := max y.2 x.2) Hq.out (own_below_l hown4 (Go.RowKit.Below.trans (Go.RowKit.Below.drew (Go.RowKit.Below.refl _ w4)) hb5))
            clear y0 y1 y2 y3
            go_wp2_with fail
            go_roundw
            case rel =>
              refine ⟨k + 1, by omega, by go_num, ?_, (hb25.setCell hbg _).setCell hbg _⟩
              rw [Hst.out, show (acc' ++ [(y.1, max y.2 x.2)]).length = q + 1 by rw [Hq.out]; simp]
              exact hown5
            case measure => simp [intOf]; omega
        · have hce : (Lib.compareInt y.1 x.1 == 0) = false := by
            simp only [Lib.compareInt]
            split
            · rfl
            · split
              · rfl
              · omega
          generalize Lib.compareInt y.1 x.1 = ce at hce hcmp
          have Hcmp := Lib.hid hcmp; clear hcmp
          have Hst : Hid (mg (s.take (k + 1)) = acc' ++ [y] ++ [x]) := by rw [Hid, hstep.out, mgStep_push he]
          clear he
          go_wp2_with fail
          refine wp_region_bel (wr.heap.size + 1) _ (by kernel_rfl) (by kernel_rfl) hbx ?_
          repeat (go_big_quiet_step ((go_at_call 91; exact Calls.bel_of (by simp) (Hcmp.out _))))
          refine wpQuiet_nil ?_
          rintro _ ⟨pq, rfl⟩
          have hb4 := pq.h
          clear r1 r2 r3 r4
          generalize pq.v = w4 at hb4 ⊢
          have hb24 : Go.RowKit.Below w2.heap.size w2 w4 := (hbr.alloc hbr.size _).trans (hb4.mono (by have := hbr.size; omega))
          have hown4 : w4.ownsRow w2.heap.size 80 2 (.slice (some ⟨g, 0, none⟩) (q + 1) c3) (q + 1) (flat2 (acc' ++ [y])) := own_below_l (hown3.alloc (.cells #[.int .i64 x.1, .int .i64 x.2] 80)) (hb4.mono (by simp))
          have z2 : w4.cell? ⟨wr.heap.size, 0, none⟩ = some (.int .i64 x.1) := (hb4.cell (p := ⟨wr.heap.size, 0, none⟩) (Nat.lt_succ_self _)).trans (by simp)
          have z3 : w4.cell? ⟨wr.heap.size, 1, none⟩ = some (.int .i64 x.2) := (hb4.cell (p := ⟨wr.heap.size, 1, none⟩) (Nat.lt_succ_self _)).trans (by simp)
          have hsz5 : wr.heap.size < w4.heap.size := by have := hb4.size; simp at this; omega
          have hsz4 : w2.heap.size ≤ w4.heap.size := hb24.size
          clear hx0 hx1 hy0 hy1 hf0 hf1
          go_wp2_with (at_builtin; refine wpList_append_own _ rfl _ _ 35 rfl w2.heap.size 80 i0 (.agg #[.int .i64 0, .int .i64 0]) 2 16 Try.underlying35 hi hz0 hz1 hz2 rfl (by decide) (.slice (some ⟨g, 0, none⟩) (q + 1) c3) (q + 1) (flat2 (acc' ++ [y])) rfl (hown4.alloc _) ⟨w4.heap.size, 0, none⟩ 1 1 [.int .i64 x.1, .int .i64 x.2] rfl rfl news2 news2_one (by unfold maxLen; omega) (by omega) (by simp; omega) ?_)
          intro v' w5 hown5 hgrow _
          go_wp2_with fail
          go_roundw
          case rel =>
            refine ⟨k + 1, by omega, by go_num, ?_, (hb24.alloc hsz4 _).grown hgrow (by simp; omega) fun j hj => (hown4.lt j hj).1⟩
            rw [Hst.out, show (acc' ++ [y] ++ [x]).length = q + 1 + 1 by rw [Hq.out]; simp, flat2_app _ [x], flat2_one]
            exact hown5
          case measure => simp [intOf]; omega
    · have hfull : s.take k = s := List.take_of_length_le (by have := hP.1; omega)
      rw [hfull] at hown
      clear hfull
      have hb : Go.RowKit.Below w.heap.size w wr := hb2.trans (hbr.mono hb2.size)
      go_wp2_with fail
      go_ret
      exact ⟨s, _, hp, hs, rfl, own_base hown hb2.size, hb⟩
end Go.Proofs.Ytfaebmpdianniaa

/-
  Canonical lists of parts: what both packages compute is one and the same list. Plain lemmas.
-/
namespace Go.Proofs.Ytfaebmpdianniaa
open Go Go.RowKit

/-- r is the canonical list of the parts l -/
structure Canon (l r : List (Int × Int)) : Prop where
  asc : r.Pairwise fun x y => x.1 < y.1
  top : ∀ x ∈ r, x ∈ l ∧ ∀ y ∈ l, y.1 = x.1 → y.2 ≤ x.2
  all : ∀ y ∈ l, ∃ x ∈ r, x.1 = y.1

theorem Canon.mem {l r r' : List (Int × Int)} (h : Canon l r) (h' : Canon l r') {x : Int × Int} (hx : x ∈ r) : x ∈ r' := by
  obtain ⟨hl, hm⟩ := h.top x hx
  obtain ⟨z, hz, e⟩ := h'.all x hl
  obtain ⟨hl', hm'⟩ := h'.top z hz
  have h1 := hm z hl' e
  have h2 := hm' x hl e.symm
  have : x = z := by
    cases x; cases z; simp only at e h1 h2 ⊢
    rw [e, Int.le_antisymm h2 h1]
  rw [this]; exact hz
theorem asc_eq {r r' : List (Int × Int)} (h : r.Pairwise fun x y => x.1 < y.1) (h' : r'.Pairwise fun x y => x.1 < y.1) (hm : ∀ x, x ∈ r ↔ x ∈ r') : r = r' := by
  induction r generalizing r' with
  | nil =>
    cases r' with
    | nil => rfl
    | cons y t => exact absurd ((hm y).2 (by simp)) (by simp)
  | cons x s ih =>
    cases r' with
    | nil => exact absurd ((hm x).1 (by simp)) (by simp)
    | cons y t =>
      obtain ⟨hx, hs⟩ := List.pairwise_cons.1 h
      obtain ⟨hy, ht⟩ := List.pairwise_cons.1 h'
      have e : x = y := by
        rcases List.mem_cons.1 ((hm x).1 (by simp)) with e | e
        · exact e
        · rcases List.mem_cons.1 ((hm y).2 (by simp)) with e' | e'
          · exact e'.symm
          · have := hx y e'
            have := hy x e
            omega
      subst e
      congr 1
      refine ih hs ht fun z => ⟨fun hz => ?_, fun hz => ?_⟩
      · rcases List.mem_cons.1 ((hm z).1 (List.mem_cons_of_mem _ hz)) with e | e
        · subst e; have := hx z hz; omega
        · exact e
      · rcases List.mem_cons.1 ((hm z).2 (List.mem_cons_of_mem _ hz)) with e | e
        · subst e; have := hy z hz; omega
        · exact e
theorem Canon.unique {l r r' : List (Int × Int)} (h : Canon l r) (h' : Canon l r') : r = r' :=
  asc_eq h.asc h'.asc fun _ => ⟨h.mem h', h'.mem h⟩
theorem Canon.perm {l l' r : List (Int × Int)} (h : Canon l r) (hp : l.Perm l') : Canon l' r where
  asc := h.asc
  top x hx := ⟨hp.mem_iff.1 (h.top x hx).1, fun y hy => (h.top x hx).2 y (hp.mem_iff.2 hy)⟩
  all y hy := h.all y (hp.mem_iff.2 hy)
theorem Canon.nil : Canon [] [] := ⟨.nil, by simp, by simp⟩

theorem Canon.step {pre acc : List (Int × Int)} {x : Int × Int} (h : Canon pre acc) (hx : ∀ y ∈ pre, y.1 ≤ x.1) : Canon (pre ++ [x]) (mgStep acc x) := by
  rcases List.eq_nil_or_concat acc with rfl | ⟨a, y, rfl⟩
  · have hp : pre = [] := by
      cases pre with
      | nil => rfl
      | cons z t => obtain ⟨_, hz, _⟩ := h.all z (by simp); cases hz
    subst hp
    exact ⟨by simp [mgStep], by simp [mgStep], by simp [mgStep]⟩
  · rw [List.concat_eq_append] at h ⊢
    have hasc := h.asc
    rw [List.pairwise_append] at hasc
    obtain ⟨ha, _, hay⟩ := hasc
    have hay' : ∀ z ∈ a, z.1 < y.1 := fun z hz => hay z hz y (by simp)
    obtain ⟨hyl, hyt⟩ := h.top y (by simp)
    have hyx := hx y hyl
    by_cases e : y.1 = x.1
    · rw [mgStep_join e]
      refine ⟨?_, ?_, ?_⟩
      · rw [List.pairwise_append]
        exact ⟨ha, by simp, fun z hz t ht => by rw [List.mem_singleton.1 ht]; exact hay' z hz⟩
      · intro z hz
        rcases List.mem_append.1 hz with hz | hz
        · obtain ⟨h1, h2⟩ := h.top z (by simp [hz])
          refine ⟨by simp [h1], fun t ht he => ?_⟩
          rcases List.mem_append.1 ht with ht | ht
          · exact h2 t ht he
          · rw [List.mem_singleton.1 ht] at he
            have := hay' z hz; omega
        · rw [List.mem_singleton.1 hz]
          refine ⟨?_, fun t ht he => ?_⟩
          · by_cases hle : y.2 ≤ x.2
            · rw [Int.max_eq_right hle, e]; simp
            · rw [Int.max_eq_left (by omega)]; exact List.mem_append_left _ hyl
          · simp only at he ⊢
            rcases List.mem_append.1 ht with ht | ht
            · have := hyt t ht he; omega
            · rw [List.mem_singleton.1 ht]; omega
      · intro t ht
        rcases List.mem_append.1 ht with ht | ht
        · obtain ⟨z, hz, hzt⟩ := h.all t ht
          rcases List.mem_append.1 hz with hz | hz
          · exact ⟨z, by simp [hz], hzt⟩
          · rw [List.mem_singleton.1 hz] at hzt
            exact ⟨(y.1, max y.2 x.2), by simp, hzt⟩
        · rw [List.mem_singleton.1 ht]
          exact ⟨(y.1, max y.2 x.2), by simp, e⟩
    · rw [mgStep_push e]
      have hlt : y.1 < x.1 := by omega
      refine ⟨?_, ?_, ?_⟩
      · rw [List.pairwise_append]
        refine ⟨h.asc, by simp, fun z hz t ht => ?_⟩
        rw [List.mem_singleton.1 ht]
        rcases List.mem_append.1 hz with hz | hz
        · have := hay' z hz; omega
        · rw [List.mem_singleton.1 hz]; exact hlt
      · intro z hz
        rcases List.mem_append.1 hz with hz | hz
        · obtain ⟨h1, h2⟩ := h.top z hz
          refine ⟨by simp [h1], fun t ht he => ?_⟩
          rcases List.mem_append.1 ht with ht | ht
          · exact h2 t ht he
          · rw [List.mem_singleton.1 ht] at he
            rcases List.mem_append.1 hz with hz | hz
            · have := hay' z hz; omega
            · rw [List.mem_singleton.1 hz] at he; omega
        · rw [List.mem_singleton.1 hz]
          refine ⟨by simp, fun t ht he => ?_⟩
          rcases List.mem_append.1 ht with ht | ht
          · obtain ⟨z, hz, hzt⟩ := h.all t ht
            rcases List.mem_append.1 hz with hz | hz
            · have := hay' z hz; omega
            · rw [List.mem_singleton.1 hz] at hzt; omega
          · rw [List.mem_singleton.1 ht]; omega
      · intro t ht
        rcases List.mem_append.1 ht with ht | ht
        · obtain ⟨z, hz, hzt⟩ := h.all t ht
          exact ⟨z, List.mem_append_left _ hz, hzt⟩
        · rw [List.mem_singleton.1 ht]
          exact ⟨x, by simp, rfl⟩
theorem Canon.fold {s : List (Int × Int)} : ∀ {pre acc : List (Int × Int)}, Canon pre acc → (∀ y ∈ pre, ∀ x ∈ s, y.1 ≤ x.1) → (s.Pairwise fun x y => x.1 ≤ y.1) → Canon (pre ++ s) (s.foldl mgStep acc) := by
  induction s with
  | nil => intro pre acc h _ _; simpa using h
  | cons x r ih =>
    intro pre acc h hx hs
    obtain ⟨h1, h2⟩ := List.pairwise_cons.1 hs
    have := ih (h.step fun y hy => hx y hy x (by simp)) (fun y hy z hz => by
      rcases List.mem_append.1 hy with hy | hy
      · exact hx y hy z (by simp [hz])
      · rw [List.mem_singleton.1 hy]; exact h1 z hz) h2
    rw [List.append_assoc] at this
    exact this
/-- what 'merged' makes of any order of the parts is canonical -/
theorem Canon.mg {s l : List (Int × Int)} (hp : s.Perm l) (hs : s.Pairwise fun x y => x.1 ≤ y.1) : Canon l (mg s) :=
  ((Canon.fold Canon.nil (by simp) hs).perm (by simpa using hp))

/-- the canonical list, by the reference's insertion -/
def putP : List (Int × Int) → Int × Int → List (Int × Int)
  | [], x => [x]
  | y :: r, x => if x.1 < y.1 then x :: y :: r else if x.1 = y.1 then (y.1, max x.2 y.2) :: r else y :: putP r x
def canonV (l : List (Int × Int)) : List (Int × Int) := l.foldl putP []
theorem canonV_snoc (l : List (Int × Int)) (x : Int × Int) : canonV (l ++ [x]) = putP (canonV l) x := by unfold canonV; rw [List.foldl_append]; rfl
theorem putP_mem {r : List (Int × Int)} {x z : Int × Int} (ha : r.Pairwise fun x y => x.1 < y.1) (h : z ∈ putP r x) :
    (z ∈ r ∧ z.1 ≠ x.1) ∨ (z = x ∧ ∀ y ∈ r, y.1 ≠ x.1) ∨ (∃ y ∈ r, y.1 = x.1 ∧ z = (y.1, max x.2 y.2)) := by
  induction r with
  | nil => simp [putP] at h; subst h; exact .inr (.inl ⟨rfl, by simp⟩)
  | cons y r ih =>
    obtain ⟨h1, h2⟩ := List.pairwise_cons.1 ha
    unfold putP at h
    split at h
    · rename_i hlt
      have hall : ∀ t ∈ y :: r, t.1 ≠ x.1 := fun t ht => by
        rcases List.mem_cons.1 ht with rfl | ht
        · omega
        · have := h1 t ht; omega
      rcases List.mem_cons.1 h with rfl | h
      · exact .inr (.inl ⟨rfl, hall⟩)
      · exact .inl ⟨h, hall z h⟩
    · split at h
      · rename_i e
        rcases List.mem_cons.1 h with rfl | h
        · exact .inr (.inr ⟨y, by simp, e.symm, rfl⟩)
        · exact .inl ⟨List.mem_cons_of_mem _ h, by have := h1 z h; omega⟩
      · rename_i hne
        rcases List.mem_cons.1 h with rfl | h
        · exact .inl ⟨by simp, fun e => hne e.symm⟩
        · rcases ih h2 h with ⟨h3, h4⟩ | ⟨h3, h4⟩ | ⟨t, ht, h3, h4⟩
          · exact .inl ⟨List.mem_cons_of_mem _ h3, h4⟩
          · refine .inr (.inl ⟨h3, fun t ht => ?_⟩)
            rcases List.mem_cons.1 ht with rfl | ht
            · exact fun e => hne e.symm
            · exact h4 t ht
          · exact .inr (.inr ⟨t, List.mem_cons_of_mem _ ht, h3, h4⟩)
theorem putP_all {r : List (Int × Int)} {x y : Int × Int} (h : y ∈ r ∨ y = x) : ∃ z ∈ putP r x, z.1 = y.1 := by
  induction r with
  | nil =>
    rcases h with h | rfl
    · cases h
    · exact ⟨y, by simp [putP], rfl⟩
  | cons t r ih =>
    unfold putP
    split
    · rcases h with h | rfl
      · exact ⟨y, List.mem_cons_of_mem _ h, rfl⟩
      · exact ⟨y, by simp, rfl⟩
    · split
      · rename_i e
        rcases h with h | rfl
        · rcases List.mem_cons.1 h with rfl | h
          · exact ⟨(y.1, max x.2 y.2), by simp, rfl⟩
          · exact ⟨y, List.mem_cons_of_mem _ h, rfl⟩
        · exact ⟨(t.1, max y.2 t.2), by simp, e.symm⟩
      · rcases h with h | rfl
        · rcases List.mem_cons.1 h with rfl | h
          · exact ⟨y, by simp, rfl⟩
          · obtain ⟨z, hz, e⟩ := ih (.inl h)
            exact ⟨z, List.mem_cons_of_mem _ hz, e⟩
        · obtain ⟨z, hz, e⟩ := ih (.inr rfl)
          exact ⟨z, List.mem_cons_of_mem _ hz, e⟩
theorem putP_asc {r : List (Int × Int)} {x : Int × Int} (ha : r.Pairwise fun x y => x.1 < y.1) : (putP r x).Pairwise fun x y => x.1 < y.1 := by
  induction r with
  | nil => simp [putP]
  | cons y r ih =>
    obtain ⟨h1, h2⟩ := List.pairwise_cons.1 ha
    unfold putP
    split
    · refine List.pairwise_cons.2 ⟨fun z hz => ?_, ha⟩
      rcases List.mem_cons.1 hz with rfl | hz
      · assumption
      · have := h1 z hz; omega
    · split
      · exact List.pairwise_cons.2 ⟨fun z hz => h1 z hz, h2⟩
      · refine List.pairwise_cons.2 ⟨fun z hz => ?_, ih h2⟩
        rcases putP_mem h2 hz with ⟨h3, _⟩ | ⟨h3, _⟩ | ⟨t, ht, _, h4⟩
        · exact h1 z h3
        · subst h3; omega
        · rw [h4]; exact h1 t ht
theorem Canon.put {l r : List (Int × Int)} {x : Int × Int} (h : Canon l r) : Canon (l ++ [x]) (putP r x) where
  asc := putP_asc h.asc
  top z hz := by
    rcases putP_mem h.asc hz with ⟨h3, h4⟩ | ⟨h3, h4⟩ | ⟨t, ht, h3, h4⟩
    · obtain ⟨h5, h6⟩ := h.top z h3
      refine ⟨by simp [h5], fun y hy he => ?_⟩
      rcases List.mem_append.1 hy with hy | hy
      · exact h6 y hy he
      · rw [List.mem_singleton.1 hy] at he; exact absurd he.symm h4
    · subst h3
      refine ⟨by simp, fun y hy he => ?_⟩
      rcases List.mem_append.1 hy with hy | hy
      · obtain ⟨t, ht, hty⟩ := h.all y hy
        exact absurd (hty.trans he) (h4 t ht)
      · rw [List.mem_singleton.1 hy]; exact Int.le_refl _
    · subst h4
      obtain ⟨h5, h6⟩ := h.top t ht
      refine ⟨?_, fun y hy he => ?_⟩
      · by_cases hle : t.2 ≤ x.2
        · rw [Int.max_eq_left hle, h3]; simp
        · rw [Int.max_eq_right (by omega)]; exact List.mem_append_left _ h5
      · simp only at he ⊢
        rcases List.mem_append.1 hy with hy | hy
        · have := h6 y hy he; omega
        · rw [List.mem_singleton.1 hy]; omega
  all y hy := by
    rcases List.mem_append.1 hy with hy | hy
    · obtain ⟨t, ht, hty⟩ := h.all y hy
      obtain ⟨z, hz, e⟩ := putP_all (x := x) (.inl ht)
      exact ⟨z, hz, e.trans hty⟩
    · rw [List.mem_singleton.1 hy]
      exact putP_all (.inr rfl)
theorem canonV_canon (l : List (Int × Int)) : Canon l (canonV l) := by
  have : ∀ (s pre acc : List (Int × Int)), Canon pre acc → Canon (pre ++ s) (s.foldl putP acc) := by
    intro s
    induction s with
    | nil => intro pre acc h; simpa using h
    | cons x r ih =>
      intro pre acc h
      have := ih _ _ (h.put (x := x))
      rw [List.append_assoc] at this
      exact this
  have h := this l [] [] Canon.nil
  rw [List.nil_append] at h
  exact h
/-- BOTH PACKAGES' LISTS ARE ONE -/
theorem mg_eq {s l : List (Int × Int)} (hp : s.Perm l) (hs : s.Pairwise fun x y => x.1 ≤ y.1) : mg s = canonV l := (Canon.mg hp hs).unique (canonV_canon l)
theorem canonV_len (l : List (Int × Int)) : (canonV l).length ≤ l.length := by
  have h1 : ∀ (r : List (Int × Int)) x, (putP r x).length ≤ r.length + 1 := by
    intro r x
    induction r with
    | nil => simp [putP]
    | cons y r ih =>
      unfold putP
      split
      · simp
      · split
        · simp
        · simp only [List.length_cons]; omega
  have : ∀ (s acc : List (Int × Int)), (s.foldl putP acc).length ≤ acc.length + s.length := by
    intro s
    induction s with
    | nil => intro acc; simp
    | cons x r ih =>
      intro acc
      have := ih (putP acc x)
      have := h1 acc x
      simp only [List.foldl_cons, List.length_cons]
      omega
  have h := this l []
  rw [List.length_nil, Nat.zero_add] at h
  exact h
end Go.Proofs.Ytfaebmpdianniaa

/-
  'canonical' and 'Normal' of package level: what they return for every level.
-/
namespace Go.Proofs.Ytfaebmpdianniaa
open Go Go.RowKit

/-- the constant, the parts and the error of a canonical form; kept within the limits -/
noncomputable def cErr (c : Int) (l : List (Int × Int)) : Int := if (canonV l).length ≤ 8 ∧ max (if c ≤ gplus (canonV l) then 0 else c) (gplus (canonV l)) ≤ 1000 then 0 else 2
noncomputable def cConst (c : Int) (l : List (Int × Int)) : Int := if cErr c l = 0 then (if c ≤ gplus (canonV l) then 0 else c) else 0
noncomputable def cVars (c : Int) (l : List (Int × Int)) : List (Int × Int) := if cErr c l = 0 then canonV l else []

/-- a level's two fields as they are returned: with its list, in memory of whatever make -/
def LvRes (B : Nat) (w' : World) (v : Value) (c : Int) (l : List (Int × Int)) : Prop :=
  ∃ A m cap, v = .agg #[.int .i64 c, .slice A m cap] ∧ PL w' w'.heap.size A m l ∧ m ≤ cap ∧ cap ≤ 9223372036854775807 ∧ ∀ b off, A = some ⟨b, off, none⟩ → B ≤ b

theorem merged_pl (A : Option Addr) (n c : Nat) (l : List (Int × Int)) (w : World) (h : PL w w.heap.size A n l) (hn : n ≤ 1000000) :
    Calls Try.prog 90 #[.slice A n c, .func (.func 91) #[] #[], .func (.func 92) #[] #[]] w fun e w' =>
      ∃ A' m c', e = .returned (.slice A' m c') ∧ PL w' w'.heap.size A' m (canonV l) ∧ m ≤ c' ∧ c' ≤ 9223372036854775807 ∧ Below w.heap.size w w' ∧ ∀ b off, A' = some ⟨b, off, none⟩ → w.heap.size ≤ b ∧ b < w'.heap.size := by
  refine (merged_any A n c l w h hn).mono ?_
  rintro e w' ⟨s, v, hp, hs, rfl, hown, hb⟩
  obtain ⟨A', c', rfl, h1, h2, h3, h4⟩ := PL.of_own hown
  rw [mg_eq hp hs] at h1 h3 ⊢
  unfold maxLen at h2
  refine ⟨A', _, c', rfl, h3, h1, by omega, hb, fun b off e => ?_⟩
  rcases h4 with rfl | ⟨g, rfl, hg, hg'⟩
  · cases e
  · injection e with e; injection e with e; subst e; exact ⟨hg, hg'⟩

theorem cell_alloc {w : World} {a : Addr} {v : Value} (o : Obj) (h : w.cell? a = some v) : (w.alloc o).cell? a = some v := (World.cell?_alloc_lt w o a (World.block_lt_of_cell? w a h)).trans h
theorem keep_set_l {w : World} {b j S i : Nat} {u v : Value} (hne : S ≠ b) (h : w.cell? ⟨S, i, none⟩ = some v) : (w.setCell ⟨b, j, none⟩ u).cell? ⟨S, i, none⟩ = some v :=
  (World.cell?_setCell_other w ⟨b, j, none⟩ ⟨S, i, none⟩ u (fun e => hne (by injection e with h1; exact h1.symm))).trans h
theorem PL.set2 {w : World} {B B' n q j j' : Nat} {A : Option Addr} {l : List (Int × Int)} (h : PL w B A n l) (u u' : Value) (hne : ∀ b off, A = some ⟨b, off, none⟩ → b ≠ q) (hB : B ≤ B') : PL ((w.setCell ⟨q, j, none⟩ u).setCell ⟨q, j', none⟩ u') B' A n l :=
  ⟨h.1, fun hn => by
    obtain ⟨b, off, e, hb, hc⟩ := h.2 hn
    have hq := hne b off e
    exact ⟨b, off, e, by omega, fun i x hx => ⟨keep_set_l hq (keep_set_l hq (hc i x hx).1), keep_set_l hq (keep_set_l hq (hc i x hx).2)⟩⟩⟩
theorem keep_off_l {w : World} {b i j : Nat} {u v : Value} (hne : j ≠ i) (h : w.cell? ⟨b, i, none⟩ = some v) : (w.setCell ⟨b, j, none⟩ u).cell? ⟨b, i, none⟩ = some v :=
  (World.cell?_setCell_other w ⟨b, j, none⟩ ⟨b, i, none⟩ u (fun e => hne (by injection e))).trans h
theorem PL.set1 {w : World} {B n q j : Nat} {A : Option Addr} {l : List (Int × Int)} (h : PL w B A n l) (u : Value) (hne : ∀ b off, A = some ⟨b, off, none⟩ → b ≠ q) : PL (w.setCell ⟨q, j, none⟩ u) B A n l :=
  ⟨h.1, fun hn => by
    obtain ⟨b, off, e, hb, hc⟩ := h.2 hn
    have hq := hne b off e
    exact ⟨b, off, e, hb, fun i x hx => ⟨keep_set_l hq (hc i x hx).1, keep_set_l hq (hc i x hx).2⟩⟩⟩
theorem frozen_new (W : World) (cs : Array Value) (t : TypeId) (i : Nat) : (W.alloc (.cells cs t)).drew.frozen? ⟨W.heap.size, i, none⟩ = false := by
  have h : (W.alloc (.cells cs t)).heap[W.heap.size]? = some (.cells cs t (0, 0)) := heap_alloc_new W _
  show (W.alloc (.cells cs t)).frozen? ⟨W.heap.size, i, none⟩ = false
  unfold World.frozen?
  rw [h]
  simp
theorem frozen_new' (W : World) (cs : Array Value) (t : TypeId) (i : Nat) : (W.alloc (.cells cs t)).frozen? ⟨W.heap.size, i, none⟩ = false := frozen_new W cs t i
theorem last2 {W w5 : World} {c0 c1 : Value} {t : TypeId} (hb : Below (W.alloc (.cells #[c0, c1] t)).drew.heap.size (W.alloc (.cells #[c0, c1] t)).drew w5) :
    (w5.cell? ⟨W.heap.size, 0, none⟩ = some c0 ∧ w5.cell? ⟨W.heap.size, 1, none⟩ = some c1) ∧ w5.frozen? ⟨W.heap.size, 0, none⟩ = false ∧ w5.frozen? ⟨W.heap.size, 1, none⟩ = false :=
  ⟨⟨(hb.cell (p := ⟨W.heap.size, 0, none⟩) (by simp)).trans (by simp), (hb.cell (p := ⟨W.heap.size, 1, none⟩) (by simp)).trans (by simp)⟩,
    (hb.frozen (p := ⟨W.heap.size, 0, none⟩) (by simp)).trans (frozen_new _ _ _ _), (hb.frozen (p := ⟨W.heap.size, 1, none⟩) (by simp)).trans (frozen_new _ _ _ _)⟩

set_option maxRecDepth 100000 in
set_option maxHeartbeats 4000000 in
theorem canonical_any (c : Int) (A : Option Addr) (n cap : Nat) (l : List (Int × Int)) (w : World) (h : PL w w.heap.size A n l) (hn : n ≤ 1000000) :
    Calls Try.prog 72 #[.agg #[.int .i64 c, .slice A n cap]] w fun e w' => ∃ v, e = .returned (.tuple #[v, .int .i64 (cErr c l)]) ∧ LvRes w.heap.size w' v (cConst c l) (cVars c l) ∧ Below w.heap.size w w' := by
  have hb0 := (box2 (w := w) (x0 := .int .i64 c) (x1 := .slice A n cap) (y0 := .int .i64 0) (y1 := .slice none 0 0) (t := 37) (Below.refl _ _)).2.2
  have hsa : ∀ (w : World) (o : Obj), (w.alloc o).heap.size = w.heap.size + 1 := fun w o => by simp
  go_enter Try.func72, Try.ntmps72
  go_upto_region 1 with fail
  go_cut [4] (fun s4 wx => ∃ (g : Nat) (A' : Option Addr) (m c' : Nat), s4 = .pointer (some ⟨g, 0, none⟩) ∧ w.heap.size + 2 ≤ g ∧ wx.cell? ⟨g, 0, none⟩ = some (.int .i64 c) ∧ wx.cell? ⟨g, 1, none⟩ = some (.slice A' m c') ∧ wx.frozen? ⟨g, 0, none⟩ = false ∧ PL wx wx.heap.size A' m (canonV l) ∧ m ≤ c' ∧ c' ≤ 9223372036854775807 ∧ Below (w.heap.size + 2) ((w.alloc (.cells #[.int .i64 c, .slice A n cap] 37)).alloc (.cells #[.int .i64 0, .slice none 0 0] 37)) wx ∧ ∀ b off, A' = some ⟨b, off, none⟩ → b ≠ g ∧ w.heap.size + 2 ≤ b)
  case first =>
    have e1 : ((w.alloc (.cells #[.int .i64 c, .slice A n cap] 37)).alloc (.cells #[.int .i64 0, .slice none 0 0] 37)).cell? ⟨w.heap.size, 0, none⟩ = some (.int .i64 c) := by simp
    have e2 : ((w.alloc (.cells #[.int .i64 c, .slice A n cap] 37)).alloc (.cells #[.int .i64 0, .slice none 0 0] 37)).cell? ⟨w.heap.size, 1, none⟩ = some (.slice A n cap) := by simp
    go_region_held3 (fun w' => w'.cell? ⟨w.heap.size, 0, none⟩ = some (.int .i64 c) ∧ w'.cell? ⟨w.heap.size, 1, none⟩ = some (.slice A n cap)) (first | exact ⟨f1, f2⟩ | exact ⟨cell_alloc _ f1, cell_alloc _ f2⟩ | exact ⟨e1, e2⟩ | exact ⟨cell_alloc _ e1, cell_alloc _ e2⟩ | exact ⟨keep_set_l (by omega) (keep_set_l (by omega) f1), keep_set_l (by omega) (keep_set_l (by omega) f2)⟩) (first | (go_at_call 90; refine (merged_pl A n cap l _ (h.lift (by first | exact hb0.drew | exact hb0.drew.alloc (by simp; omega) _ | exact (hb0.alloc (by simp; omega) _).drew)) hn).mono ?_; rintro e w5 ⟨A', m, c', rfl, h1, h2, h3, hb5, h6⟩; obtain ⟨⟨q0, q1⟩, q2, q3⟩ := last2 hb5; simp only [hsa] at q0 q1 q2 q3; have hbb : Below (w.heap.size + 2) ((w.alloc (.cells #[.int .i64 c, .slice A n cap] 37)).alloc (.cells #[.int .i64 0, .slice none 0 0] 37)) w5 := Go.RowKit.Below.trans (by first | exact (Below.refl _ _).drew | exact ((Below.refl _ _).alloc (by simp) _).drew) (hb5.mono (by simp)); obtain ⟨⟨f1, f2, f3, f4⟩, _, _⟩ := box2 hbb))
    · go_wp2_with fail
      go_meet
      refine ⟨w5.heap.size, A', m, c', rfl, (by simpa using hbb.size), by simp, by simp, frozen_new' _ _ _ _, ?_, h2, h3, hbb.alloc (by simpa using hbb.size) _, fun b off e => by have := h6 b off e; simp at this; omega⟩
      exact (h1.keep fun p hp => World.cell?_alloc_lt w5 _ p hp).more (by simp)
    · go_wp2_with fail
      go_meet
      have hS : w.heap.size + 2 < w5.heap.size := by have := hb5.size; simp at this; omega
      refine ⟨w.heap.size + 1 + 1, A', m, c', rfl, Nat.le_refl _, ?_, ?_, ?_, h1.set2 _ _ (fun b off e => by have := h6 b off e; simp at this; omega) (by simp), h2, h3, (hbb.setCell (Nat.le_refl _) _).setCell (Nat.le_refl _) _, fun b off e => by have := h6 b off e; simp at this; omega⟩
      · exact keep_off_l (by decide) (World.cell?_setCell_same _ _ _ q0)
      · exact World.cell?_setCell_same _ _ _ (keep_off_l (by decide) q1)
      · rw [World.frozen?_setCell, World.frozen?_setCell]; exact q2
  case rest =>
    obtain ⟨g, A', m, c', rfl, hg, k0, k1, k2, hP, hm, hc, hbx, hap⟩ := hcut
    obtain ⟨⟨_, _, b3, b4⟩, hsz, hbw⟩ := box2 hbx
    have b5 : wc.frozen? ⟨w.heap.size + 1, 0, none⟩ = false := (hbx.frozen (p := ⟨w.heap.size + 1, 0, none⟩) (by simp)).trans (by simp)
    have b6 : wc.frozen? ⟨w.heap.size + 1, 1, none⟩ = false := (hbx.frozen (p := ⟨w.heap.size + 1, 1, none⟩) (by simp)).trans (by simp)
    have hgl : g < wc.heap.size := World.block_lt_of_cell? wc _ k0
    have hne : g ≠ w.heap.size + 1 := by omega
    have hne' : w.heap.size + 1 ≠ g := by omega
    have hlen := Lib.hid hP.1
    go_wp2_with fail
    refine (greatestPlus_any A' m c' (canonV l) wc hP (by omega)).mono ?_
    rintro e w6 ⟨rfl, hb6⟩
    have k0 := (hb6.cell (p := ⟨g, 0, none⟩) hgl).trans k0
    have k1 := (hb6.cell (p := ⟨g, 1, none⟩) hgl).trans k1
    have k2 := (hb6.frozen (p := ⟨g, 0, none⟩) hgl).trans k2
    have b3 := (hb6.cell (p := ⟨w.heap.size + 1, 0, none⟩) (show w.heap.size + 1 < wc.heap.size by omega)).trans b3
    have b4 := (hb6.cell (p := ⟨w.heap.size + 1, 1, none⟩) (show w.heap.size + 1 < wc.heap.size by omega)).trans b4
    have b5 := (hb6.frozen (p := ⟨w.heap.size + 1, 0, none⟩) (show w.heap.size + 1 < wc.heap.size by omega)).trans b5
    have b6 := (hb6.frozen (p := ⟨w.heap.size + 1, 1, none⟩) (show w.heap.size + 1 < wc.heap.size by omega)).trans b6
    have hP6 : PL w6 w6.heap.size A' m (canonV l) := hP.lift hb6
    have hbw6 : Below w.heap.size w w6 := hbw.trans (hb6.mono hbw.size)
    clear hb6 hbx hP hsa
    by_cases h8 : 8 < (m : Int)
    · have Hr : Hid (cErr c l = 2) := by rw [Hid, cErr, hlen.out, if_neg (by omega)]
      have Hcc : Hid (cConst c l = 0) := by rw [Hid, cConst, Hr.out]; rfl
      have Hcv : Hid (cVars c l = []) := by rw [Hid, cVars, Hr.out]; rfl
      generalize gplus (canonV l) = t
      by_cases hct : c ≤ t
      · skip
        have hX0 : (w6.setCell ⟨g, 0, none⟩ (.int .i64 0)).cell? ⟨w.heap.size + 1, 0, none⟩ = some (.int .i64 0) := keep_set_l hne' b3
        have hX1 : (w6.setCell ⟨g, 0, none⟩ (.int .i64 0)).cell? ⟨w.heap.size + 1, 1, none⟩ = some (.slice none 0 0) := keep_set_l hne' b4
        have e0 := World.cell?_setCell_same (w6.setCell ⟨g, 0, none⟩ (.int .i64 0)) ⟨w.heap.size + 1, 0, none⟩ (.int .i64 0) hX0
        have e1 := World.cell?_setCell_same ((w6.setCell ⟨g, 0, none⟩ (.int .i64 0)).setCell ⟨w.heap.size + 1, 0, none⟩ (.int .i64 0)) ⟨w.heap.size + 1, 1, none⟩ (.slice none 0 0) (keep_off_l (by decide) hX1)
        go_wp2_with fail
        refine bodyPost_ret (v := .tuple #[.agg #[(.int .i64 0), (.slice none 0 0)], .int .i64 2]) (by simp [results, Try.results72, go_sem, e0, e1]) rfl ?_
        refine ⟨.agg #[.int .i64 0, .slice none 0 0], by rw [Hr.out], ⟨none, 0, 0, by rw [Hcc.out], by rw [Hcv.out]; exact PL.nil_ _, Nat.le_refl _, by omega, fun _ _ e => by cases e⟩, ((hbw6.setCell (by show w.heap.size ≤ g; omega) _).setCell (by show w.heap.size ≤ w.heap.size + 1; omega) _).setCell (by show w.heap.size ≤ w.heap.size + 1; omega) _⟩
      · skip
        have hX0 : (w6).cell? ⟨w.heap.size + 1, 0, none⟩ = some (.int .i64 0) := b3
        have hX1 : (w6).cell? ⟨w.heap.size + 1, 1, none⟩ = some (.slice none 0 0) := b4
        have e0 := World.cell?_setCell_same (w6) ⟨w.heap.size + 1, 0, none⟩ (.int .i64 0) hX0
        have e1 := World.cell?_setCell_same ((w6).setCell ⟨w.heap.size + 1, 0, none⟩ (.int .i64 0)) ⟨w.heap.size + 1, 1, none⟩ (.slice none 0 0) (keep_off_l (by decide) hX1)
        go_wp2_with fail
        refine bodyPost_ret (v := .tuple #[.agg #[(.int .i64 0), (.slice none 0 0)], .int .i64 2]) (by simp [results, Try.results72, go_sem, e0, e1]) rfl ?_
        refine ⟨.agg #[.int .i64 0, .slice none 0 0], by rw [Hr.out], ⟨none, 0, 0, by rw [Hcc.out], by rw [Hcv.out]; exact PL.nil_ _, Nat.le_refl _, by omega, fun _ _ e => by cases e⟩, (hbw6.setCell (by show w.heap.size ≤ w.heap.size + 1; omega) _).setCell (by show w.heap.size ≤ w.heap.size + 1; omega) _⟩
    · by_cases hct : c ≤ gplus (canonV l)
      · by_cases hmx : max 0 (gplus (canonV l)) ≤ 1000
        · have Hr : Hid (cErr c l = 0) := by rw [Hid, cErr, hlen.out, if_pos hct, if_pos ⟨by omega, hmx⟩]
          have Hcc : Hid (cConst c l = 0) := by rw [Hid, cConst, if_pos Hr.out, if_pos hct]
          have Hcv : Hid (cVars c l = canonV l) := by rw [Hid, cVars, if_pos Hr.out]
          generalize gplus (canonV l) = t at hct hmx ⊢
          have hX0 : (w6.setCell ⟨g, 0, none⟩ (.int .i64 0)).cell? ⟨w.heap.size + 1, 0, none⟩ = some (.int .i64 0) := keep_set_l hne' b3
          have hX1 : (w6.setCell ⟨g, 0, none⟩ (.int .i64 0)).cell? ⟨w.heap.size + 1, 1, none⟩ = some (.slice none 0 0) := keep_set_l hne' b4
          have e0 := World.cell?_setCell_same (w6.setCell ⟨g, 0, none⟩ (.int .i64 0)) ⟨w.heap.size + 1, 0, none⟩ (.int .i64 0) hX0
          have e1 := World.cell?_setCell_same ((w6.setCell ⟨g, 0, none⟩ (.int .i64 0)).setCell ⟨w.heap.size + 1, 0, none⟩ (.int .i64 0)) ⟨w.heap.size + 1, 1, none⟩ (.slice A' m c') (keep_off_l (by decide) hX1)
          go_wp2_with fail
          refine bodyPost_ret (v := .tuple #[.agg #[(.int .i64 0), (.slice A' m c')], .int .i64 0]) (by simp [results, Try.results72, go_sem, e0, e1]) rfl ?_
          refine ⟨.agg #[.int .i64 0, .slice A' m c'], by rw [Hr.out], ⟨A', m, c', by rw [Hcc.out], by rw [Hcv.out]; exact ((hP6.set1 _ fun b off e => (hap b off e).1).set2 _ _ (fun b off e => by have := (hap b off e).2; omega) (by simp)), hm, hc, fun b off e => by have := (hap b off e).2; omega⟩, ((hbw6.setCell (by show w.heap.size ≤ g; omega) _).setCell (by show w.heap.size ≤ w.heap.size + 1; omega) _).setCell (by show w.heap.size ≤ w.heap.size + 1; omega) _⟩
        · have Hr : Hid (cErr c l = 2) := by rw [Hid, cErr, hlen.out, if_pos hct, if_neg (fun h => hmx h.2)]
          have Hcc : Hid (cConst c l = 0) := by rw [Hid, cConst, Hr.out]; rfl
          have Hcv : Hid (cVars c l = []) := by rw [Hid, cVars, Hr.out]; rfl
          generalize gplus (canonV l) = t at hct hmx ⊢
          have hmx' : 1000 < max 0 t := by omega
          have hX0 : (w6.setCell ⟨g, 0, none⟩ (.int .i64 0)).cell? ⟨w.heap.size + 1, 0, none⟩ = some (.int .i64 0) := keep_set_l hne' b3
          have hX1 : (w6.setCell ⟨g, 0, none⟩ (.int .i64 0)).cell? ⟨w.heap.size + 1, 1, none⟩ = some (.slice none 0 0) := keep_set_l hne' b4
          have e0 := World.cell?_setCell_same (w6.setCell ⟨g, 0, none⟩ (.int .i64 0)) ⟨w.heap.size + 1, 0, none⟩ (.int .i64 0) hX0
          have e1 := World.cell?_setCell_same ((w6.setCell ⟨g, 0, none⟩ (.int .i64 0)).setCell ⟨w.heap.size + 1, 0, none⟩ (.int .i64 0)) ⟨w.heap.size + 1, 1, none⟩ (.slice none 0 0) (keep_off_l (by decide) hX1)
          go_wp2_with fail
          refine bodyPost_ret (v := .tuple #[.agg #[(.int .i64 0), (.slice none 0 0)], .int .i64 2]) (by simp [results, Try.results72, go_sem, e0, e1]) rfl ?_
          refine ⟨.agg #[.int .i64 0, .slice none 0 0], by rw [Hr.out], ⟨none, 0, 0, by rw [Hcc.out], by rw [Hcv.out]; exact PL.nil_ _, Nat.le_refl _, by omega, fun _ _ e => by cases e⟩, ((hbw6.setCell (by show w.heap.size ≤ g; omega) _).setCell (by show w.heap.size ≤ w.heap.size + 1; omega) _).setCell (by show w.heap.size ≤ w.heap.size + 1; omega) _⟩
      · by_cases hmx : max c (gplus (canonV l)) ≤ 1000
        · have Hr : Hid (cErr c l = 0) := by rw [Hid, cErr, hlen.out, if_neg hct, if_pos ⟨by omega, hmx⟩]
          have Hcc : Hid (cConst c l = c) := by rw [Hid, cConst, if_pos Hr.out, if_neg hct]
          have Hcv : Hid (cVars c l = canonV l) := by rw [Hid, cVars, if_pos Hr.out]
          generalize gplus (canonV l) = t at hct hmx ⊢
          have hX0 : (w6).cell? ⟨w.heap.size + 1, 0, none⟩ = some (.int .i64 0) := b3
          have hX1 : (w6).cell? ⟨w.heap.size + 1, 1, none⟩ = some (.slice none 0 0) := b4
          have e0 := World.cell?_setCell_same (w6) ⟨w.heap.size + 1, 0, none⟩ (.int .i64 c) hX0
          have e1 := World.cell?_setCell_same ((w6).setCell ⟨w.heap.size + 1, 0, none⟩ (.int .i64 c)) ⟨w.heap.size + 1, 1, none⟩ (.slice A' m c') (keep_off_l (by decide) hX1)
          go_wp2_with fail
          refine bodyPost_ret (v := .tuple #[.agg #[(.int .i64 c), (.slice A' m c')], .int .i64 0]) (by simp [results, Try.results72, go_sem, e0, e1]) rfl ?_
          refine ⟨.agg #[.int .i64 c, .slice A' m c'], by rw [Hr.out], ⟨A', m, c', by rw [Hcc.out], by rw [Hcv.out]; exact (hP6.set2 _ _ (fun b off e => by have := (hap b off e).2; omega) (by simp)), hm, hc, fun b off e => by have := (hap b off e).2; omega⟩, (hbw6.setCell (by show w.heap.size ≤ w.heap.size + 1; omega) _).setCell (by show w.heap.size ≤ w.heap.size + 1; omega) _⟩
        · have Hr : Hid (cErr c l = 2) := by rw [Hid, cErr, hlen.out, if_neg hct, if_neg (fun h => hmx h.2)]
          have Hcc : Hid (cConst c l = 0) := by rw [Hid, cConst, Hr.out]; rfl
          have Hcv : Hid (cVars c l = []) := by rw [Hid, cVars, Hr.out]; rfl
          generalize gplus (canonV l) = t at hct hmx ⊢
          have hmx' : 1000 < max c t := by omega
          have hX0 : (w6).cell? ⟨w.heap.size + 1, 0, none⟩ = some (.int .i64 0) := b3
          have hX1 : (w6).cell? ⟨w.heap.size + 1, 1, none⟩ = some (.slice none 0 0) := b4
          have e0 := World.cell?_setCell_same (w6) ⟨w.heap.size + 1, 0, none⟩ (.int .i64 0) hX0
          have e1 := World.cell?_setCell_same ((w6).setCell ⟨w.heap.size + 1, 0, none⟩ (.int .i64 0)) ⟨w.heap.size + 1, 1, none⟩ (.slice none 0 0) (keep_off_l (by decide) hX1)
          go_wp2_with fail
          refine bodyPost_ret (v := .tuple #[.agg #[(.int .i64 0), (.slice none 0 0)], .int .i64 2]) (by simp [results, Try.results72, go_sem, e0, e1]) rfl ?_
          refine ⟨.agg #[.int .i64 0, .slice none 0 0], by rw [Hr.out], ⟨none, 0, 0, by rw [Hcc.out], by rw [Hcv.out]; exact PL.nil_ _, Nat.le_refl _, by omega, fun _ _ e => by cases e⟩, (hbw6.setCell (by show w.heap.size ≤ w.heap.size + 1; omega) _).setCell (by show w.heap.size ≤ w.heap.size + 1; omega) _⟩
end Go.Proofs.Ytfaebmpdianniaa

/-
  'put' of the reference: one part put into an ascending list of parts, in memory of its own.
-/
namespace Go.Proofs.Ytfaebmpdianniaa
open Go Go.RowKit Go.Sort Go.Shelf

/-- some part of t is not below x -/
def stp_l (t : List (Int × Int)) (x : Int × Int) : Bool := t.any fun y => decide (x.1 ≤ y.1)
/-- what 'put' has made of the parts that it has met -/
def outS (t : List (Int × Int)) (x : Int × Int) : List (Int × Int) := if stp_l t x = true then putP t x else t
theorem stp_no {t : List (Int × Int)} {x : Int × Int} : stp_l t x = false ↔ ∀ z ∈ t, z.1 < x.1 := by
  simp [stp_l, List.any_eq_false]
theorem stp_snoc (t : List (Int × Int)) (x y : Int × Int) : stp_l (t ++ [y]) x = (stp_l t x || decide (x.1 ≤ y.1)) := by simp [stp_l]
theorem putP_off {t : List (Int × Int)} {x : Int × Int} (h : ∀ z ∈ t, z.1 < x.1) (r : List (Int × Int)) : putP (t ++ r) x = t ++ putP r x := by
  induction t with
  | nil => rfl
  | cons z s ih =>
    have hz := h z (by simp)
    show putP (z :: (s ++ r)) x = z :: (s ++ putP r x)
    rw [putP, if_neg (by omega), if_neg (by omega), ih fun y hy => h y (List.mem_cons_of_mem _ hy)]
theorem putP_on {t : List (Int × Int)} {x y : Int × Int} (ha : (t ++ [y]).Pairwise fun x y => x.1 < y.1) (h : stp_l t x = true) : x.1 < y.1 ∧ putP (t ++ [y]) x = putP t x ++ [y] := by
  induction t with
  | nil => simp [stp_l] at h
  | cons z s ih =>
    have ha' : (z :: (s ++ [y])).Pairwise fun x y => x.1 < y.1 := ha
    obtain ⟨h1, h2⟩ := List.pairwise_cons.1 ha'
    have hzy := h1 y (by simp)
    show x.1 < y.1 ∧ putP (z :: (s ++ [y])) x = putP (z :: s) x ++ [y]
    by_cases h3 : x.1 < z.1
    · refine ⟨by omega, ?_⟩
      rw [putP, if_pos h3, putP, if_pos h3]; rfl
    · by_cases h4 : x.1 = z.1
      · refine ⟨by omega, ?_⟩
        rw [putP, if_neg h3, if_pos h4, putP, if_neg h3, if_pos h4]; rfl
      · have hs : stp_l s x = true := by
          simp only [stp_l, List.any_cons, Bool.or_eq_true, decide_eq_true_eq] at h ⊢
          rcases h with h | h
          · omega
          · exact h
        obtain ⟨i1, i2⟩ := ih h2 hs
        refine ⟨i1, ?_⟩
        rw [putP, if_neg h3, if_neg h4, i2, putP, if_neg h3, if_neg h4]; rfl
theorem put_new {t : List (Int × Int)} {x y : Int × Int} (h : stp_l t x = false) (hlt : x.1 < y.1) : stp_l (t ++ [y]) x = true ∧ outS (t ++ [y]) x = t ++ [x] ++ [y] := by
  have h1 : stp_l (t ++ [y]) x = true := by rw [stp_snoc]; simp [Int.le_of_lt hlt]
  refine ⟨h1, ?_⟩
  rw [outS, if_pos h1, putP_off (stp_no.1 h), putP, if_pos hlt]; simp
theorem put_join {t : List (Int × Int)} {x y : Int × Int} (h : stp_l t x = false) (he : x.1 = y.1) : stp_l (t ++ [y]) x = true ∧ outS (t ++ [y]) x = t ++ [(y.1, max x.2 y.2)] := by
  have h1 : stp_l (t ++ [y]) x = true := by rw [stp_snoc]; simp [he]
  refine ⟨h1, ?_⟩
  rw [outS, if_pos h1, putP_off (stp_no.1 h), putP, if_neg (by omega), if_pos he]
theorem put_pass {t : List (Int × Int)} {x y : Int × Int} (h : stp_l t x = false) (hlt : y.1 < x.1) : stp_l (t ++ [y]) x = false ∧ outS (t ++ [y]) x = t ++ [y] := by
  have h1 : stp_l (t ++ [y]) x = false := by rw [stp_snoc, h]; simp; omega
  exact ⟨h1, by rw [outS, h1]; rfl⟩
theorem put_done {t : List (Int × Int)} {x y : Int × Int} (ha : (t ++ [y]).Pairwise fun x y => x.1 < y.1) (h : stp_l t x = true) : x.1 < y.1 ∧ stp_l (t ++ [y]) x = true ∧ outS (t ++ [y]) x = outS t x ++ [y] := by
  obtain ⟨h1, h2⟩ := putP_on ha h
  have h3 : stp_l (t ++ [y]) x = true := by rw [stp_snoc, h]; rfl
  exact ⟨h1, h3, by rw [outS, if_pos h3, h2, outS, if_pos h]⟩
theorem put_end {t : List (Int × Int)} {x : Int × Int} (h : stp_l t x = false) : putP t x = t ++ [x] := by
  have := putP_off (stp_no.1 h) []
  rw [List.append_nil] at this
  rw [this]; rfl
theorem outS_no {t : List (Int × Int)} {x : Int × Int} (h : stp_l t x = false) : outS t x = t := by rw [outS, h]; rfl
theorem putP_len (r : List (Int × Int)) (x : Int × Int) : (putP r x).length ≤ r.length + 1 := by
  induction r with
  | nil => simp [putP]
  | cons y r ih =>
    unfold putP
    split
    · simp
    · split
      · simp
      · simp; omega
theorem outS_len (t : List (Int × Int)) (x : Int × Int) : (outS t x).length ≤ t.length + 1 := by
  unfold outS
  split
  · exact putP_len t x
  · omega

theorem news2' {w : World} {x : Int × Int} {t : TypeId} {k : Nat} (hk : k = w.heap.size) : ∀ j u, [Value.int .i64 x.1, Value.int .i64 x.2][j]? = some u → (w.alloc (.cells #[.int .i64 x.1, .int .i64 x.2] t)).cell? ((⟨k, 0, none⟩ : Addr).add j) = some u := by
  subst hk; exact news2

end Go.Proofs.Ytfaebmpdianniaa

/-
  'canonical' of the reference: the canonical list of the parts, and the number beside it where no part reaches it.
-/
namespace Go.Proofs.Ytfaebmpdianniaa
open Go Go.RowKit Go.Sort Go.Shelf

def cf (c : Int) (r : List (Int × Int)) : Int := r.foldl (fun t y => if t ≤ y.2 then 0 else t) c
theorem cf_snoc (c : Int) (r : List (Int × Int)) (y : Int × Int) : cf c (r ++ [y]) = if cf c r ≤ y.2 then 0 else cf c r := by unfold cf; rw [List.foldl_append]; rfl
theorem cf_zero (r : List (Int × Int)) : cf 0 r = 0 := by
  induction r with
  | nil => rfl
  | cons y r ih =>
    have e : cf 0 (y :: r) = cf (if (0 : Int) ≤ y.2 then 0 else 0) r := rfl
    rw [e, ite_self, ih]
theorem cf_eq {c : Int} (hc : 0 ≤ c) (r : List (Int × Int)) : cf c r = if c ≤ gplus r then 0 else c := by
  have key : ∀ (r : List (Int × Int)) (t : Int), 0 ≤ t → c ≠ 0 → t < c → cf c r = if c ≤ r.foldl (fun t x => if t < x.2 then x.2 else t) t then 0 else c := by
    intro r
    induction r with
    | nil => intro t _ _ h; have h' : ¬ c ≤ t := by omega
             simp [cf, h']
    | cons y r ih =>
      intro t h0 h1 h2
      have e : cf c (y :: r) = cf (if c ≤ y.2 then 0 else c) r := rfl
      rw [e, List.foldl_cons]
      by_cases h : c ≤ y.2
      · rw [if_pos h, cf_zero, if_pos (by omega : t < y.2)]
        have mono : ∀ (r : List (Int × Int)) (t : Int), t ≤ r.foldl (fun t x => if t < x.2 then x.2 else t) t := by
          intro r
          induction r with
          | nil => intro t; exact Int.le_refl _
          | cons z r ih' =>
            intro t
            simp only [List.foldl_cons]
            have := ih' (if t < z.2 then z.2 else t)
            split at this <;> (rename_i hh; simp only [hh, if_true, if_false]; omega)
        have := mono r y.2
        rw [if_pos (by omega)]
      · rw [if_neg h]
        exact ih _ (by split <;> omega) h1 (by split <;> omega)
  by_cases h0 : c = 0
  · subst h0
    rw [cf_zero]; split <;> rfl
  · exact key r 0 (Int.le_refl _) h0 (by omega)

/-- what stands while the reference makes its canonical level: the result's box R, the level's box S -/
structure RC (w wr : World) (c : Int) (A : Option Addr) (m cap : Nat) (r : List (Int × Int)) : Prop where
  bel : Go.RowKit.Below w.heap.size w wr
  size : w.heap.size + 2 ≤ wr.heap.size
  r0 : wr.cell? ⟨w.heap.size, 0, none⟩ = some (.int .i64 0)
  r1 : wr.cell? ⟨w.heap.size, 1, none⟩ = some (.slice none 0 0)
  r2 : wr.frozen? ⟨w.heap.size, 0, none⟩ = false
  r3 : wr.frozen? ⟨w.heap.size, 1, none⟩ = false
  s0 : wr.cell? ⟨w.heap.size + 1, 0, none⟩ = some (.int .i64 c)
  s1 : wr.cell? ⟨w.heap.size + 1, 1, none⟩ = some (.slice A m cap)
  s2 : wr.frozen? ⟨w.heap.size + 1, 0, none⟩ = false
  s3 : wr.frozen? ⟨w.heap.size + 1, 1, none⟩ = false
  pl : PL wr wr.heap.size A m r
  le : m ≤ cap
  top : cap ≤ 9223372036854775807
  off : ∀ b off, A = some ⟨b, off, none⟩ → w.heap.size + 2 ≤ b
theorem RC.go {w wr w5 : World} {c : Int} {A A' : Option Addr} {m cap m' cap' : Nat} {r r' : List (Int × Int)} (h : RC w wr c A m cap r) (hb : Go.RowKit.Below wr.heap.size wr w5) (hp : PL w5 w5.heap.size A' m' r') (hl : m' ≤ cap') (ht : cap' ≤ 9223372036854775807)
    (ho : ∀ b off, A' = some ⟨b, off, none⟩ → w.heap.size + 2 ≤ b) : RC w (w5.setCell ⟨w.heap.size + 1, 1, none⟩ (.slice A' m' cap')) c A' m' cap' r' := by
  have hs := h.size
  have c0 := (hb.cell (p := ⟨w.heap.size, 0, none⟩) (show w.heap.size < _ by omega)).trans h.r0
  have c1 := (hb.cell (p := ⟨w.heap.size, 1, none⟩) (show w.heap.size < _ by omega)).trans h.r1
  have c2 := (hb.frozen (p := ⟨w.heap.size, 0, none⟩) (show w.heap.size < _ by omega)).trans h.r2
  have c3 := (hb.frozen (p := ⟨w.heap.size, 1, none⟩) (show w.heap.size < _ by omega)).trans h.r3
  have d0 := (hb.cell (p := ⟨w.heap.size + 1, 0, none⟩) (show w.heap.size + 1 < _ by omega)).trans h.s0
  have d1 := (hb.cell (p := ⟨w.heap.size + 1, 1, none⟩) (show w.heap.size + 1 < _ by omega)).trans h.s1
  have d2 := (hb.frozen (p := ⟨w.heap.size + 1, 0, none⟩) (show w.heap.size + 1 < _ by omega)).trans h.s2
  have d3 := (hb.frozen (p := ⟨w.heap.size + 1, 1, none⟩) (show w.heap.size + 1 < _ by omega)).trans h.s3
  have hsz : (w5.setCell ⟨w.heap.size + 1, 1, none⟩ (.slice A' m' cap')).heap.size = w5.heap.size := by simp
  refine ⟨(h.bel.trans (hb.mono h.bel.size)).setCell (by show w.heap.size ≤ w.heap.size + 1; omega) _, by rw [hsz]; have := hb.size; omega, keep_set_l (by omega) c0, keep_set_l (by omega) c1, by rw [World.frozen?_setCell]; exact c2, by rw [World.frozen?_setCell]; exact c3, keep_off_l (by decide) d0, World.cell?_setCell_same _ _ _ d1, by rw [World.frozen?_setCell]; exact d2, by rw [World.frozen?_setCell]; exact d3, ?_, hl, ht, ho⟩
  rw [hsz]
  exact hp.set1 _ fun b off e => by have := ho b off e; omega
theorem RC.num {w wr : World} {c : Int} {A : Option Addr} {m cap : Nat} {r : List (Int × Int)} (h : RC w wr c A m cap r) (d : Int) : RC w (wr.setCell ⟨w.heap.size + 1, 0, none⟩ (.int .i64 d)) d A m cap r := by
  have hsz : (wr.setCell ⟨w.heap.size + 1, 0, none⟩ (.int .i64 d)).heap.size = wr.heap.size := by simp
  refine ⟨h.bel.setCell (by show w.heap.size ≤ w.heap.size + 1; omega) _, by rw [hsz]; exact h.size, keep_set_l (by omega) h.r0, keep_set_l (by omega) h.r1, by rw [World.frozen?_setCell]; exact h.r2, by rw [World.frozen?_setCell]; exact h.r3, World.cell?_setCell_same _ _ _ h.s0, keep_off_l (by decide) h.s1, by rw [World.frozen?_setCell]; exact h.s2, by rw [World.frozen?_setCell]; exact h.s3, ?_, h.le, h.top, h.off⟩
  rw [hsz]
  exact h.pl.set1 _ fun b off e => by have := h.off b off e; omega
theorem RC.drew {w wr : World} {c : Int} {A : Option Addr} {m cap : Nat} {r : List (Int × Int)} (h : RC w wr c A m cap r) (k : Nat) : RC w (wr.drewN k) c A m cap r :=
  ⟨below_drewN h.bel k, by simpa using h.size, by simpa using h.r0, by simpa using h.r1, by simpa using h.r2, by simpa using h.r3, by simpa using h.s0, by simpa using h.s1, by simpa using h.s2, by simpa using h.s3, by
    have := h.pl.lift (below_drewN (Go.RowKit.Below.refl wr.heap.size wr) k); exact this, h.le, h.top, h.off⟩

theorem RC.start (w : World) (c : Int) : RC w ((w.alloc (.cells #[.int .i64 0, .slice none 0 0] 37)).alloc (.cells #[.int .i64 c, .slice none 0 0] 37)) c none 0 0 [] := by
  obtain ⟨⟨q0, q1, q2, q3⟩, q4, q5⟩ := box2 (w := w) (x0 := .int .i64 0) (x1 := .slice none 0 0) (y0 := .int .i64 c) (y1 := .slice none 0 0) (t := 37) (Go.RowKit.Below.refl _ _)
  exact ⟨q5, q4, q0, q1, by simp, by simp, q2, q3, by simp, by simp, PL.nil_ _, Nat.le_refl _, Nat.zero_le _, fun _ _ e => by cases e⟩

end Go.Proofs.Ytfaebmpdianniaa

/-
  'CopyLevel' of tenetref00: the same level, its list in new memory.
-/
namespace Go.Proofs.Ytfaebmpdianniaa
open Go Go.RowKit Go.Sort Go.Shelf

theorem step_append_own_l {P : Program} {ops : Array Oper} {o : Oper} {a : Act} {w : World} {K : Act → World → Prop} {Q : Exit → Act → World → Prop} {E : Prop}
    (hg : o.guard = none) (s x : Operand) (t : TypeId) (hop : o.op = Op.call { callee := Callee.builtin Builtin.append, args := #[s, x], argTypes := #[t, t] })
    (base : Nat) (e : TypeId) (i : TypeInfo) (z : Value) (size bytes : Nat) (h1 : P.underlying t = some (.slice e)) (h2 : P.info? e = some i) (h3 : i.zero = some z) (h4 : i.size = size) (h5 : i.bytes = bytes) (h6 : z.cells.size = size) (h7 : 0 < size)
    (v : Value) (n : Nat) (xs : List Value) (hs : a.eval s = v) (hown : w.ownsRow base e size v n xs)
    (ad : Addr) (m c : Nat) (news : List Value) (hx : a.eval x = .slice (some ad) m c) (hn : news.length = m * size) (hc : ∀ j u, news[j]? = some u → w.cell? (ad.add j) = some u) (h1c : ∀ u ∈ news, u.oneCell' = true)
    (b1 : n + m ≤ maxLen) (b2 : (n + m) * bytes ≤ 140737488355328) (b3 : base ≤ w.heap.size)
    (hK : ∀ v' w', w'.ownsRow base e size v' (n + m) (xs ++ news) → w.grownBy w' v.ownBlock → K (a.put o.dst v') w') :
    if Region.wanted o (yielded ops a.tmps) = true then Oper.wp P o a w K Q else E := by
  have hw : Region.wanted o (yielded ops a.tmps) = true := by simp [Region.wanted, hg]
  rw [if_pos hw]
  obtain ⟨v', w', hrun, r1, r2, _⟩ := run_append_own (P := P) w base t o.type e i z size bytes h1 h2 h3 h4 h5 h6 h7 v n xs hown ad m c news hn hc h1c b1 b2 b3
  unfold Oper.wp
  simp [execOp, hop, resolve, invoke, builtin, hs, hx, hrun, Result.andThen]
  exact hK v' w' r1 r2

/-- the three boxes of a copy, and the list that it has made -/
structure CB (w wr : World) (c : Int) (A : Option Addr) (n cap : Nat) (v : Value) (q : List (Int × Int)) : Prop where
  bel : Go.RowKit.Below w.heap.size w wr
  size : w.heap.size + 3 ≤ wr.heap.size
  a1 : wr.cell? ⟨w.heap.size, 1, none⟩ = some (.slice A n cap)
  r0 : wr.cell? ⟨w.heap.size + 1, 0, none⟩ = some (.int .i64 0)
  r1 : wr.cell? ⟨w.heap.size + 1, 1, none⟩ = some (.slice none 0 0)
  r2 : wr.frozen? ⟨w.heap.size + 1, 0, none⟩ = false
  r3 : wr.frozen? ⟨w.heap.size + 1, 1, none⟩ = false
  s0 : wr.cell? ⟨w.heap.size + 1 + 1, 0, none⟩ = some (.int .i64 c)
  s1 : wr.cell? ⟨w.heap.size + 1 + 1, 1, none⟩ = some v
  s3 : wr.frozen? ⟨w.heap.size + 1 + 1, 1, none⟩ = false
  own : wr.ownsRow (w.heap.size + 3) 80 2 v q.length (flat2 q)
theorem new_cells (X : World) (c : Int) (t : TypeId) {k : Nat} (hk : k = X.heap.size) : (X.alloc (.cells #[.int .i64 c, .slice none 0 0] t)).cell? ⟨k, 0, none⟩ = some (.int .i64 c) ∧ (X.alloc (.cells #[.int .i64 c, .slice none 0 0] t)).cell? ⟨k, 1, none⟩ = some (.slice none 0 0) ∧ (X.alloc (.cells #[.int .i64 c, .slice none 0 0] t)).frozen? ⟨k, 1, none⟩ = false := by
  subst hk
  exact ⟨by simp, by simp, by simp⟩
theorem CB.start (w : World) (c : Int) (A : Option Addr) (n cap : Nat) : CB w (((w.alloc (.cells #[.int .i64 c, .slice A n cap] 37)).alloc (.cells #[.int .i64 0, .slice none 0 0] 37)).alloc (.cells #[.int .i64 c, .slice none 0 0] 37)) c A n cap (.slice none 0 0) [] := by
  have e : ((w.alloc (.cells #[.int .i64 c, .slice A n cap] 37)).alloc (.cells #[.int .i64 0, .slice none 0 0] 37)).heap.size = w.heap.size + 1 + 1 := by simp
  refine ⟨((((Go.RowKit.Below.refl _ w).alloc (Nat.le_refl _) _).alloc (by simp) _).alloc (by simp; omega) _), by simp, ?_, ?_, ?_, ?_, ?_, ?_, ?_, ?_, World.ownsRow_nil _ _ _ _⟩
  · exact cell_alloc _ (cell_alloc _ (by simp))
  · exact cell_alloc _ (by simp)
  · exact cell_alloc _ (by simp)
  · rw [World.frozen?_alloc_old _ _ _ (by simp)]; simp
  · rw [World.frozen?_alloc_old _ _ _ (by simp)]; simp
  · exact (new_cells _ c _ e.symm).1
  · exact (new_cells _ c _ e.symm).2.1
  · exact (new_cells _ c _ e.symm).2.2
theorem CB.go {w wr w5 : World} {c : Int} {A : Option Addr} {n cap : Nat} {v v' : Value} {q q' : List (Int × Int)} (h : CB w wr c A n cap v q) (hb : Go.RowKit.Below (w.heap.size + 3) wr w5) (ho : w5.ownsRow (w.heap.size + 3) 80 2 v' q'.length (flat2 q')) :
    CB w (w5.setCell ⟨w.heap.size + 1 + 1, 1, none⟩ v') c A n cap v' q' := by
  have c1 := (hb.cell (p := ⟨w.heap.size, 1, none⟩) (show w.heap.size < _ by omega)).trans h.a1
  have d0 := (hb.cell (p := ⟨w.heap.size + 1, 0, none⟩) (show w.heap.size + 1 < _ by omega)).trans h.r0
  have d1 := (hb.cell (p := ⟨w.heap.size + 1, 1, none⟩) (show w.heap.size + 1 < _ by omega)).trans h.r1
  have d2 := (hb.frozen (p := ⟨w.heap.size + 1, 0, none⟩) (show w.heap.size + 1 < _ by omega)).trans h.r2
  have d3 := (hb.frozen (p := ⟨w.heap.size + 1, 1, none⟩) (show w.heap.size + 1 < _ by omega)).trans h.r3
  have e0 := (hb.cell (p := ⟨w.heap.size + 1 + 1, 0, none⟩) (show w.heap.size + 1 + 1 < _ by omega)).trans h.s0
  have e1 := (hb.cell (p := ⟨w.heap.size + 1 + 1, 1, none⟩) (show w.heap.size + 1 + 1 < _ by omega)).trans h.s1
  have e3 := (hb.frozen (p := ⟨w.heap.size + 1 + 1, 1, none⟩) (show w.heap.size + 1 + 1 < _ by omega)).trans h.s3
  have hsz : (w5.setCell ⟨w.heap.size + 1 + 1, 1, none⟩ v').heap.size = w5.heap.size := by simp
  exact ⟨(h.bel.trans (hb.mono (by omega))).setCell (by show w.heap.size ≤ w.heap.size + 1 + 1; omega) _, by rw [hsz]; have := hb.size; have := h.size; omega, keep_set_l (by omega) c1, keep_set_l (by omega) d0, keep_set_l (by omega) d1, by rw [World.frozen?_setCell]; exact d2, by rw [World.frozen?_setCell]; exact d3,
    keep_off_l (by decide) e0, World.cell?_setCell_same _ _ _ e1, by rw [World.frozen?_setCell]; exact e3, ownsRow_setCell_below ho (by show w.heap.size + 1 + 1 < _; omega) _⟩

end Go.Proofs.Ytfaebmpdianniaa

/-
  'Normal' of package level: what it returns for every level.
-/
namespace Go.Proofs.Ytfaebmpdianniaa
open Go Go.RowKit

noncomputable def nErr (c : Int) (l : List (Int × Int)) : Int := if vld c l = true then cErr c l else 4
noncomputable def nConst (c : Int) (l : List (Int × Int)) : Int := if vld c l = true then cConst c l else 0
noncomputable def nVars (c : Int) (l : List (Int × Int)) : List (Int × Int) := if vld c l = true then cVars c l else []

theorem LvRes.lift {w w' : World} {B : Nat} {v : Value} {c : Int} {l : List (Int × Int)} (h : LvRes B w v c l) (hb : Below w.heap.size w w') : LvRes B w' v c l := by
  obtain ⟨A, m, cap, rfl, hP, h1, h2, h3⟩ := h
  exact ⟨A, m, cap, rfl, hP.lift hb, h1, h2, h3⟩

end Go.Proofs.Ytfaebmpdianniaa

/-
  'fits' and 'Normal' of the reference; equality of levels where they are equal.
-/
namespace Go.Proofs.Ytfaebmpdianniaa
open Go Go.RowKit

def fE (c : Int) (r : List (Int × Int)) : Int := if r.length ≤ 8 ∧ c ≤ 1000 ∧ ∀ y ∈ r, y.2 ≤ 1000 then 0 else 2
theorem fE_eq (c : Int) (r : List (Int × Int)) : fE c r = if r.length ≤ 8 ∧ max c (gplus r) ≤ 1000 then 0 else 2 := by
  unfold fE
  have : (r.length ≤ 8 ∧ c ≤ 1000 ∧ ∀ y ∈ r, y.2 ≤ 1000) ↔ (r.length ≤ 8 ∧ max c (gplus r) ≤ 1000) := by
    constructor
    · rintro ⟨h1, h2, h3⟩
      have := gplus_le (l := r) (m := 1000) (by omega) h3
      exact ⟨h1, by omega⟩
    · rintro ⟨h1, h2⟩
      exact ⟨h1, by omega, fun y hy => by have := (gplus_nn r).2 y hy; omega⟩
  by_cases h : r.length ≤ 8 ∧ c ≤ 1000 ∧ ∀ y ∈ r, y.2 ≤ 1000
  · rw [if_pos h, if_pos (this.1 h)]
  · rw [if_neg h, if_neg fun h' => h (this.2 h')]

/-- the two boxes that 'fits' and 'Normal' begin with -/
structure B2 (w wr : World) (c : Int) (A : Option Addr) (n cap : Nat) : Prop where
  bel : Below w.heap.size w wr
  size : w.heap.size + 2 ≤ wr.heap.size
  a0 : wr.cell? ⟨w.heap.size, 0, none⟩ = some (.int .i64 c)
  a1 : wr.cell? ⟨w.heap.size, 1, none⟩ = some (.slice A n cap)
  r0 : wr.cell? ⟨w.heap.size + 1, 0, none⟩ = some (.int .i64 0)
  r1 : wr.cell? ⟨w.heap.size + 1, 1, none⟩ = some (.slice none 0 0)
  r2 : wr.frozen? ⟨w.heap.size + 1, 0, none⟩ = false
  r3 : wr.frozen? ⟨w.heap.size + 1, 1, none⟩ = false
theorem B2.start (w : World) (c : Int) (A : Option Addr) (n cap : Nat) : B2 w ((w.alloc (.cells #[.int .i64 c, .slice A n cap] 37)).alloc (.cells #[.int .i64 0, .slice none 0 0] 37)) c A n cap := by
  obtain ⟨⟨q0, q1, q2, q3⟩, q4, q5⟩ := box2 (w := w) (x0 := .int .i64 c) (x1 := .slice A n cap) (y0 := .int .i64 0) (y1 := .slice none 0 0) (t := 37) (Below.refl _ _)
  exact ⟨q5, q4, q0, q1, q2, q3, by simp, by simp⟩
theorem B2.go {w wr w5 : World} {c : Int} {A : Option Addr} {n cap : Nat} (h : B2 w wr c A n cap) (hb : Below wr.heap.size wr w5) : B2 w w5 c A n cap := by
  have hs := h.size
  exact ⟨h.bel.trans (hb.mono h.bel.size), by have := hb.size; omega, (hb.cell (p := ⟨w.heap.size, 0, none⟩) (show w.heap.size < _ by omega)).trans h.a0, (hb.cell (p := ⟨w.heap.size, 1, none⟩) (show w.heap.size < _ by omega)).trans h.a1,
    (hb.cell (p := ⟨w.heap.size + 1, 0, none⟩) (show w.heap.size + 1 < _ by omega)).trans h.r0, (hb.cell (p := ⟨w.heap.size + 1, 1, none⟩) (show w.heap.size + 1 < _ by omega)).trans h.r1,
    (hb.frozen (p := ⟨w.heap.size + 1, 0, none⟩) (show w.heap.size + 1 < _ by omega)).trans h.r2, (hb.frozen (p := ⟨w.heap.size + 1, 1, none⟩) (show w.heap.size + 1 < _ by omega)).trans h.r3⟩
theorem B2.put {w wr : World} {c : Int} {A : Option Addr} {n cap : Nat} (h : B2 w wr c A n cap) (d : Int) (v : Value) :
    ((wr.setCell ⟨w.heap.size + 1, 0, none⟩ (.int .i64 d)).setCell ⟨w.heap.size + 1, 1, none⟩ v).cell? ⟨w.heap.size + 1, 0, none⟩ = some (.int .i64 d) ∧
    ((wr.setCell ⟨w.heap.size + 1, 0, none⟩ (.int .i64 d)).setCell ⟨w.heap.size + 1, 1, none⟩ v).cell? ⟨w.heap.size + 1, 1, none⟩ = some v ∧
    Below w.heap.size w ((wr.setCell ⟨w.heap.size + 1, 0, none⟩ (.int .i64 d)).setCell ⟨w.heap.size + 1, 1, none⟩ v) :=
  ⟨keep_off_l (by decide) (World.cell?_setCell_same _ _ _ h.r0), World.cell?_setCell_same _ _ _ (keep_off_l (by decide) h.r1), (h.bel.setCell (by show w.heap.size ≤ w.heap.size + 1; omega) _).setCell (by show w.heap.size ≤ w.heap.size + 1; omega) _⟩

def fV (c : Int) (A : Option Addr) (n cap : Nat) (r : List (Int × Int)) : Value := if fE c r = 0 then .agg #[.int .i64 c, .slice A n cap] else .agg #[.int .i64 0, .slice none 0 0]
theorem fE_two {c : Int} {r : List (Int × Int)} (h : ¬ (r.length ≤ 8 ∧ c ≤ 1000 ∧ ∀ y ∈ r, y.2 ≤ 1000)) (A : Option Addr) (n cap : Nat) : fE c r = 2 ∧ fV c A n cap r = .agg #[.int .i64 0, .slice none 0 0] := by
  have e : fE c r = 2 := by rw [fE, if_neg h]
  exact ⟨e, by rw [fV, e]; rfl⟩
theorem fE_ok {c : Int} {r : List (Int × Int)} (h : r.length ≤ 8 ∧ c ≤ 1000 ∧ ∀ y ∈ r, y.2 ≤ 1000) (A : Option Addr) (n cap : Nat) : fE c r = 0 ∧ fV c A n cap r = .agg #[.int .i64 c, .slice A n cap] := by
  have e : fE c r = 0 := by rw [fE, if_pos h]
  exact ⟨e, by rw [fV, e]; rfl⟩

end Go.Proofs.Ytfaebmpdianniaa

/-
  'Normal' of the reference: the same level and the same error as package level's, for every level; levels that are equal are found equal.
-/
namespace Go.Proofs.Ytfaebmpdianniaa
open Go Go.RowKit

theorem PL.of_lv {B : Nat} {w : World} {v : Value} {c : Int} {l : List (Int × Int)} (h : LvRes B w v c l) : ∃ A m cap, v = .agg #[.int .i64 c, .slice A m cap] ∧ PL w w.heap.size A m l ∧ m ≤ cap ∧ cap ≤ 9223372036854775807 := by
  obtain ⟨A, m, cap, rfl, h1, h2, h3, _⟩ := h
  exact ⟨A, m, cap, rfl, h1, h2, h3⟩

/-- what 'fits' behind 'canonical' gives -/
theorem fits_canon {c : Int} {l : List (Int × Int)} (A : Option Addr) (n cap : Nat) : fE (if c ≤ gplus (canonV l) then 0 else c) (canonV l) = cErr c l ∧
    fV (if c ≤ gplus (canonV l) then 0 else c) A n cap (canonV l) = if cErr c l = 0 then .agg #[.int .i64 (cConst c l), .slice A n cap] else .agg #[.int .i64 0, .slice none 0 0] := by
  have e : fE (if c ≤ gplus (canonV l) then 0 else c) (canonV l) = cErr c l := by rw [fE_eq, cErr]
  refine ⟨e, ?_⟩
  rw [fV, e]
  by_cases h : cErr c l = 0
  · rw [if_pos h, if_pos h, cConst, if_pos h]
  · rw [if_neg h, if_neg h]
theorem fits_lv {c : Int} {l : List (Int × Int)} {A : Option Addr} {n cap B : Nat} {w : World} (h : PL w w.heap.size A n (canonV l)) (hn : n ≤ cap) (hm : cap ≤ 9223372036854775807) (hB : ∀ b off, A = some ⟨b, off, none⟩ → B ≤ b) :
    ∃ C m k, fV (if c ≤ gplus (canonV l) then 0 else c) A n cap (canonV l) = .agg #[.int .i64 (cConst c l), .slice C m k] ∧ PL w w.heap.size C m (cVars c l) ∧ m ≤ k ∧ k ≤ 9223372036854775807 ∧ ∀ b off, C = some ⟨b, off, none⟩ → B ≤ b := by
  rw [(fits_canon (c := c) (l := l) A n cap).2]
  by_cases he : cErr c l = 0
  · rw [if_pos he]
    exact ⟨A, n, cap, rfl, by rw [cVars, if_pos he]; exact h, hn, hm, hB⟩
  · rw [if_neg he]
    exact ⟨none, 0, 0, by rw [cConst, if_neg he], by rw [cVars, if_neg he]; exact PL.nil_ _, Nat.le_refl _, Nat.zero_le _, fun _ _ e => by cases e⟩

end Go.Proofs.Ytfaebmpdianniaa

/-
  'raised' and 'Suc' of package level; 'more' of the reference.
-/
namespace Go.Proofs.Ytfaebmpdianniaa
open Go Go.RowKit Go.Sort Go.Shelf

/-- as LvRes, and a list that is none has no room -/
def LvResN (B : Nat) (w' : World) (v : Value) (c : Int) (l : List (Int × Int)) : Prop :=
  ∃ A m cap, v = .agg #[.int .i64 c, .slice A m cap] ∧ PL w' w'.heap.size A m l ∧ m ≤ cap ∧ cap ≤ 9223372036854775807 ∧ (∀ b off, A = some ⟨b, off, none⟩ → B ≤ b) ∧ (A = none → cap = 0)
theorem LvResN.to {B : Nat} {w' : World} {v : Value} {c : Int} {l : List (Int × Int)} (h : LvResN B w' v c l) : LvRes B w' v c l := by
  obtain ⟨A, m, cap, h1, h2, h3, h4, h5, _⟩ := h
  exact ⟨A, m, cap, h1, h2, h3, h4, h5⟩
theorem own_none {w : World} {base : Nat} {e : TypeId} {size k n c : Nat} {A : Option Addr} {xs : List Value} (h : w.ownsRow base e size (.slice A n c) k xs) : A = none → c = 0 := by
  intro hA
  subst hA
  rcases h.2 with ⟨h1, _⟩ | ⟨g, cap, cur, h1, _⟩
  · injection h1
  · cases h1
/-- the parts with a number added -/
def rl (m : Int) (l : List (Int × Int)) : List (Int × Int) := l.map fun x => (x.1, x.2 + m)
theorem rl_snoc (m : Int) (l : List (Int × Int)) (x : Int × Int) : rl m (l ++ [x]) = rl m l ++ [(x.1, x.2 + m)] := by simp [rl]
theorem rl_len (m : Int) (l : List (Int × Int)) : (rl m l).length = l.length := by simp [rl]
theorem CB.start2 (w : World) (c d : Int) (A : Option Addr) (n cap : Nat) : CB w (((w.alloc (.cells #[.int .i64 c, .slice A n cap] 37)).alloc (.cells #[.int .i64 0, .slice none 0 0] 37)).alloc (.cells #[.int .i64 d, .slice none 0 0] 37)) d A n cap (.slice none 0 0) [] := by
  have e : ((w.alloc (.cells #[.int .i64 c, .slice A n cap] 37)).alloc (.cells #[.int .i64 0, .slice none 0 0] 37)).heap.size = w.heap.size + 1 + 1 := by simp
  refine ⟨((((Go.RowKit.Below.refl _ w).alloc (Nat.le_refl _) _).alloc (by simp) _).alloc (by simp; omega) _), by simp, ?_, ?_, ?_, ?_, ?_, ?_, ?_, ?_, World.ownsRow_nil _ _ _ _⟩
  · exact cell_alloc _ (cell_alloc _ (by simp))
  · exact cell_alloc _ (by simp)
  · exact cell_alloc _ (by simp)
  · rw [World.frozen?_alloc_old _ _ _ (by simp)]; simp
  · rw [World.frozen?_alloc_old _ _ _ (by simp)]; simp
  · exact (new_cells _ d _ e.symm).1
  · exact (new_cells _ d _ e.symm).2.1
  · exact (new_cells _ d _ e.symm).2.2

end Go.Proofs.Ytfaebmpdianniaa

/-
  slices.Concat at two lists of parts: the one behind the other, in memory of its own.
-/
namespace Go.Proofs.Ytfaebmpdianniaa
open Go Go.RowKit Go.Sort Go.Shelf

theorem grow_any (k : Nat) (w : World) (hk : k ≤ 1000000) :
    Calls Try.prog 106 #[.slice none 0 0, .int .i64 k] w fun e w' => ∃ v, e = .returned v ∧ w'.ownsRow w.heap.size 80 2 v 0 [] ∧ Go.RowKit.Below w.heap.size w w' := by
  obtain ⟨i0, hi, hz0, hz1, hz2⟩ := info_parts infoV
  rcases Nat.eq_zero_or_pos k with rfl | hk0
  · refine (Any8.slices_Grow_room Try.layGrow none 0 0 0 w (Nat.le_refl _) (by omega) (by omega) (Nat.le_refl _)).mono ?_
    rintro e w' ⟨he, hw⟩
    subst hw
    exact ⟨_, he, World.ownsRow_nil _ _ _ _, Go.RowKit.Below.refl _ _⟩
  · have hG := grownCap_le_maxLen w (0 + k) 0 (Try.layGrow_ren.t 25) (by unfold maxLen; omega)
    have hG2 : k ≤ grownCap w k 0 (Try.layGrow_ren.t 25) := by simpa using grownCap_ge w (0 + k) 0 (Try.layGrow_ren.t 25)
    refine (Any8.slices_Grow_grow Try.layGrow i0 (.agg #[.int .i64 0, .int .i64 0]) hi hz0 (by omega) none 0 0 k [] w (Nat.le_refl _) (by omega) (by rw [hz2]; omega) (by omega) (by simp) (fun _ => rfl) (fun _ e => by cases e)).mono ?_
    rintro e w' ⟨he, hw⟩
    refine ⟨_, he, ?_, ?_⟩
    · rw [hw]
      exact World.ownsRow_made w.drew _ _ (Nat.le_refl _) hG (by simp [Builtin.zeroCells, Value.cells]; omega)
    · rw [hw]
      exact (Go.RowKit.Below.refl _ w).drew.alloc (Nat.le_refl _) _

theorem PL.cells {w : World} {B n : Nat} {a : Addr} {l : List (Int × Int)} (h : PL w B (some a) n l) : ∀ j u, (flat2 l)[j]? = some u → w.cell? (a.add j) = some u := by
  intro j u hu
  have hj : j < l.length * 2 := by rw [← flat2_len]; exact (List.getElem?_eq_some_iff.1 hu).1
  have hl := h.1
  obtain ⟨b, off, e, _, hc⟩ := h.2 (by omega)
  injection e with e
  subst e
  have hd : j / 2 < l.length := by omega
  obtain ⟨f1, f2⟩ := flat2_at (List.getElem?_eq_getElem hd)
  obtain ⟨c1, c2⟩ := hc (j / 2) _ (List.getElem?_eq_getElem hd)
  rw [Go.WideShapes.add_plain]
  generalize l[j / 2] = x at f1 f2 c1 c2
  rcases Nat.mod_two_eq_zero_or_one j with h0 | h0
  · rw [show j / 2 * 2 = j by omega] at f1 c1
    rw [c1, ← f1, hu]
  · rw [show j / 2 * 2 + 1 = j by omega] at f2
    rw [Nat.add_assoc, show j / 2 * 2 + 1 = j by omega] at c2
    rw [c2, ← f2, hu]

set_option maxRecDepth 100000 in
set_option maxHeartbeats 4000000 in
theorem concat_any (A : Option Addr) (n capA : Nat) (la : List (Int × Int)) (B : Option Addr) (m capB : Nat) (lb : List (Int × Int)) (T : Nat) (w : World) (ha : PL w w.heap.size A n la) (hb : PL w w.heap.size B m lb) (hn : n ≤ 100000) (hm : m ≤ 100000)
    (hA : A = none → capA = 0) (hB : B = none → capB = 0) (hT : T < w.heap.size) (t0 : w.cell? ⟨T, 0, none⟩ = some (.slice A n capA)) (t1 : w.cell? ⟨T, 1, none⟩ = some (.slice B m capB)) :
    Calls Try.prog 94 #[.slice (some ⟨T, 0, none⟩) 2 2] w fun e w' => ∃ v, e = .returned v ∧ w'.ownsRow w.heap.size 80 2 v (la ++ lb).length (flat2 (la ++ lb)) ∧ Go.RowKit.Below w.heap.size w w' := by
  obtain ⟨i0, hi, hz0, hz1, hz2⟩ := info_parts infoV
  have Hab : Hid ((la ++ lb).length = n + m) := by rw [Hid, List.length_append, ha.1, hb.1]
  go_enter Try.func94, Try.ntmps94
  go_wp2_with fail
  go_loop [3, 11] (fun s i => ∃ k : Nat, k ≤ 2 ∧ i = .int .i64 k ∧ s = .int .i64 (if k = 0 then 0 else if k = 1 then n else n + m)) (fun _ i => 2 - (intOf i).toNat)
  case atStart => exact ⟨0, by omega, rfl, rfl⟩
  case round =>
    obtain ⟨k, hk, rfl, rfl⟩ := hrel
    by_cases hlt : k < 2
    · by_cases hk0 : k = 0
      · subst hk0
        go_wp2_with fail
        go_round
        case rel => exact ⟨1, by omega, by go_num, by simp⟩
        case measure => simp [intOf]
      · obtain rfl : k = 1 := by omega
        go_wp2_with fail
        go_round
        case rel => exact ⟨2, by omega, by go_num, by simp⟩
        case measure => simp [intOf]
    · obtain rfl : k = 2 := by omega
      have hg := Lib.hid (grow_any (n + m) w (by omega))
      go_wp2_with fail
      refine hg.out.mono ?_
      rintro e w1 ⟨v, rfl, hown, hb1⟩
      have hq0 := Lib.hid t0
      have hq1 := Lib.hid t1
      clear t0 t1
      have hT1 : T < w1.heap.size := by have := hb1.size; omega
      clear hg
      go_wp2_with fail
      go_loopw [6, 27] (fun v i wr => ∃ k : Nat, k ≤ 2 ∧ i = .int .i64 k ∧ wr.ownsRow w.heap.size 80 2 v (if k = 0 then ([] : List (Int × Int)) else if k = 1 then la else la ++ lb).length (flat2 (if k = 0 then ([] : List (Int × Int)) else if k = 1 then la else la ++ lb)) ∧ Go.RowKit.Below w.heap.size w wr) (fun _ i _ => 2 - (intOf i).toNat)
      case atStart => exact ⟨0, by omega, rfl, hown, hb1⟩
      case round =>
        clear hown
        obtain ⟨k, hk, rfl, hown, hbr⟩ := hrel
        have t0 := (hbr.cell (p := ⟨T, 0, none⟩) hT).trans hq0.out
        have t1 := (hbr.cell (p := ⟨T, 1, none⟩) hT).trans hq1.out
        by_cases hlt : k < 2
        · by_cases hk0 : k = 0
          · subst hk0
            have hown : wr.ownsRow w.heap.size 80 2 _ 0 [] := hown
            cases A with
            | none =>
              obtain rfl := hA rfl
              have hn0 : n = 0 := by
                rcases Nat.eq_zero_or_pos n with h | h
                · exact h
                · obtain ⟨b, off, e, _⟩ := ha.2 h; cases e
              subst hn0
              have hla : la = [] := List.eq_nil_of_length_eq_zero ha.1
              subst hla
              go_wp2_with (at_builtin; refine wpList_append_own_none rfl _ _ 35 rfl w.heap.size 80 i0 2 Try.underlying35 hi _ 0 [] rfl hown rfl ?_)
              go_wp2_with fail
              go_roundw
              case rel => first | exact ⟨1, by omega, by go_num, hown, hbr⟩ | exact ⟨_, _, _, ⟨1, by omega, rfl, hown⟩, rfl, rfl, rfl⟩
              case measure => simp [intOf]
            | some a =>
              have hcs := Lib.hid (fun W (hW : Go.RowKit.Below w.heap.size w W) => (ha.below hW).cells)
              have hl := Lib.hid ha.1
              go_wp2_with (at_builtin; refine wpList_append_own _ rfl _ _ 35 rfl w.heap.size 80 i0 (.agg #[.int .i64 0, .int .i64 0]) 2 16 Try.underlying35 hi hz0 hz1 hz2 rfl (by decide) _ 0 [] rfl hown a n capA (flat2 la) rfl (by rw [flat2_len, hl.out]) (hcs.out _ hbr) (flat2_one_cell la) (by unfold maxLen; omega) (by omega) hbr.size ?_)
              intro v' w5 hown5 hgrow _
              go_wp2_with fail
              go_roundw
              case rel => exact ⟨1, by omega, by go_num, by simp only [show (1 : Nat) ≠ 0 by decide, if_false, if_true]; rw [hl.out]; simpa using hown5, hbr.grown hgrow hbr.size fun j hj => (hown.lt j hj).1⟩
              case measure => simp [intOf]
          · obtain rfl : k = 1 := by omega
            have hownA : wr.ownsRow w.heap.size 80 2 _ la.length (flat2 la) := hown
            clear hown
            have hlan := Lib.hid ha.1
            rw [ha.1] at hownA
            cases B with
            | none =>
              obtain rfl := hB rfl
              have hm0 : m = 0 := by
                rcases Nat.eq_zero_or_pos m with h | h
                · exact h
                · obtain ⟨b, off, e, _⟩ := hb.2 h; cases e
              subst hm0
              have hlb : lb = [] := List.eq_nil_of_length_eq_zero hb.1
              subst hlb
              have hown2 : Hid (∀ v, wr.ownsRow w.heap.size 80 2 v n (flat2 la) → wr.ownsRow w.heap.size 80 2 v (la ++ []).length (flat2 (la ++ []))) := fun v h => by rw [List.append_nil, hlan.out]; exact h
              go_wp2_with (at_builtin; refine wpList_append_own_none rfl _ _ 35 rfl w.heap.size 80 i0 2 Try.underlying35 hi _ n (flat2 la) rfl hownA rfl ?_)
              go_wp2_with fail
              go_roundw
              case rel => first | exact ⟨2, by omega, by go_num, hown2.out _ hownA, hbr⟩ | exact ⟨_, _, _, ⟨2, by omega, rfl, hown2.out _ hownA⟩, rfl, rfl, rfl⟩ | exact ⟨_, _, _, ⟨2, by omega, rfl, by simpa [hlan.out] using hownA⟩, rfl, rfl, rfl⟩
              case measure => simp [intOf]
            | some a =>
              have hcs := Lib.hid (fun W (hW : Go.RowKit.Below w.heap.size w W) => (hb.below hW).cells)
              have hl := Lib.hid hb.1
              go_wp2_with (at_builtin; refine wpList_append_own _ rfl _ _ 35 rfl w.heap.size 80 i0 (.agg #[.int .i64 0, .int .i64 0]) 2 16 Try.underlying35 hi hz0 hz1 hz2 rfl (by decide) _ n (flat2 la) rfl hownA a m capB (flat2 lb) rfl (by rw [flat2_len, hl.out]) (hcs.out _ hbr) (flat2_one_cell lb) (by unfold maxLen; omega) (by omega) hbr.size ?_)
              intro v' w5 hown5 hgrow _
              go_wp2_with fail
              go_roundw
              case rel => exact ⟨2, by omega, by go_num, by simp only [show (2 : Nat) ≠ 0 by decide, show (2 : Nat) ≠ 1 by decide, if_false]; rw [Hab.out, flat2_app]; exact hown5, hbr.grown hgrow hbr.size fun j hj => (hownA.lt j hj).1⟩
              case measure => simp [intOf]
        · obtain rfl : k = 2 := by omega
          have hown : wr.ownsRow w.heap.size 80 2 _ (la ++ lb).length (flat2 (la ++ lb)) := hown
          go_wp2_with fail
          go_ret
          exact ⟨_, rfl, hown, hbr⟩
end Go.Proofs.Ytfaebmpdianniaa

/-
  'both' of package level: the greater of two levels, before it is made canonical.
-/
namespace Go.Proofs.Ytfaebmpdianniaa
open Go Go.RowKit Go.Sort Go.Shelf

/-- the three boxes that 'both' and 'Max' begin with -/
structure B3 (w wr : World) (ca : Int) (A : Option Addr) (n capA : Nat) (cb : Int) (B : Option Addr) (m capB : Nat) : Prop where
  bel : Go.RowKit.Below w.heap.size w wr
  size : w.heap.size + 1 + 1 + 1 ≤ wr.heap.size
  a0 : wr.cell? ⟨w.heap.size, 0, none⟩ = some (.int .i64 ca)
  a1 : wr.cell? ⟨w.heap.size, 1, none⟩ = some (.slice A n capA)
  b0 : wr.cell? ⟨w.heap.size + 1, 0, none⟩ = some (.int .i64 cb)
  b1 : wr.cell? ⟨w.heap.size + 1, 1, none⟩ = some (.slice B m capB)
  r0 : wr.cell? ⟨w.heap.size + 1 + 1, 0, none⟩ = some (.int .i64 0)
  r1 : wr.cell? ⟨w.heap.size + 1 + 1, 1, none⟩ = some (.slice none 0 0)
  r2 : wr.frozen? ⟨w.heap.size + 1 + 1, 0, none⟩ = false
  r3 : wr.frozen? ⟨w.heap.size + 1 + 1, 1, none⟩ = false
theorem new_froz (X : World) (cs : Array Value) (t : TypeId) {k : Nat} (hk : k = X.heap.size) (i : Nat) : (X.alloc (.cells cs t)).frozen? ⟨k, i, none⟩ = false := by
  subst hk; exact frozen_new' _ _ _ _
theorem B3.start (w : World) (ca : Int) (A : Option Addr) (n capA : Nat) (cb : Int) (B : Option Addr) (m capB : Nat) :
    B3 w (((w.alloc (.cells #[.int .i64 ca, .slice A n capA] 37)).alloc (.cells #[.int .i64 cb, .slice B m capB] 37)).alloc (.cells #[.int .i64 0, .slice none 0 0] 37)) ca A n capA cb B m capB := by
  have e : ((w.alloc (.cells #[.int .i64 ca, .slice A n capA] 37)).alloc (.cells #[.int .i64 cb, .slice B m capB] 37)).heap.size = w.heap.size + 1 + 1 := by simp
  refine ⟨((((Go.RowKit.Below.refl _ w).alloc (Nat.le_refl _) _).alloc (by simp) _).alloc (by simp; omega) _), by simp, ?_, ?_, ?_, ?_, ?_, ?_, ?_, ?_⟩
  · exact cell_alloc _ (cell_alloc _ (by simp))
  · exact cell_alloc _ (cell_alloc _ (by simp))
  · exact cell_alloc _ (by simp)
  · exact cell_alloc _ (by simp)
  · exact (new_cells _ 0 _ e.symm).1
  · exact (new_cells _ 0 _ e.symm).2.1
  · exact new_froz _ _ _ e.symm _
  · exact new_froz _ _ _ e.symm _
theorem B3.go {w wr w5 : World} {ca cb : Int} {A B : Option Addr} {n capA m capB : Nat} (h : B3 w wr ca A n capA cb B m capB) (hb : Go.RowKit.Below wr.heap.size wr w5) : B3 w w5 ca A n capA cb B m capB := by
  have hs := h.size
  have k : ∀ q i, q < wr.heap.size → w5.cell? ⟨q, i, none⟩ = wr.cell? ⟨q, i, none⟩ := fun q i hq => hb.cell (p := ⟨q, i, none⟩) hq
  have f : ∀ q i, q < wr.heap.size → w5.frozen? ⟨q, i, none⟩ = wr.frozen? ⟨q, i, none⟩ := fun q i hq => hb.frozen (p := ⟨q, i, none⟩) hq
  exact ⟨h.bel.trans (hb.mono h.bel.size), by have := hb.size; omega, (k _ _ (by omega)).trans h.a0, (k _ _ (by omega)).trans h.a1, (k _ _ (by omega)).trans h.b0, (k _ _ (by omega)).trans h.b1, (k _ _ (by omega)).trans h.r0, (k _ _ (by omega)).trans h.r1, (f _ _ (by omega)).trans h.r2, (f _ _ (by omega)).trans h.r3⟩
theorem B3.put {w wr : World} {ca cb : Int} {A B : Option Addr} {n capA m capB : Nat} (h : B3 w wr ca A n capA cb B m capB) (d : Int) (v : Value) :
    ((wr.setCell ⟨w.heap.size + 1 + 1, 0, none⟩ (.int .i64 d)).setCell ⟨w.heap.size + 1 + 1, 1, none⟩ v).cell? ⟨w.heap.size + 1 + 1, 0, none⟩ = some (.int .i64 d) ∧
    ((wr.setCell ⟨w.heap.size + 1 + 1, 0, none⟩ (.int .i64 d)).setCell ⟨w.heap.size + 1 + 1, 1, none⟩ v).cell? ⟨w.heap.size + 1 + 1, 1, none⟩ = some v ∧
    Go.RowKit.Below w.heap.size w ((wr.setCell ⟨w.heap.size + 1 + 1, 0, none⟩ (.int .i64 d)).setCell ⟨w.heap.size + 1 + 1, 1, none⟩ v) :=
  ⟨keep_off_l (by decide) (World.cell?_setCell_same _ _ _ h.r0), World.cell?_setCell_same _ _ _ (keep_off_l (by decide) h.r1), (h.bel.setCell (by show w.heap.size ≤ w.heap.size + 1 + 1; omega) _).setCell (by show w.heap.size ≤ w.heap.size + 1 + 1; omega) _⟩

theorem two_cells (X : World) (v u : Value) (t : TypeId) (_hv : v.oneCell' = true) (_hu : u.oneCell' = true) : (X.alloc (.cells #[v, u] t)).cell? ⟨X.heap.size, 0, none⟩ = some v ∧ (X.alloc (.cells #[v, u] t)).cell? ⟨X.heap.size, 1, none⟩ = some u := ⟨by simp, by simp⟩

set_option maxRecDepth 100000 in
set_option maxHeartbeats 4000000 in
theorem both_anyN (ca : Int) (A : Option Addr) (n capA : Nat) (la : List (Int × Int)) (cb : Int) (B : Option Addr) (m capB : Nat) (lb : List (Int × Int)) (w : World)
    (ha : PL w w.heap.size A n la) (hb : PL w w.heap.size B m lb) (hn : n ≤ 100000) (hm : m ≤ 100000) (hA : A = none → capA = 0) (hB : B = none → capB = 0) :
    Calls Try.prog 73 #[.agg #[.int .i64 ca, .slice A n capA], .agg #[.int .i64 cb, .slice B m capB]] w fun e w' => ∃ v, e = .returned v ∧ LvResN w.heap.size w' v (max ca cb) (la ++ lb) ∧ Go.RowKit.Below w.heap.size w w' := by
  obtain ⟨q, hq⟩ : ∃ q, la ++ lb = q := ⟨_, rfl⟩
  rw [hq]
  have h3 := B3.start w ca A n capA cb B m capB
  go_enter Try.func73, Try.ntmps73
  go_upto_region 1 with fail
  generalize ((w.alloc (.cells #[.int .i64 ca, .slice A n capA] 37)).alloc (.cells #[.int .i64 cb, .slice B m capB] 37)).alloc (.cells #[.int .i64 0, .slice none 0 0] 37) = W at *
  have hcall : ∀ X, Go.RowKit.Below W.heap.size W X → ∀ T, T = X.heap.size → Calls Try.prog 94 #[.slice (some ⟨T, 0, none⟩) 2 2] (X.alloc (.cells #[.slice A n capA, .slice B m capB] 35)) fun e w' =>
      ∃ C k, e = .returned (.slice C q.length k) ∧ PL w' w'.heap.size C q.length q ∧ q.length ≤ k ∧ k ≤ 9223372036854775807 ∧ (∀ b off, C = some ⟨b, off, none⟩ → W.heap.size ≤ b) ∧ (C = none → k = 0) ∧ Go.RowKit.Below W.heap.size W w' := by
    intro X hX T hT
    subst hT
    have hXa := hX.alloc hX.size (.cells #[.slice A n capA, .slice B m capB] 35)
    obtain ⟨t0, t1⟩ := two_cells X (.slice A n capA) (.slice B m capB) 35 rfl rfl
    have hbX := h3.bel.trans (hXa.mono h3.bel.size)
    refine (concat_any A n capA la B m capB lb X.heap.size _ (ha.lift hbX) (hb.lift hbX) hn hm hA hB (by simp) t0 t1).mono ?_
    rintro e w' ⟨v, rfl, hown, hbw⟩
    rw [hq] at hown
    have hown0 := hown
    obtain ⟨C, k, rfl, hlk, hkm, hP, hC⟩ := PL.of_own hown
    refine ⟨C, k, rfl, hP, hlk, by unfold maxLen at hkm; omega, fun b off e => ?_, own_none hown0, hXa.trans (hbw.mono hXa.size)⟩
    rcases hC with rfl | ⟨g, rfl, hg, _⟩
    · cases e
    · injection e with e; injection e with e; subst e
      have := hXa.size
      omega
  have Hcall := Lib.hid hcall; clear hcall hq
  have hS : ∀ w', Go.RowKit.Below W.heap.size W w' → (w'.cell? ⟨w.heap.size, 0, none⟩ = some (.int .i64 ca) ∧ w'.cell? ⟨w.heap.size, 1, none⟩ = some (.slice A n capA) ∧ w'.cell? ⟨w.heap.size + 1, 0, none⟩ = some (.int .i64 cb) ∧ w'.cell? ⟨w.heap.size + 1, 1, none⟩ = some (.slice B m capB)) := fun w' hb => ⟨(h3.go hb).a0, (h3.go hb).a1, (h3.go hb).b0, (h3.go hb).b1⟩
  have HS := Lib.hid hS; clear hS
  have H3 := Lib.hid h3
  have hz0 : Go.RowKit.Below W.heap.size W W.drew := (Go.RowKit.Below.refl _ _).drew
  have hsz := h3.size
  clear h3
  go_region_held3 (fun w' => w'.cell? ⟨w.heap.size, 0, none⟩ = some (.int .i64 ca) ∧ w'.cell? ⟨w.heap.size, 1, none⟩ = some (.slice A n capA) ∧ w'.cell? ⟨w.heap.size + 1, 0, none⟩ = some (.int .i64 cb) ∧ w'.cell? ⟨w.heap.size + 1, 1, none⟩ = some (.slice B m capB))
    (first | exact HS.out _ (by assumption) | exact HS.out _ (hz0.alloc (Nat.le_refl _) _) | exact ⟨keep_set_l (by omega) (keep_set_l (by omega) f1), keep_set_l (by omega) (keep_set_l (by omega) f2), keep_set_l (by omega) (keep_set_l (by omega) f3), keep_set_l (by omega) (keep_set_l (by omega) f4)⟩)
    (first | (go_at_call 94; refine (Hcall.out _ hz0 _ rfl).mono ?_; rintro e w5 ⟨C, k, rfl, hPC, hlk, hk, hC, hCN, hz⟩; obtain ⟨f1, f2, f3, f4⟩ := HS.out _ hz; have y0 := (H3.out.go hz).r0; have y1 := (H3.out.go hz).r1; have y2 := (H3.out.go hz).r2; have y3 := (H3.out.go hz).r3))
  all_goals
    obtain ⟨z0, z1, z2⟩ := (H3.out.go hz).put (max ca cb) (.slice C q.length k)
    go_wp2_with fail
    refine bodyPost_ret (v := .agg #[.int .i64 (max ca cb), .slice C q.length k]) (by simp [results, Try.results73, go_sem, z0, z1]) rfl ?_
    refine ⟨_, rfl, ⟨C, _, k, rfl, ?_, hlk, hk, fun b off e => by have := hC b off e; omega, hCN⟩, z2⟩
    exact hPC.set2 _ _ (fun b off e => by have := hC b off e; omega) (by simp)
theorem both_any (ca : Int) (A : Option Addr) (n capA : Nat) (la : List (Int × Int)) (cb : Int) (B : Option Addr) (m capB : Nat) (lb : List (Int × Int)) (w : World)
    (ha : PL w w.heap.size A n la) (hb : PL w w.heap.size B m lb) (hn : n ≤ 100000) (hm : m ≤ 100000) (hA : A = none → capA = 0) (hB : B = none → capB = 0) :
    Calls Try.prog 73 #[.agg #[.int .i64 ca, .slice A n capA], .agg #[.int .i64 cb, .slice B m capB]] w fun e w' => ∃ v, e = .returned v ∧ LvRes w.heap.size w' v (max ca cb) (la ++ lb) ∧ Go.RowKit.Below w.heap.size w w' :=
  (both_anyN ca A n capA la cb B m capB lb w ha hb hn hm hA hB).mono fun _ _ ⟨v, h1, h2, h3⟩ => ⟨v, h1, h2.to, h3⟩
end Go.Proofs.Ytfaebmpdianniaa

/-
  'Max' of package level: what it returns for every two levels.
-/
namespace Go.Proofs.Ytfaebmpdianniaa
open Go Go.RowKit

noncomputable def mErr (ca : Int) (la : List (Int × Int)) (cb : Int) (lb : List (Int × Int)) : Int := if vld ca la = true ∧ vld cb lb = true then cErr (max ca cb) (la ++ lb) else 4
noncomputable def mConst (ca : Int) (la : List (Int × Int)) (cb : Int) (lb : List (Int × Int)) : Int := if vld ca la = true ∧ vld cb lb = true then cConst (max ca cb) (la ++ lb) else 0
noncomputable def mVars (ca : Int) (la : List (Int × Int)) (cb : Int) (lb : List (Int × Int)) : List (Int × Int) := if vld ca la = true ∧ vld cb lb = true then cVars (max ca cb) (la ++ lb) else []
theorem m_not {ca cb : Int} {la lb : List (Int × Int)} (h : ¬ (vld ca la = true ∧ vld cb lb = true)) : mErr ca la cb lb = 4 ∧ mConst ca la cb lb = 0 ∧ mVars ca la cb lb = [] := ⟨by rw [mErr, if_neg h], by rw [mConst, if_neg h], by rw [mVars, if_neg h]⟩
theorem m_yes {ca cb : Int} {la lb : List (Int × Int)} (h : vld ca la = true ∧ vld cb lb = true) : mErr ca la cb lb = cErr (max ca cb) (la ++ lb) ∧ mConst ca la cb lb = cConst (max ca cb) (la ++ lb) ∧ mVars ca la cb lb = cVars (max ca cb) (la ++ lb) := ⟨by rw [mErr, if_pos h], by rw [mConst, if_pos h], by rw [mVars, if_pos h]⟩

set_option maxRecDepth 100000 in
set_option maxHeartbeats 4000000 in
theorem max_any (ca : Int) (A : Option Addr) (n capA : Nat) (la : List (Int × Int)) (cb : Int) (B : Option Addr) (m capB : Nat) (lb : List (Int × Int)) (w : World)
    (ha : PL w w.heap.size A n la) (hn : n ≤ capA) (hca : capA ≤ 9223372036854775807) (hA : A = none → capA = 0) (hb : PL w w.heap.size B m lb) (hm : m ≤ capB) (hcb : capB ≤ 9223372036854775807) (hB : B = none → capB = 0) :
    Calls Try.prog 59 #[.agg #[.int .i64 ca, .slice A n capA], .agg #[.int .i64 cb, .slice B m capB]] w fun e w' => ∃ v, e = .returned (.tuple #[v, .int .i64 (mErr ca la cb lb)]) ∧ LvRes w.heap.size w' v (mConst ca la cb lb) (mVars ca la cb lb) ∧ Below w.heap.size w w' := by
  have h3 := B3.start w ca A n capA cb B m capB
  have hv := valid_any ca A n capA la _ (ha.lift h3.bel) hn hca
  have hv2 := fun X (hX : Below w.heap.size w X) => valid_any cb B m capB lb X (hb.lift hX) hm hcb
  cases hv1 : vld ca la
  · obtain ⟨e1, e2, e3⟩ := m_not (ca := ca) (cb := cb) (la := la) (lb := lb) (fun h => by simp [hv1] at h)
    have Hr := Lib.hid e1; have Hcc := Lib.hid e2; have Hcv := Lib.hid e3; clear e1 e2 e3 hv2
    rw [hv1] at hv
    have Hv := Lib.hid hv; clear hv hv1
    go_enter Try.func59, Try.ntmps59
    go_wp2_with fail
    refine Hv.out.mono ?_
    rintro e w1 ⟨rfl, hb1⟩
    have hbx := h3.go hb1
    obtain ⟨z0, z1, z2⟩ := hbx.put 0 (.slice none 0 0)
    have r0 := hbx.r0
    have r1 := hbx.r1
    have r2 := hbx.r2
    have r3 := hbx.r3
    go_wp2_with fail
    refine bodyPost_ret (v := .tuple #[.agg #[.int .i64 0, .slice none 0 0], .int .i64 4]) (by simp [results, Try.results59, go_sem, z0, z1]) rfl ?_
    exact ⟨.agg #[.int .i64 0, .slice none 0 0], by rw [Hr.out], ⟨none, 0, 0, by rw [Hcc.out], by rw [Hcv.out]; exact PL.nil_ _, Nat.le_refl _, Nat.zero_le _, fun _ _ e => by cases e⟩, z2⟩
  cases hvb : vld cb lb
  · obtain ⟨e1, e2, e3⟩ := m_not (ca := ca) (cb := cb) (la := la) (lb := lb) (fun h => by simp [hvb] at h)
    have Hr := Lib.hid e1; have Hcc := Lib.hid e2; have Hcv := Lib.hid e3; clear e1 e2 e3
    rw [hv1] at hv
    rw [hvb] at hv2
    have Hv := Lib.hid hv; have Hv2 := Lib.hid hv2; clear hv hv1 hv2 hvb
    go_enter Try.func59, Try.ntmps59
    go_wp2_with fail
    refine Hv.out.mono ?_
    rintro e w1 ⟨rfl, hb1⟩
    have hbx := h3.go hb1
    have b0 := hbx.b0
    have b1 := hbx.b1
    go_wp2_with fail
    refine (Hv2.out _ hbx.bel).mono ?_
    rintro e w2 ⟨rfl, hb2⟩
    have hby := hbx.go hb2
    clear b0 b1
    obtain ⟨z0, z1, z2⟩ := hby.put 0 (.slice none 0 0)
    have r0 := hby.r0
    have r1 := hby.r1
    have r2 := hby.r2
    have r3 := hby.r3
    go_wp2_with fail
    refine bodyPost_ret (v := .tuple #[.agg #[.int .i64 0, .slice none 0 0], .int .i64 4]) (by simp [results, Try.results59, go_sem, z0, z1]) rfl ?_
    exact ⟨.agg #[.int .i64 0, .slice none 0 0], by rw [Hr.out], ⟨none, 0, 0, by rw [Hcc.out], by rw [Hcv.out]; exact PL.nil_ _, Nat.le_refl _, Nat.zero_le _, fun _ _ e => by cases e⟩, z2⟩
  · obtain ⟨e1, e2, e3⟩ := m_yes (ca := ca) (cb := cb) (la := la) (lb := lb) ⟨hv1, hvb⟩
    have Hr := Lib.hid e1; have Hcc := Lib.hid e2; have Hcv := Lib.hid e3; clear e1 e2 e3
    have hln : n ≤ 8 := by have := (vld_iff.1 hv1).len; have := ha.1; omega
    have hlm : m ≤ 8 := by have := (vld_iff.1 hvb).len; have := hb.1; omega
    rw [hv1] at hv
    rw [hvb] at hv2
    have Hv := Lib.hid hv; have Hv2 := Lib.hid hv2; clear hv hv1 hv2 hvb
    go_enter Try.func59, Try.ntmps59
    go_wp2_with fail
    refine Hv.out.mono ?_
    rintro e w1 ⟨rfl, hb1⟩
    have hbx := h3.go hb1
    have b0 := hbx.b0
    have b1 := hbx.b1
    go_wp2_with fail
    refine (Hv2.out _ hbx.bel).mono ?_
    rintro e w2 ⟨rfl, hb2⟩
    have hby := hbx.go hb2
    clear b0 b1
    have a0 := hby.a0
    have a1 := hby.a1
    have b0 := hby.b0
    have b1 := hby.b1
    have hbo := Lib.hid (both_any ca A n capA la cb B m capB lb w2 (ha.lift hby.bel) (hb.lift hby.bel) (by omega) (by omega) hA hB)
    have hlq : (la ++ lb).length ≤ 1000000 := by have := ha.1; have := hb.1; rw [List.length_append]; omega
    generalize la ++ lb = q at *
    go_wp2_with fail
    refine hbo.out.mono ?_
    rintro e w3 ⟨v, rfl, ⟨A2, m2, c2, rfl, hP2, hm2, hc2, hA2⟩, hb3⟩
    have hbz := hby.go hb3
    clear a0 a1 b0 b1 hbo
    have hcan := Lib.hid (canonical_any (max ca cb) A2 m2 c2 q w3 hP2 (by have := hP2.1; omega))
    generalize max ca cb = d at *
    go_wp2_with fail
    refine hcan.out.mono ?_
    rintro e w4 ⟨v, rfl, ⟨C, k2, k, rfl, hPC, hmk, hk, hC⟩, hb4⟩
    have hbt := hbz.go hb4
    obtain ⟨z0, z1, z2⟩ := hbt.put (cConst d q) (.slice C k2 k)
    have r0 := hbt.r0
    have r1 := hbt.r1
    have r2 := hbt.r2
    have r3 := hbt.r3
    clear hcan
    go_wp2_with fail
    refine bodyPost_ret (v := .tuple #[.agg #[.int .i64 (cConst d q), .slice C k2 k], .int .i64 (cErr d q)]) (by simp [results, Try.results59, go_sem, z0, z1]) rfl ?_
    have hs1 := hbz.size
    refine ⟨.agg #[.int .i64 (cConst d q), .slice C k2 k], by rw [Hr.out], ⟨C, k2, k, by rw [Hcc.out], ?_, hmk, hk, fun b off e => by have := hC b off e; omega⟩, z2⟩
    rw [Hcv.out]
    exact hPC.set2 _ _ (fun b off e => by have := hC b off e; omega) (by simp)
end Go.Proofs.Ytfaebmpdianniaa
