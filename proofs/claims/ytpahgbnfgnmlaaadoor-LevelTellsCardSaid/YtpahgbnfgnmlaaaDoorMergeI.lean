/-
  'merged' of package level at numbers: sorted, each once, in memory of its own.
-/
import Derived.Test.YtpahgbnfgnmlaaaDoorInts
namespace Go.Proofs.YtpahgbnfgnmlaaaDoor
open Go Go.RowKit Go.Sort Go.Shelf

theorem below_sortI (w : World) (blk off n B : Nat) (d : Array Int) (os : Array Obj) (hB : B ≤ blk) (hw : B ≤ w.heap.size) : Go.RowKit.Below B w (Go.Proofs.sortWorld (Value.int .i64) w blk off n d os) := by
  unfold Go.Proofs.sortWorld
  refine below_grow' ?_ os (by rw [Go.Sort.size_putRow]; exact hw)
  refine ⟨rfl, rfl, rfl, by rw [Go.Sort.size_putRow]; exact Nat.le_refl _, fun j hj => ?_⟩
  show ((Sort.ahead w n).heap.modify blk _)[j]? = _
  rw [Array.getElem?_modify, if_neg (by omega)]
  rfl
theorem sortI_any (g n cap : Nat) (l : List Int) (w : World) (hl : l.length = n) (hn : n ≤ 1000000) (h : w.ownsRow g 3 1 (.slice (some ⟨g, 0, none⟩) n cap) n (int1 l)) (hg : g < w.heap.size) (B : Nat) (hB : B ≤ g) :
    Calls Tryd.prog 59 #[.slice (some ⟨g, 0, none⟩) n cap, .func (.func 41) #[] #[]] w fun e w' => e = .returned (.tuple #[]) ∧ ∃ s : List Int, s.Perm l ∧ AscI s ∧ IL w' w'.heap.size (some ⟨g, 0, none⟩) n s ∧ Go.RowKit.Below B w w' := by
  have eg : ∀ args w, (callFunc 41 args).run Tryd.prog w = .ok (.enter 41 args) w := enters_of Tryd.func41 (by kernel_rfl) rfl
  subst hl
  have hH := holdsI_of_own rfl h
  have hcon := Any.slices_SortFunc Tryd.laySortW (Value.int .i64) (fun _ => rfl) Lib.compareInt swoI 41 #[] g 0 cap l.toArray w eg (compare_lays g 0 _ w) hH hg (by simp; omega)
  refine hcon.mono ?_
  rintro e w' ⟨he, d, m, os, hp, hs, rfl⟩
  have hsz : d.size = l.length := by simpa using hp.1
  have hperm : d.toList.Perm l := by
    have e1 : (d.extract 0 l.toArray.size).toList = d.toList := by rw [show l.toArray.size = d.size by simp [hsz]]; simp
    have e2 : (l.toArray.extract 0 l.toArray.size).toList = l := by simp
    have := hp.2.2
    rw [e1, e2] at this
    exact this
  have hasc : AscI d.toList := by
    rw [AscI, List.pairwise_iff_getElem]
    intro i j hi hj hij
    have hi' : i < d.size := by simpa using hi
    have hj' : j < d.size := by simpa using hj
    have := hs i j (Nat.zero_le _) hij (by simpa [hsz] using hj')
    rw [ltI] at this
    simp only [getElem!_pos d i hi', getElem!_pos d j hj', decide_eq_false_iff_not] at this
    simp only [Array.getElem_toList]
    omega
  refine ⟨he, d.toList, hperm, hasc, ?_, below_sortI w g 0 m B d os hB (by omega)⟩
  have := IL.of_holds (B := (Go.Proofs.sortWorld (Value.int .i64) w g 0 m d os).heap.size) (Go.Proofs.holds_sortWorld (Value.int .i64) w g 0 m l.toArray d os hg hH (by simp [hsz])) (Go.Proofs.lt_sortWorld (Value.int .i64) w g 0 m d os hg)
  rw [hsz] at this
  exact this
theorem sortI_all (v : Value) (l : List Int) (w0 w : World) (hn : l.length ≤ 1000000) (h : w.ownsRow w0.heap.size 3 1 v l.length (int1 l)) (hw : Go.RowKit.Below w0.heap.size w0 w) :
    ∃ A c, v = .slice A l.length c ∧ Calls Tryd.prog 59 #[v, .func (.func 41) #[] #[]] w fun e w' => e = .returned (.tuple #[]) ∧ ∃ s : List Int, s.Perm l ∧ AscI s ∧ IL w' w'.heap.size A l.length s ∧ Go.RowKit.Below w0.heap.size w0 w' := by
  obtain ⟨A, c, rfl, hlc, hcm, hP, hA⟩ := IL.of_own h
  refine ⟨A, c, rfl, ?_⟩
  rcases Nat.eq_zero_or_pos l.length with h0 | h0
  · have hnil : l = [] := List.eq_nil_of_length_eq_zero h0
    subst hnil
    refine (AnyF.slices_SortFunc_none Tryd.laySortI A c _ w).mono ?_
    rintro e w' ⟨he, rfl⟩
    exact ⟨he, [], .nil, .nil, ⟨rfl, fun h => absurd h (by simp)⟩, hw⟩
  · rcases hA with rfl | ⟨g, rfl, hbg, hlt⟩
    · obtain ⟨b, off, hx, _⟩ := hP.2 h0
      cases hx
    · have hown : w.ownsRow g 3 1 (.slice (some ⟨g, 0, none⟩) l.length c) l.length (int1 l) := by
        refine ⟨h.1, ?_⟩
        rcases h.2 with ⟨h', _⟩ | ⟨g', cap, cur, h', hb', rest⟩
        · simp at h'
        · have : g = g' := by injection h' with h1; injection h1 with h1; injection h1
          subst this
          exact .inr ⟨g, cap, cur, h', Nat.le_refl _, rest⟩
      refine (sortI_any g l.length c l w rfl hn hown hlt w0.heap.size hbg).mono ?_
      rintro e w' ⟨he, s, hp, hs, hP', hb⟩
      exact ⟨he, s, hp, hs, hP', hw.trans hb⟩

def mgIStep (acc : List Int) (x : Int) : List Int := match acc.getLast? with | some y => if y = x then acc else acc ++ [x] | none => acc ++ [x]
def mgI (l : List Int) : List Int := l.foldl mgIStep []
theorem mgI_snoc (l : List Int) (x : Int) : mgI (l ++ [x]) = mgIStep (mgI l) x := by unfold mgI; rw [List.foldl_append]; rfl
theorem mgIStep_nil (x : Int) : mgIStep [] x = [x] := rfl
theorem mgIStep_join (acc : List Int) (x : Int) : mgIStep (acc ++ [x]) x = acc ++ [x] := by unfold mgIStep; rw [List.getLast?_append]; simp
theorem mgIStep_push {acc : List Int} {x y : Int} (h : ¬ y = x) : mgIStep (acc ++ [y]) x = acc ++ [y] ++ [x] := by unfold mgIStep; rw [List.getLast?_append]; simp [h]
theorem mgI_len (l : List Int) : (mgI l).length ≤ l.length := by
  have : ∀ (l acc : List Int), (l.foldl mgIStep acc).length ≤ acc.length + l.length := by
    intro l
    induction l with
    | nil => intro acc; simp
    | cons x r ih =>
      intro acc
      have h1 : (mgIStep acc x).length ≤ acc.length + 1 := by
        unfold mgIStep
        split
        · split
          · omega
          · simp
        · simp
      have := ih (mgIStep acc x)
      simp only [List.foldl_cons, List.length_cons]
      omega
  simpa [mgI] using this l []
theorem mgI_mg (l : List Int) : mg (l.map fun v => (v, (0 : Int))) = (mgI l).map fun v => (v, 0) := by
  have key : ∀ (l acc : List Int), (l.map fun v => (v, (0 : Int))).foldl mgStep (acc.map fun v => (v, 0)) = (l.foldl mgIStep acc).map fun v => (v, 0) := by
    intro l
    induction l with
    | nil => intro acc; rfl
    | cons x r ih =>
      intro acc
      have h1 : mgStep (acc.map fun v => (v, (0 : Int))) (x, 0) = (mgIStep acc x).map fun v => (v, 0) := by
        rcases List.eq_nil_or_concat acc with rfl | ⟨a, y, rfl⟩
        · rfl
        · rw [List.concat_eq_append, List.map_append]
          show mgStep (a.map (fun v => (v, (0 : Int))) ++ [(y, 0)]) (x, 0) = _
          by_cases e : y = x
          · subst e
            rw [mgStep_join rfl, mgIStep_join]; simp
          · rw [mgStep_push e, mgIStep_push e]; simp
      simp only [List.map_cons, List.foldl_cons]
      rw [h1, ih]
  exact key l []
/-- the variables of a level, each once, in order -/
def varsV (l : List (Int × Int)) : List Int := (canonV (l.map fun x => (x.1, 0))).map (·.1)
theorem mgI_vars {l : List (Int × Int)} {s : List Int} (hp : s.Perm (l.map (·.1))) (hs : AscI s) : mgI s = varsV l := by
  have h1 : (s.map fun v => (v, (0 : Int))).Perm (l.map fun x => (x.1, 0)) := by
    have := hp.map fun v => (v, (0 : Int))
    rw [List.map_map] at this
    exact this
  have h2 : (s.map fun v => (v, (0 : Int))).Pairwise fun x y => x.1 ≤ y.1 := by
    rw [List.pairwise_map]; exact hs
  have h3 := mg_eq h1 h2
  rw [mgI_mg] at h3
  rw [varsV, ← h3, List.map_map]
  simp [Function.comp_def]

theorem own_belowI {w w' : World} {base : Nat} {e : TypeId} {size n : Nat} {v : Value} {xs : List Value} (h : w.ownsRow base e size v n xs) (hb : Go.RowKit.Below w.heap.size w w') : w'.ownsRow base e size v n xs := own_below h hb
theorem own_casesI {w : World} {base : Nat} {e : TypeId} {v : Value} {acc : List Int} (h : w.ownsRow base e 1 v acc.length (int1 acc)) :
    (acc = [] ∧ ∃ A c, v = .slice A 0 c ∧ w.ownsRow base e 1 (.slice A 0 c) 0 []) ∨
    ∃ acc' y g c q, acc = acc' ++ [y] ∧ q = acc'.length ∧ v = .slice (some ⟨g, 0, none⟩) (q + 1) c ∧ w.ownsRow base e 1 (.slice (some ⟨g, 0, none⟩) (q + 1) c) (q + 1) (int1 (acc' ++ [y])) ∧ base ≤ g ∧ g < w.heap.size ∧ q + 1 ≤ c ∧ c ≤ 9223372036854775807 ∧
      w.cell? ⟨g, q, none⟩ = some (.int .i64 y) ∧ w.frozen? ⟨g, q, none⟩ = false := by
  obtain ⟨A, c, rfl, hlc, hcm, hP, hA⟩ := IL.of_own h
  rcases List.eq_nil_or_concat acc with rfl | ⟨acc', y, rfl⟩
  · exact .inl ⟨rfl, A, c, rfl, h⟩
  · rw [List.concat_eq_append] at *
    refine .inr ?_
    have hlen : (acc' ++ [y]).length = acc'.length + 1 := by simp
    have hx : (acc' ++ [y])[acc'.length]? = some y := by simp
    obtain ⟨b, off, z, hAb, hb, hz, h0⟩ := hP.at_ (show acc'.length < (acc' ++ [y]).length by omega)
    rw [hlen] at h hlc ⊢
    rcases hA with rfl | ⟨g, rfl, hbg, hlt⟩
    · cases hAb
    · obtain ⟨rfl, rfl⟩ : g = b ∧ off = 0 := by injection hAb with h2; injection h2 with h3 h4; exact ⟨h3, h4.symm⟩
      obtain rfl : y = z := Option.some.inj (hx.symm.trans hz)
      rw [Nat.zero_add] at h0
      exact ⟨acc', y, g, c, acc'.length, rfl, rfl, rfl, h, hbg, hlt, hlc, by unfold maxLen at hcm; omega, h0, h.frozenAt _⟩
theorem own_setI {w : World} {base : Nat} {e : TypeId} {g cap q : Nat} {acc : List Int} {y : Int} (hq : q = acc.length) (h : w.ownsRow base e 1 (.slice (some ⟨g, 0, none⟩) (q + 1) cap) (q + 1) (int1 (acc ++ [y]))) :
    (w.setCell ⟨g, q, none⟩ (.int .i64 y)).ownsRow base e 1 (.slice (some ⟨g, 0, none⟩) (q + 1) cap) (q + 1) (int1 (acc ++ [y])) := by
  subst hq
  have h1 := (h.stored acc.length (.int .i64 y)).1
  have e1 : (int1 (acc ++ [y])).set acc.length (.int .i64 y) = int1 (acc ++ [y]) := by
    rw [int1_app, ← int1_len acc, List.set_append_right _ _ (by omega), Nat.sub_self]; rfl
  rw [e1] at h1
  exact h1
theorem newsI {w : World} {x : Int} {t : TypeId} {k : Nat} (hk : k = w.heap.size) : ∀ j u, [Value.int .i64 x][j]? = some u → (w.alloc (.cells #[.int .i64 x] t)).cell? ((⟨k, 0, none⟩ : Addr).add j) = some u := by
  subst hk
  intro j u hj
  match j, hj with
  | 0, hj => simp at hj; subst hj; simp [Addr.add]
  | j + 1, hj => simp at hj
theorem newsI_one {x : Int} : ∀ u ∈ [Value.int .i64 x], u.oneCell' = true := by
  intro u hu
  simp only [List.mem_cons, List.not_mem_nil, or_false] at hu
  subst hu; rfl
theorem first_any (x y : Int) (W : World) : Calls Tryd.prog 42 #[.int .i64 x, .int .i64 y] W fun e w' => e = .returned (.int .i64 x) ∧ w' = W := by
  go_enter Tryd.func42, Tryd.ntmps42
  go_wp2_with fail
  go_ret
  exact ⟨rfl, rfl⟩
end Go.Proofs.YtpahgbnfgnmlaaaDoor
