/-
  The walk of 'merged' at parts of levels.
-/
import Derived.Test.YtgbbmcfhakliiaaGreatDoorMerged
import Derived.Deep.DeepMust
namespace Go.Proofs.YtgbbmcfhakliiaaGreatDoor
open Go Go.RowKit Go.Sort Go.Shelf


/-- sorted by the first number -/
def AscW (l : List (Int × Int)) : Prop := l.Pairwise fun x y => x.1 ≤ y.1

theorem sortV_any (g n cap : Nat) (l : List (Int × Int)) (w : World) (hl : l.length = n) (hn : n ≤ 1000000) (h : w.ownsRow g 45 2 (.slice (some ⟨g, 0, none⟩) n cap) n (flat2 l)) (hg : g < w.heap.size) (B : Nat) (hB : B ≤ g) :
    Calls Tryz.prog 54 #[.slice (some ⟨g, 0, none⟩) n cap, .func (.func 37) #[] #[]] w fun e w' => e = .returned (.tuple #[]) ∧ ∃ s : List (Int × Int), s.Perm l ∧ AscW s ∧ PL w' w'.heap.size (some ⟨g, 0, none⟩) n s ∧ Go.RowKit.Below B w w' := by
  have eg : ∀ args w, (callFunc 37 args).run Tryz.prog w = .ok (.enter 37 args) w := enters_of Tryz.func37 (by kernel_rfl) rfl
  subst hl
  have hH := holds_of_own rfl h
  have hcon := AnyQ.slices_SortFunc Tryz.laySortV 2 Tryz.isAgg45 Tryz.sizeOf45 enc2 (fun _ => rfl) (fun x v hv => by simp [enc2] at hv; rcases hv with rfl | rfl <;> rfl) (fun x y => Lib.compareInt x.1 y.1) swoV 37 #[] g 0 cap l.toArray w eg (byVar_lays g 0 _ w) hH hg (by simp; omega)
  refine hcon.mono ?_
  rintro e w' ⟨he, d, m, os, hp, hs, rfl⟩
  have hsz : d.size = l.length := by simpa using hp.1
  have hperm : d.toList.Perm l := by
    have e1 : (d.extract 0 l.toArray.size).toList = d.toList := by rw [show l.toArray.size = d.size by simp [hsz]]; simp
    have e2 : (l.toArray.extract 0 l.toArray.size).toList = l := by simp
    have := hp.2.2
    rw [e1, e2] at this
    exact this
  have hasc : AscW d.toList := by
    rw [AscW, List.pairwise_iff_getElem]
    intro i j hi hj hij
    have hi' : i < d.size := by simpa using hi
    have hj' : j < d.size := by simpa using hj
    have := hs i j (Nat.zero_le _) hij (by simpa [hsz] using hj')
    rw [ltV] at this
    simp only [getElem!_pos d i hi', getElem!_pos d j hj', decide_eq_false_iff_not] at this
    simp only [Array.getElem_toList]
    omega
  refine ⟨he, d.toList, hperm, hasc, ?_, below_sort enc2 2 w g 0 m B d os hB (by omega)⟩
  have := PL.of_holds (B := (Go.Proofs.sortWorldK enc2 2 w g 0 m d os).heap.size) (holdsK_sortWorldK enc2 2 w g 0 m l.toArray d os hg hH (by simp [hsz])) (lt_sortWorldK enc2 2 w g 0 m d os hg)
  rw [hsz] at this
  exact this

/-- what stands between 'merged's two calls and its loop: a sorted permutation in memory of its own, nil and empty let in -/
theorem sortV_all (v : Value) (l : List (Int × Int)) (w0 w : World) (hn : l.length ≤ 1000000) (h : w.ownsRow w0.heap.size 45 2 v l.length (flat2 l)) (hw : Go.RowKit.Below w0.heap.size w0 w) :
    ∃ A c, v = .slice A l.length c ∧ Calls Tryz.prog 54 #[v, .func (.func 37) #[] #[]] w fun e w' => e = .returned (.tuple #[]) ∧ ∃ s : List (Int × Int), s.Perm l ∧ AscW s ∧ PL w' w'.heap.size A l.length s ∧ Go.RowKit.Below w0.heap.size w0 w' := by
  obtain ⟨A, c, rfl, hlc, hcm, hP, hA⟩ := PL.of_own h
  refine ⟨A, c, rfl, ?_⟩
  rcases Nat.eq_zero_or_pos l.length with h0 | h0
  · have hnil : l = [] := List.eq_nil_of_length_eq_zero h0
    subst hnil
    refine (AnyF.slices_SortFunc_none Tryz.laySortV A c _ w).mono ?_
    rintro e w' ⟨he, rfl⟩
    exact ⟨he, [], .nil, .nil, PL.nil_ _, hw⟩
  · rcases hA with rfl | ⟨g, rfl, hbg, hlt⟩
    · obtain ⟨b, off, hx, _⟩ := hP.2 h0
      cases hx
    · have hown : w.ownsRow g 45 2 (.slice (some ⟨g, 0, none⟩) l.length c) l.length (flat2 l) := by
        refine ⟨h.1, ?_⟩
        rcases h.2 with ⟨h', _⟩ | ⟨g', cap, cur, h', hb', rest⟩
        · simp at h'
        · have : g = g' := by injection h' with h1; injection h1 with h1; injection h1
          subst this
          exact .inr ⟨g, cap, cur, h', Nat.le_refl _, rest⟩
      refine (sortV_any g l.length c l w rfl hn hown hlt w0.heap.size hbg).mono ?_
      rintro e w' ⟨he, s, hp, hs, hP', hb⟩
      exact ⟨he, s, hp, hs, hP', hw.trans hb⟩

theorem own_base {w : World} {base base' : Nat} {e : TypeId} {size n : Nat} {v : Value} {xs : List Value} (h : w.ownsRow base e size v n xs) (hb : base' ≤ base) : w.ownsRow base' e size v n xs := by
  refine ⟨h.1, ?_⟩
  rcases h.2 with h0 | ⟨g, cap, cur, hv, hg, rest⟩
  · exact .inl h0
  · exact .inr ⟨g, cap, cur, hv, by omega, rest⟩

/-- one round's post: the frame's slot holds an own row of one step more -/
theorem len_le_of_mg (l : List (Int × Int)) : (mg l).length ≤ l.length := by
  have : ∀ (l acc : List (Int × Int)), (l.foldl mgStep acc).length ≤ acc.length + l.length := by
    intro l
    induction l with
    | nil => intro acc; simp
    | cons x r ih =>
      intro acc
      have h1 : (mgStep acc x).length ≤ acc.length + 1 := by
        unfold mgStep
        split
        · split
          · simp only [List.length_append, List.length_dropLast, List.length_singleton]; omega
          · simp
        · simp
      have := ih (mgStep acc x)
      simp only [List.foldl_cons, List.length_cons]
      omega
  simpa [mg] using this l []

theorem own_cases {w : World} {base : Nat} {e : TypeId} {v : Value} {acc : List (Int × Int)} (h : w.ownsRow base e 2 v acc.length (flat2 acc)) :
    (acc = [] ∧ ∃ A c, v = .slice A 0 c ∧ w.ownsRow base e 2 (.slice A 0 c) 0 []) ∨
    ∃ acc' y g c q, acc = acc' ++ [y] ∧ q = acc'.length ∧ v = .slice (some ⟨g, 0, none⟩) (q + 1) c ∧ w.ownsRow base e 2 (.slice (some ⟨g, 0, none⟩) (q + 1) c) (q + 1) (flat2 (acc' ++ [y])) ∧ base ≤ g ∧ g < w.heap.size ∧ q + 1 ≤ c ∧ c ≤ 9223372036854775807 ∧
      w.cell? ⟨g, q * 2, none⟩ = some (.int .i64 y.1) ∧ w.cell? ⟨g, q * 2 + 1, none⟩ = some (.int .i64 y.2) ∧ w.frozen? ⟨g, q * 2, none⟩ = false ∧ w.frozen? ⟨g, q * 2 + 1, none⟩ = false := by
  obtain ⟨A, c, rfl, hlc, hcm, hP, hA⟩ := PL.of_own h
  rcases List.eq_nil_or_concat acc with rfl | ⟨acc', y, rfl⟩
  · exact .inl ⟨rfl, A, c, rfl, h⟩
  · rw [List.concat_eq_append] at *
    refine .inr ?_
    have hlen : (acc' ++ [y]).length = acc'.length + 1 := by simp
    have hx : (acc' ++ [y])[acc'.length]? = some y := by simp
    obtain ⟨b, off, z, hAb, hb, hz, h0, h1⟩ := hP.at_ (show acc'.length < (acc' ++ [y]).length by omega)
    rw [hlen] at h hlc ⊢
    rcases hA with rfl | ⟨g, rfl, hbg, hlt⟩
    · cases hAb
    · obtain ⟨rfl, rfl⟩ : g = b ∧ off = 0 := by injection hAb with h2; injection h2 with h3 h4; exact ⟨h3, h4.symm⟩
      obtain rfl : y = z := Option.some.inj (hx.symm.trans hz)
      rw [Nat.zero_add] at h0 h1
      exact ⟨acc', y, g, c, acc'.length, rfl, rfl, rfl, h, hbg, hlt, hlc, by unfold maxLen at hcm; omega, h0, h1, h.frozenAt _, h.frozenAt _⟩

theorem own_below {w w' : World} {base : Nat} {e : TypeId} {size n : Nat} {v : Value} {xs : List Value} (h : w.ownsRow base e size v n xs) (hb : Go.RowKit.Below w.heap.size w w') : w'.ownsRow base e size v n xs := by
  refine ⟨h.1, ?_⟩
  rcases h.2 with h0 | ⟨g, cap, cur, hv, hg, hh, rest⟩
  · exact .inl h0
  · exact .inr ⟨g, cap, cur, hv, hg, (hb.block g (Array.getElem?_eq_some_iff.1 hh).1).trans hh, rest⟩
theorem news2 {w : World} {x : Int × Int} {t : TypeId} : ∀ j u, [Value.int .i64 x.1, Value.int .i64 x.2][j]? = some u → (w.alloc (.cells #[.int .i64 x.1, .int .i64 x.2] t)).cell? ((⟨w.heap.size, 0, none⟩ : Addr).add j) = some u := by
  intro j u hj
  match j, hj with
  | 0, hj => simp at hj; subst hj; simp [Addr.add]
  | 1, hj => simp at hj; subst hj; simp [Addr.add]
  | j + 2, hj => simp at hj
theorem news2_one {x : Int × Int} : ∀ u ∈ [Value.int .i64 x.1, Value.int .i64 x.2], u.oneCell' = true := by
  intro u hu
  simp only [List.mem_cons, List.not_mem_nil, or_false] at hu
  rcases hu with rfl | rfl <;> rfl

set_option maxRecDepth 100000 in
set_option maxHeartbeats 4000000 in
theorem merged_any (A : Option Addr) (n c : Nat) (l : List (Int × Int)) (w : World) (h : PL w w.heap.size A n l) (hn : n ≤ 1000000) :
    Calls Tryz.prog 36 #[.slice A n c, .func (.func 37) #[] #[], .func (.func 38) #[] #[]] w fun e w' =>
      ∃ (s : List (Int × Int)) (v : Value), s.Perm l ∧ AscW s ∧ e = .returned v ∧ w'.ownsRow w.heap.size 45 2 v (mg s).length (flat2 (mg s)) ∧ Go.RowKit.Below w.heap.size w w' := by
  obtain ⟨i0, hi, hz0, hz1, hz2⟩ := info_parts infoV
  go_enter Tryz.func36, Tryz.ntmps36
  go_wp2_with fail
  refine (cloneV_any A n c l w h hn).mono ?_
  rintro e w1 ⟨v, rfl, hown, hb1⟩
  obtain ⟨A1, c1, rfl, hsort⟩ := sortV_all v l w w1 (by have := h.1; omega) hown hb1
  rw [h.1] at hsort ⊢
  go_wp2_with fail
  refine hsort.mono ?_
  rintro e w2 ⟨rfl, s, hp, hs, hP, hb2⟩
  clear hsort hown
  go_wp2_with fail
  go_loopw [8, 19] (fun v i wr => ∃ k : Nat, k ≤ n ∧ i = .int .i64 k ∧ wr.ownsRow w2.heap.size 45 2 v (mg (s.take k)).length (flat2 (mg (s.take k))) ∧ Go.RowKit.Below w2.heap.size w2 wr) (fun _ i _ => n - (intOf i).toNat)
  case atStart => exact ⟨0, Nat.zero_le _, rfl, World.ownsRow_nil _ _ _ _, Go.RowKit.Below.refl _ _⟩
  case round =>
    obtain ⟨k, hk, rfl, hown, hbr⟩ := hrel
    by_cases hlt : k < n
    · obtain ⟨b, off, x, rfl, hbl, hx, hx0, hx1⟩ := (hP.below hbr).at_ hlt
      have hstep : Hid (mg (s.take (k + 1)) = mgStep (mg (s.take k)) x) := by rw [Hid, take_snoc hx, mg_snoc]
      have hmk : (mg (s.take k)).length ≤ k := by
        have := len_le_of_mg (s.take k)
        rw [List.length_take] at this; omega
      generalize mg (s.take k) = acc at hown hstep hmk
      have hbx : Go.RowKit.Below (wr.heap.size + 1) (wr.alloc (.cells #[.int .i64 x.1, .int .i64 x.2] 45)) (wr.alloc (.cells #[.int .i64 x.1, .int .i64 x.2] 45)) := Go.RowKit.Below.refl _ _
      rcases own_cases hown with ⟨rfl, A3, c3, rfl, hown3⟩ | ⟨acc', y, g, c3, q, rfl, hq, rfl, hown3, hbg, hgl, hqc, hc3, hy0, hy1, hf0, hf1⟩
      · clear hown
        go_wp2_with fail
        refine wp_region_bel (wr.heap.size + 1) _ (by kernel_rfl) (by kernel_rfl) hbx ?_
        repeat (go_big_quiet_step (fail))
        refine wpQuiet_nil ?_
        rintro _ ⟨pq, rfl⟩
        have hb4 := pq.h
        generalize pq.v = w4 at hb4 ⊢
        have hx4 : w4.cell? ⟨wr.heap.size, 0, none⟩ = some (.int .i64 x.1) := (hb4.cell (p := ⟨wr.heap.size, 0, none⟩) (Nat.lt_succ_self _)).trans (by simp)
        have hx5 : w4.cell? ⟨wr.heap.size, 1, none⟩ = some (.int .i64 x.2) := (hb4.cell (p := ⟨wr.heap.size, 1, none⟩) (Nat.lt_succ_self _)).trans (by simp)
        have hown4 : w4.ownsRow w2.heap.size 45 2 (.slice A3 0 c3) 0 [] := own_below (hown3.alloc (.cells #[.int .i64 x.1, .int .i64 x.2] 45)) (hb4.mono (by simp))
        have hsz5 : wr.heap.size < w4.heap.size := by have := hb4.size; simp at this; omega
        have hsz4 : w2.heap.size ≤ w4.heap.size := by have := hbr.size; omega
        have hb24 : Go.RowKit.Below w2.heap.size w2 w4 := (hbr.alloc hbr.size _).trans (hb4.mono (by have := hbr.size; omega))
        go_wp2_with (at_builtin; refine wpList_append_own _ rfl _ _ 22 rfl w2.heap.size 45 i0 (.agg #[.int .i64 0, .int .i64 0]) 2 16 Tryz.underlying22 hi hz0 hz1 hz2 rfl (by decide) (.slice A3 0 c3) 0 [] rfl (hown4.alloc _) ⟨w4.heap.size, 0, none⟩ 1 1 [.int .i64 x.1, .int .i64 x.2] rfl rfl news2 news2_one (by unfold maxLen; omega) (by omega) (by simp; omega) ?_)
        intro v' w5 hown5 hgrow _
        go_wp2_with fail
        go_roundw
        case rel => exact ⟨k + 1, by omega, by go_num, by rw [hstep.out]; exact hown5, (hb24.alloc hsz4 _).grown hgrow (by simp; omega) fun j hj => (hown4.lt j hj).1⟩
        case measure => simp [intOf]; omega
      · have hq1 : q + 1 ≤ 1000000 := by
          have : (acc' ++ [y]).length = q + 1 := by simp [hq]
          omega
        have Hq := Lib.hid hq; clear hq hown hmk
        have hne : g ≠ wr.heap.size := by omega
        have r1 : ∀ p : Bel (wr.heap.size + 1) (wr.alloc (.cells #[.int .i64 x.1, .int .i64 x.2] 45)), p.v.cell? ⟨g, q * 2, none⟩ = some (.int .i64 y.1) := Bel.cell (show g < _ by omega) ((World.cell?_alloc_lt wr _ ⟨g, q * 2, none⟩ hgl).trans hy0)
        have r2 : ∀ p : Bel (wr.heap.size + 1) (wr.alloc (.cells #[.int .i64 x.1, .int .i64 x.2] 45)), p.v.cell? ⟨g, q * 2 + 1, none⟩ = some (.int .i64 y.2) := Bel.cell (show g < _ by omega) ((World.cell?_alloc_lt wr _ ⟨g, q * 2 + 1, none⟩ hgl).trans hy1)
        have r3 : ∀ p : Bel (wr.heap.size + 1) (wr.alloc (.cells #[.int .i64 x.1, .int .i64 x.2] 45)), p.v.cell? ⟨wr.heap.size, 0, none⟩ = some (.int .i64 x.1) := Bel.cell (Nat.lt_succ_self _) (by simp)
        have r4 : ∀ p : Bel (wr.heap.size + 1) (wr.alloc (.cells #[.int .i64 x.1, .int .i64 x.2] 45)), p.v.cell? ⟨wr.heap.size, 1, none⟩ = some (.int .i64 x.2) := Bel.cell (Nat.lt_succ_self _) (by simp)
        have hcmp := fun p : Bel (wr.heap.size + 1) (wr.alloc (.cells #[.int .i64 x.1, .int .i64 x.2] 45)) => byVar_below y x p.v
        by_cases he : y.1 = x.1
        · have hce : (Lib.compareInt y.1 x.1 == 0) = true := by simp [Lib.compareInt, he]
          generalize Lib.compareInt y.1 x.1 = ce at hce hcmp
          have Hcmp := Lib.hid hcmp; clear hcmp
          have Hst : Hid (mg (s.take (k + 1)) = acc' ++ [(y.1, max y.2 x.2)]) := by rw [Hid, hstep.out, mgStep_join he]
          clear he
          go_wp2_with fail
          refine wp_region_bel (wr.heap.size + 1) _ (by kernel_rfl) (by kernel_rfl) hbx ?_
          repeat (go_big_quiet_step ((go_at_call 37; exact Calls.bel_of (by simp) (Hcmp.out _))))
          refine wpQuiet_nil ?_
          rintro _ ⟨pq, rfl⟩
          have hb4 := pq.h
          clear r1 r2 r3 r4
          generalize pq.v = w4 at hb4 ⊢
          have hb24 : Go.RowKit.Below w2.heap.size w2 w4 := (hbr.alloc hbr.size _).trans (hb4.mono (by have := hbr.size; omega))
          have hown4 : w4.ownsRow w2.heap.size 45 2 (.slice (some ⟨g, 0, none⟩) (q + 1) c3) (q + 1) (flat2 (acc' ++ [y])) := own_below (hown3.alloc (.cells #[.int .i64 x.1, .int .i64 x.2] 45)) (hb4.mono (by simp))
          have z0 : w4.cell? ⟨g, q * 2, none⟩ = some (.int .i64 y.1) := (hb4.cell (p := ⟨g, q * 2, none⟩) (show g < _ by omega)).trans ((World.cell?_alloc_lt wr _ ⟨g, q * 2, none⟩ hgl).trans hy0)
          have z1 : w4.cell? ⟨g, q * 2 + 1, none⟩ = some (.int .i64 y.2) := (hb4.cell (p := ⟨g, q * 2 + 1, none⟩) (show g < _ by omega)).trans ((World.cell?_alloc_lt wr _ ⟨g, q * 2 + 1, none⟩ hgl).trans hy1)
          have z2 : w4.cell? ⟨wr.heap.size, 0, none⟩ = some (.int .i64 x.1) := (hb4.cell (p := ⟨wr.heap.size, 0, none⟩) (Nat.lt_succ_self _)).trans (by simp)
          have z3 : w4.cell? ⟨wr.heap.size, 1, none⟩ = some (.int .i64 x.2) := (hb4.cell (p := ⟨wr.heap.size, 1, none⟩) (Nat.lt_succ_self _)).trans (by simp)
          have hg4 : g < w4.heap.size := by have := hb4.size; simp at this; omega
          clear hx0 hx1 hy0 hy1 hf0 hf1
          go_wp2_with fail
          go_region_with ((go_at_call 38; refine (greater_any y x _).mono ?_; rintro e w5 ⟨rfl, hb5⟩; have y0 := (hb5.cell (p := ⟨g, q * 2, none⟩) (by simpa using hg4)); have y1 := (hb5.cell (p := ⟨g, q * 2 + 1, none⟩) (by simpa using hg4)); simp only [World.cell?_drew, z0, z1] at y0 y1; have y2 : w5.frozen? ⟨g, q * 2, none⟩ = false := (own_below hown4 (Go.RowKit.Below.trans (Go.RowKit.Below.drew (Go.RowKit.Below.refl _ w4)) hb5)).frozenAt _; have y3 : w5.frozen? ⟨g, q * 2 + 1, none⟩ = false := (own_below hown4 (Go.RowKit.Below.trans (Go.RowKit.Below.drew (Go.RowKit.Below.refl _ w4)) hb5)).frozenAt _))
          all_goals
            have hb25 : Go.RowKit.Below w2.heap.size w2 w5 := hb24.trans ((Go.RowKit.Below.drew (Go.RowKit.Below.refl _ w4)).trans (hb5.mono (by have := hb24.size; simpa using this)))
            have hown5 := own_set2 (a := y.1) (b := max y.2 x.2) Hq.out (own_below hown4 (Go.RowKit.Below.trans (Go.RowKit.Below.drew (Go.RowKit.Below.refl _ w4)) hb5))
            clear y0 y1 y2 y3
            go_wp2_with fail
            go_roundw
            case rel =>
              refine ⟨k + 1, by omega, by go_num, ?_, (hb25.setCell hbg _).setCell hbg _⟩
              rw [Hst.out, show (acc' ++ [(y.1, max y.2 x.2)]).length = q + 1 by rw [Hq.out]; simp]
              exact hown5
            case measure => simp [intOf]; omega
        · have hce : (Lib.compareInt y.1 x.1 == 0) = false := by
            simp only [Lib.compareInt]
            split
            · rfl
            · split
              · rfl
              · omega
          generalize Lib.compareInt y.1 x.1 = ce at hce hcmp
          have Hcmp := Lib.hid hcmp; clear hcmp
          have Hst : Hid (mg (s.take (k + 1)) = acc' ++ [y] ++ [x]) := by rw [Hid, hstep.out, mgStep_push he]
          clear he
          go_wp2_with fail
          refine wp_region_bel (wr.heap.size + 1) _ (by kernel_rfl) (by kernel_rfl) hbx ?_
          repeat (go_big_quiet_step ((go_at_call 37; exact Calls.bel_of (by simp) (Hcmp.out _))))
          refine wpQuiet_nil ?_
          rintro _ ⟨pq, rfl⟩
          have hb4 := pq.h
          clear r1 r2 r3 r4
          generalize pq.v = w4 at hb4 ⊢
          have hb24 : Go.RowKit.Below w2.heap.size w2 w4 := (hbr.alloc hbr.size _).trans (hb4.mono (by have := hbr.size; omega))
          have hown4 : w4.ownsRow w2.heap.size 45 2 (.slice (some ⟨g, 0, none⟩) (q + 1) c3) (q + 1) (flat2 (acc' ++ [y])) := own_below (hown3.alloc (.cells #[.int .i64 x.1, .int .i64 x.2] 45)) (hb4.mono (by simp))
          have z2 : w4.cell? ⟨wr.heap.size, 0, none⟩ = some (.int .i64 x.1) := (hb4.cell (p := ⟨wr.heap.size, 0, none⟩) (Nat.lt_succ_self _)).trans (by simp)
          have z3 : w4.cell? ⟨wr.heap.size, 1, none⟩ = some (.int .i64 x.2) := (hb4.cell (p := ⟨wr.heap.size, 1, none⟩) (Nat.lt_succ_self _)).trans (by simp)
          have hsz5 : wr.heap.size < w4.heap.size := by have := hb4.size; simp at this; omega
          have hsz4 : w2.heap.size ≤ w4.heap.size := hb24.size
          clear hx0 hx1 hy0 hy1 hf0 hf1
          go_wp2_with (at_builtin; refine wpList_append_own _ rfl _ _ 22 rfl w2.heap.size 45 i0 (.agg #[.int .i64 0, .int .i64 0]) 2 16 Tryz.underlying22 hi hz0 hz1 hz2 rfl (by decide) (.slice (some ⟨g, 0, none⟩) (q + 1) c3) (q + 1) (flat2 (acc' ++ [y])) rfl (hown4.alloc _) ⟨w4.heap.size, 0, none⟩ 1 1 [.int .i64 x.1, .int .i64 x.2] rfl rfl news2 news2_one (by unfold maxLen; omega) (by omega) (by simp; omega) ?_)
          intro v' w5 hown5 hgrow _
          go_wp2_with fail
          go_roundw
          case rel =>
            refine ⟨k + 1, by omega, by go_num, ?_, (hb24.alloc hsz4 _).grown hgrow (by simp; omega) fun j hj => (hown4.lt j hj).1⟩
            rw [Hst.out, show (acc' ++ [y] ++ [x]).length = q + 1 + 1 by rw [Hq.out]; simp, flat2_app _ [x], flat2_one]
            exact hown5
          case measure => simp [intOf]; omega
    · have hfull : s.take k = s := List.take_of_length_le (by have := hP.1; omega)
      rw [hfull] at hown
      clear hfull
      have hb : Go.RowKit.Below w.heap.size w wr := hb2.trans (hbr.mono hb2.size)
      go_wp2_with fail
      go_ret
      exact ⟨s, _, hp, hs, rfl, own_base hown hb2.size, hb⟩
end Go.Proofs.YtgbbmcfhakliiaaGreatDoor
