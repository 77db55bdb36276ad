/-
  CirAll: the texts GCirM, GCirW, one behind another.
-/
import Derived.Test.YtapajkfnpkekdaaClsAll
import Derived.Test.YtapajkfnpkekdaaExplAll
import Derived.Test.YtapajkfnpkekdaaChAll
/-
  A ring of constraints: all are equal; with one step of 1 there is no solution, and each constraint is needed for that. No walk in this text.
-/
namespace Go.Proofs.Ytapajkfnpkekdaa
open Go

/-- the next one round -/
def nxR (n i : Nat) : Nat := if i + 1 < n then i + 1 else 0
theorem nxR_lt {n i : Nat} (hn : 0 < n) : nxR n i < n := by unfold nxR; split <;> omega
theorem nxR_mod {n i : Nat} (hi : i < n) : (i + 1) % n = nxR n i := by
  unfold nxR
  by_cases h : i + 1 < n
  · rw [if_pos h, Nat.mod_eq_of_lt h]
  · rw [if_neg h, show i + 1 = n by omega, Nat.mod_self]
/-- a ring, with steps D -/
def rgS (D : Nat → Int) (n m : Nat) : List LCn := (List.range m).map fun i : Nat => lnk i (D i) (nxR n i)
theorem rgS_len (D : Nat → Int) (n m : Nat) : (rgS D n m).length = m := by simp [rgS]
theorem rgS_at {D : Nat → Int} {n m i : Nat} (hi : i < m) : (rgS D n m)[i]? = some (lnk i (D i) (nxR n i)) := by simp [rgS, hi]
theorem rgS_mem {D : Nat → Int} {n m : Nat} {c : LCn} : c ∈ rgS D n m ↔ ∃ i, i < m ∧ c = lnk i (D i) (nxR n i) := by
  unfold rgS
  rw [List.mem_map]
  constructor
  · rintro ⟨i, hi, rfl⟩; exact ⟨i, List.mem_range.1 hi, rfl⟩
  · rintro ⟨i, hi, rfl⟩; exact ⟨i, List.mem_range.2 hi, rfl⟩
theorem rgS_gvld {D : Nat → Int} {n : Nat} (h1 : 1 ≤ n) (hn : n ≤ 1200) (hD : ∀ i, 0 ≤ D i ∧ D i ≤ 1000) : gvld (n : Int) (rgS D n n) = true := by
  unfold gvld
  rw [Bool.and_eq_true, decide_eq_true_eq, rgS_len]
  refine ⟨by omega, List.all_eq_true.2 fun c hc => ?_⟩
  obtain ⟨i, hi, rfl⟩ := rgS_mem.1 hc
  have := nxR_lt (n := n) (i := i) (by omega)
  exact lnk_con hn (by omega) (hD i) (by omega)
theorem lnk_hol2 {n i t : Nat} {d : Int} {y : Nat → Int} : (∀ e ∈ edgC n (lnk i d t) 0, hol y e) ↔ y n ≤ y t ∧ y i + d ≤ y t := by
  have h := lnk_hol (n := n) (f := i) (d := d) (t := t) (y := y)
  rw [Int.toNat_natCast, Int.toNat_natCast] at h
  exact h
theorem rgS_sat {D : Nat → Int} {n m : Nat} {y : Nat → Int} : Sat (fun e => e ∈ esA n (rgS D n m)) y ↔ (∀ u, u < n → y n ≤ y u) ∧ ∀ i, i < m → y n ≤ y (nxR n i) ∧ y i + D i ≤ y (nxR n i) := by
  rw [sat_es]
  refine and_congr Iff.rfl ⟨fun h i hi => lnk_hol2.1 (h _ (rgS_mem.2 ⟨i, hi, rfl⟩)), fun h c hc => ?_⟩
  obtain ⟨i, hi, rfl⟩ := rgS_mem.1 hc
  exact lnk_hol2.2 (h i hi)
theorem nxR_in {n i : Nat} (h : i + 1 < n) : nxR n i = i + 1 := if_pos h
theorem nxR_last {n : Nat} (h : 0 < n) : nxR n (n - 1) = 0 := if_neg (by omega)
/-- how far one has come -/
theorem ring_up {D : Nat → Int} {n : Nat} {y : Nat → Int} (hD : ∀ i, 0 ≤ D i) (h : ∀ i, i < n → y i + D i ≤ y (nxR n i)) (a : Nat) : ∀ b, a ≤ b → b < n → ∀ k, a ≤ k → k < b → y a + D k ≤ y b := by
  intro b
  induction b with
  | zero => intro _ _ k _ h3; omega
  | succ b ih =>
    intro h1 h2 k h3 h4
    have h5 := h b (by omega)
    rw [nxR_in h2] at h5
    have h6 := hD b
    by_cases hk : k = b
    · subst hk
      by_cases ha : a = k
      · subst ha; exact h5
      · have h7 := ih (by omega) (by omega) a (Nat.le_refl _) (by omega)
        have h8 := hD a
        omega
    · have h7 := ih (by omega) (by omega) k h3 (by omega)
      omega
theorem ring_le {D : Nat → Int} {n : Nat} {y : Nat → Int} (hD : ∀ i, 0 ≤ D i) (h : ∀ i, i < n → y i + D i ≤ y (nxR n i)) {a b : Nat} (hab : a ≤ b) (hb : b < n) : y a ≤ y b := by
  by_cases e : a = b
  · subst e; exact Int.le_refl _
  · have h1 := ring_up hD h a b hab hb a (Nat.le_refl _) (by omega)
    have h2 := hD a
    omega
theorem ring_eq {D : Nat → Int} {n : Nat} (hn : 0 < n) (hD : ∀ i, 0 ≤ D i) {v x : Nat} (hv : v < n) (hx : x < n) : EqS (esA n (rgS D n n)) v x := fun y hy => by
  have h := (rgS_sat (D := D) (n := n) (m := n) (y := y)).1 hy
  have h1 : ∀ i, i < n → y i + D i ≤ y (nxR n i) := fun i hi => (h.2 i hi).2
  have h2 := h1 (n - 1) (by omega)
  rw [nxR_last hn] at h2
  have h3 := hD (n - 1)
  have h4 := ring_le hD h1 (Nat.zero_le v) hv
  have h5 := ring_le hD h1 (Nat.zero_le x) hx
  have h6 := ring_le hD h1 (show v ≤ n - 1 by omega) (by omega)
  have h7 := ring_le hD h1 (show x ≤ n - 1 by omega) (by omega)
  omega
theorem cls_all {n : Nat} (hn : 2 ≤ n) : cls (fun _ _ => true) n n = [List.range n] := by
  have hm : ∀ u, mem1 (fun _ _ => true) u n = List.range n := fun u => by unfold mem1; exact List.filter_eq_self.2 fun _ _ => rfl
  unfold cls
  have e : (List.range n).filter (fun u => fst1 (fun _ _ => true) u && decide (1 < (mem1 (fun _ _ => true) u n).length)) = [0] := by
    obtain ⟨m, rfl⟩ : ∃ m, n = m + 1 := ⟨n - 1, by omega⟩
    rw [List.range_succ_eq_map, List.filter_cons, if_pos]
    · congr 1
      rw [List.filter_eq_nil_iff]
      intro a ha h2
      obtain ⟨b, _, rfl⟩ := List.mem_map.1 ha
      rw [Bool.and_eq_true] at h2
      have h3 := fst1_iff.1 h2.1 0 (by omega)
      cases h3
    · rw [hm, List.length_range, decide_eq_true (by omega)]
      rfl
  rw [e, List.map_singleton, hm]
theorem cls_ring {D : Nat → Int} {n : Nat} (hn : 2 ≤ n) (hD : ∀ i, 0 ≤ D i) : cls (eqN (esA n (rgS D n n))) n n = [List.range n] := by
  rw [← cls_all hn]
  exact cls_congr fun v x hv hx => eqN_iff.2 (ring_eq (by omega) hD hv hx)
/-- with a step of 1 somewhere there is no solution -/
theorem ring_no {D : Nat → Int} {n k : Nat} (hk : k < n) (hD : ∀ i, 0 ≤ D i) (h1 : D k = 1) {y : Nat → Int} (hy : Sat (fun e => e ∈ esA n (rgS D n n)) y) : False := by
  have h := (rgS_sat (D := D) (n := n) (m := n) (y := y)).1 hy
  have h2 : ∀ i, i < n → y i + D i ≤ y (nxR n i) := fun i hi => (h.2 i hi).2
  have h3 := h2 (n - 1) (by omega)
  rw [nxR_last (by omega)] at h3
  have h4 := hD (n - 1)
  by_cases hkn : k = n - 1
  · subst hkn
    have h5 := ring_le hD h2 (Nat.zero_le (n - 1)) (by omega)
    omega
  · have h5 := ring_up hD h2 0 (n - 1) (Nat.zero_le _) (by omega) k (Nat.zero_le _) (by omega)
    omega
/-- without one of the constraints there is one -/
theorem ring_cut {D : Nat → Int} {n k i : Nat} (hi : i < n) (h1 : ∀ j, D j = if j = k then 1 else 0) {l : List Nat} (hl : i ∉ l) : ∃ y, Sat (fun e => e ∈ esA n (pick (rgS D n n) l)) y := by
  let od : Nat → Nat := fun u => if u ≤ i then u + n - (i + 1) else u - (i + 1)
  refine ⟨fun u => if u < n ∧ od k < od u ∧ k ≠ i then 1 else 0, ?_⟩
  rw [sat_es]
  refine ⟨fun u hu => ?_, fun c hc => ?_⟩
  · try dsimp only
    rw [if_neg (by omega)]
    split <;> omega
  · obtain ⟨j, hj, hcj⟩ := pick_mem.1 hc
    have hjn : j < n := by have := (List.getElem?_eq_some_iff.1 hcj).1; rwa [rgS_len] at this
    rw [rgS_at hjn] at hcj
    cases hcj
    have hji : j ≠ i := fun e => hl (e ▸ hj)
    refine lnk_hol2.2 ⟨?_, ?_⟩
    · try dsimp only
      rw [if_neg (by omega)]
      split <;> omega
    · rw [h1]
      have hx : nxR n j < n := nxR_lt (by omega)
      have hod : od (nxR n j) = od j + 1 := by
        show (if nxR n j ≤ i then nxR n j + n - (i + 1) else nxR n j - (i + 1)) = (if j ≤ i then j + n - (i + 1) else j - (i + 1)) + 1
        unfold nxR
        by_cases a1 : j + 1 < n
        · rw [if_pos a1]
          by_cases a2 : j ≤ i
          · rw [if_pos a2, if_pos (by omega)]; omega
          · rw [if_neg a2, if_neg (by omega)]; omega
        · rw [if_neg a1, if_pos (Nat.zero_le _), if_neg (by omega)]; omega
      try dsimp only
      by_cases ek : j = k
      · subst ek
        rw [if_neg (fun h => Nat.lt_irrefl _ h.2.1), if_pos rfl, if_pos ⟨hx, by omega, hji⟩]
        omega
      · rw [if_neg ek]
        by_cases a1 : j < n ∧ od k < od j ∧ k ≠ i
        · rw [if_pos a1, if_pos ⟨hx, by omega, a1.2.2⟩]
          omega
        · rw [if_neg a1]
          split <;> omega
/-- rising numbers with nothing left out -/
theorem rising_all : ∀ (l : List Nat) (a b : Nat), l.Pairwise (· < ·) → (∀ x, x ∈ l ↔ a ≤ x ∧ x < b) → l = List.range' a (b - a)
  | [], a, b, _, h => by
    have : b ≤ a := Classical.byContradiction fun hn => by
      have := (h a).2 ⟨Nat.le_refl _, by omega⟩
      cases this
    rw [show b - a = 0 by omega]
    rfl
  | x :: l, a, b, hp, h => by
    obtain ⟨hp1, hp2⟩ := List.pairwise_cons.1 hp
    have hx := (h x).1 List.mem_cons_self
    have ha := (h a).2 ⟨Nat.le_refl _, by omega⟩
    obtain rfl : x = a := by
      rcases List.mem_cons.1 ha with e | e
      · exact e.symm
      · have := hp1 a e; omega
    rw [show b - x = (b - (x + 1)) + 1 by omega, List.range'_succ]
    congr 1
    refine rising_all l (x + 1) b hp2 fun z => ?_
    constructor
    · intro hz
      have h1 := hp1 z hz
      have h2 := (h z).1 (List.mem_cons_of_mem _ hz)
      omega
    · intro hz
      rcases List.mem_cons.1 ((h z).2 (by omega)) with e | e
      · omega
      · exact e
theorem ring_core {D : Nat → Int} {n k : Nat} {core : List Nat} (h1 : ∀ j, D j = if j = k then 1 else 0) (hc : CoreOf n (rgS D n n) core) (hs : core.Pairwise (· < ·)) : core = List.range n := by
  rw [List.range_eq_range']
  have := rising_all core 0 n hs fun x => ⟨fun hx => ⟨Nat.zero_le _, by have := hc.lt x hx; rwa [rgS_len] at this⟩, fun hx => Classical.byContradiction fun hn => by
    obtain ⟨y, hy⟩ := ring_cut (D := D) (k := k) hx.2 h1 hn
    exact hc.no y hy⟩
  rw [this, Nat.sub_zero]
end Go.Proofs.Ytapajkfnpkekdaa

/-
  A row of constraints made by a loop, in general; a store into one of them.
-/
namespace Go.Proofs.Ytapajkfnpkekdaa
open Go Go.RowKit

/-- a variable, a number, and a variable: one constraint -/
abbrev LkC := Int × Int × Int
def lkC3 (x : LkC) : LCn := lnk x.1 x.2.1 x.2.2
/-- such constraints as cells -/
def RVc (w : World) (xs : List Value) (ks : List LkC) : Prop :=
  xs.length = ks.length * 4 ∧ ∀ i k, ks[i]? = some k → ∃ q1 q2, xs[i * 4]? = some (.int .i64 0) ∧ xs[i * 4 + 1]? = some (.slice (some ⟨q1, 0, none⟩) 1 1) ∧ xs[i * 4 + 2]? = some (.int .i64 0) ∧ xs[i * 4 + 3]? = some (.slice (some ⟨q2, 0, none⟩) 1 1) ∧ w.heap[q1]? = some (.cells #[.int .i64 k.1, .int .i64 k.2.1] 27) ∧ w.heap[q2]? = some (.cells #[.int .i64 k.2.2, .int .i64 0] 27)
theorem RVc.keep {w w' : World} {xs : List Value} {ks : List LkC} (h : RVc w xs ks) (k : KV w w') : RVc w' xs ks :=
  ⟨h.1, fun i x hi => by
    obtain ⟨q1, q2, h0, h1, h2, h3, h4, h5⟩ := h.2 i x hi
    exact ⟨q1, q2, h0, h1, h2, h3, k _ _ h4, k _ _ h5⟩⟩
theorem RVc.nil (w : World) : RVc w [] [] := ⟨rfl, fun i k hi => by simp at hi⟩
theorem RVc.cv {w : World} {xs : List Value} {ks : List LkC} (h : RVc w xs ks) : CV w w.heap.size xs (ks.map lkC3) := by
  refine ⟨by rw [List.length_map, h.1], fun i c hc => ?_⟩
  rw [List.getElem?_map] at hc
  cases hk : ks[i]? with
  | none => rw [hk] at hc; cases hc
  | some k =>
    rw [hk] at hc
    obtain rfl := Option.some.inj hc
    obtain ⟨q1, q2, h0, h1, h2, h3, h4, h5⟩ := h.2 i k hk
    exact ⟨_, _, h0, h1, h2, h3, lv_ok h4, lv_ok h5⟩
theorem RVc.snoc {w : World} {xs : List Value} {ks : List LkC} {k : LkC} {q1 q2 : Nat} (h : RVc w xs ks) (h4 : w.heap[q1]? = some (.cells #[.int .i64 k.1, .int .i64 k.2.1] 27)) (h5 : w.heap[q2]? = some (.cells #[.int .i64 k.2.2, .int .i64 0] 27)) :
    RVc w (xs ++ [.int .i64 0, .slice (some ⟨q1, 0, none⟩) 1 1, .int .i64 0, .slice (some ⟨q2, 0, none⟩) 1 1]) (ks ++ [k]) := by
  have hl := h.1
  refine ⟨by simp [hl]; omega, fun i x hi => ?_⟩
  by_cases hij : i < ks.length
  · rw [List.getElem?_append_left hij] at hi
    obtain ⟨r1, r2, g0, g1, g2, g3, g4, g5⟩ := h.2 i x hi
    refine ⟨r1, r2, ?_, ?_, ?_, ?_, g4, g5⟩ <;> (rw [List.getElem?_append_left (by omega)]; assumption)
  · obtain rfl : i = ks.length := by
      have := (List.getElem?_eq_some_iff.1 hi).1
      simp at this
      omega
    simp at hi
    subst hi
    refine ⟨q1, q2, ?_, ?_, ?_, ?_, h4, h5⟩
    · rw [List.getElem?_append_right (by omega), show ks.length * 4 - xs.length = 0 by omega]; rfl
    · rw [List.getElem?_append_right (by omega), show ks.length * 4 + 1 - xs.length = 1 by omega]; rfl
    · rw [List.getElem?_append_right (by omega), show ks.length * 4 + 2 - xs.length = 2 by omega]; rfl
    · rw [List.getElem?_append_right (by omega), show ks.length * 4 + 3 - xs.length = 3 by omega]; rfl
/-- the left side of one constraint is put anew -/
theorem RVc.put {w : World} {xs : List Value} {ks : List LkC} {k : LkC} {i q : Nat} {p : Int} (h : RVc w xs ks) (hi : ks[i]? = some k) (hq : w.heap[q]? = some (.cells #[.int .i64 k.1, .int .i64 p] 27)) :
    RVc w ((xs.set (i * 4) (.int .i64 0)).set (i * 4 + 1) (.slice (some ⟨q, 0, none⟩) 1 1)) (ks.set i (k.1, p, k.2.2)) := by
  have hl := h.1
  have hil := (List.getElem?_eq_some_iff.1 hi).1
  refine ⟨by rw [List.length_set, List.length_set, List.length_set]; exact hl, fun j x hj => ?_⟩
  by_cases e : i = j
  · subst e
    rw [List.getElem?_set_self hil] at hj
    cases hj
    obtain ⟨q1, q2, h0, h1, h2, h3, h4, h5⟩ := h.2 i k hi
    refine ⟨q, q2, ?_, ?_, ?_, ?_, hq, h5⟩
    · rw [List.getElem?_set_ne (by omega), List.getElem?_set_self (by omega)]
    · rw [List.getElem?_set_self (by rw [List.length_set]; omega)]
    · rw [List.getElem?_set_ne (by omega), List.getElem?_set_ne (by omega)]; exact h2
    · rw [List.getElem?_set_ne (by omega), List.getElem?_set_ne (by omega)]; exact h3
  · rw [List.getElem?_set_ne e] at hj
    obtain ⟨q1, q2, h0, h1, h2, h3, h4, h5⟩ := h.2 j x hj
    refine ⟨q1, q2, ?_, ?_, ?_, ?_, h4, h5⟩
    all_goals
      rw [List.getElem?_set_ne (by omega), List.getElem?_set_ne (by omega)]
      assumption
/-- a ring's links -/
def rgK (D : Nat → Int) (n m : Nat) : List LkC := (List.range m).map fun i : Nat => ((i : Int), D i, (nxR n i : Int))
theorem rgK_lk (D : Nat → Int) (n m : Nat) : (rgK D n m).map lkC3 = rgS D n m := by unfold rgK rgS; rw [List.map_map]; rfl
theorem rgK_snoc (D : Nat → Int) (n m : Nat) : rgK D n (m + 1) = rgK D n m ++ [((m : Int), D m, (nxR n m : Int))] := by simp [rgK, List.range_succ]
theorem rgK_at {D : Nat → Int} {n m i : Nat} (hi : i < m) : (rgK D n m)[i]? = some ((i : Int), D i, (nxR n i : Int)) := by simp [rgK, hi]
theorem rgK_put {n m k : Nat} : (rgK (fun _ => 0) n m).set k ((k : Int), 1, (nxR n k : Int)) = rgK (fun j => if j = k then 1 else 0) n m := by
  refine List.ext_getElem? fun j => ?_
  rw [List.getElem?_set]
  by_cases e : k = j
  · subst e
    rw [if_pos rfl]
    by_cases hk : k < m
    · rw [if_pos (by simpa [rgK] using hk), rgK_at hk, if_pos rfl]
    · rw [if_neg (by simpa [rgK] using hk), List.getElem?_eq_none (by simp [rgK]; omega)]
  · rw [if_neg e]
    by_cases hj : j < m
    · rw [rgK_at hj, rgK_at hj, if_neg (fun e' => e e'.symm)]
    · rw [List.getElem?_eq_none (by simp [rgK]; omega), List.getElem?_eq_none (by simp [rgK]; omega)]
theorem rgS_b {D : Nat → Int} {n m : Nat} (hD : ∀ i, 0 ≤ D i ∧ D i ≤ 1) : ∀ e ∈ esA n (rgS D n m), e.b ≤ 1 := fun e he => by
  unfold esA at he
  rcases List.mem_append.1 he with h | h
  · obtain ⟨i, hi, h1⟩ := esC_mem.1 h
    rw [rgS_len] at hi
    rw [foC_at (rgS_at hi)] at h1
    have h2 := hD i
    simp [edgC, lnk, lessC] at h1
    rcases h1 with rfl | rfl
    · show (0 : Int) ≤ 1
      decide
    · exact h2.2
  · unfold zeC at h
    obtain ⟨u, _, rfl⟩ := List.mem_map.1 h
    show (0 : Int) ≤ 1
    decide
theorem rgS_zero (n m : Nat) : Sat (fun e => e ∈ esA n (rgS (fun _ => 0) n m)) (fun _ => 0) := rgS_sat.2 ⟨fun _ _ => Int.le_refl _, fun _ _ => ⟨Int.le_refl _, Int.le_refl _⟩⟩
theorem castN_range (m : Nat) : castN (List.range (m + 1)) = castN (List.range m) ++ [(m : Int)] := by simp [castN, List.range_succ]
end Go.Proofs.Ytapajkfnpkekdaa
