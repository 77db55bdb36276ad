/-
  CirAll: the texts GCirM, GCirW, GCirL, one behind another.
-/
import Derived.Test.YtfaebmpdianniaaClsAll
import Derived.Test.YtfaebmpdianniaaExplAll
import Derived.Test.YtfaebmpdianniaaChAll
import Derived.Deep.RegionLaw
import Derived.Deep.RegionHeldLaw
/-
  A ring of constraints: all are equal; with one step of 1 there is no solution, and each constraint is needed for that. No walk in this text.
-/
namespace Go.Proofs.Ytfaebmpdianniaa
open Go

/-- the next one round -/
def nxR (n i : Nat) : Nat := if i + 1 < n then i + 1 else 0
theorem nxR_lt {n i : Nat} (hn : 0 < n) : nxR n i < n := by unfold nxR; split <;> omega
theorem nxR_mod {n i : Nat} (hi : i < n) : (i + 1) % n = nxR n i := by
  unfold nxR
  by_cases h : i + 1 < n
  · rw [if_pos h, Nat.mod_eq_of_lt h]
  · rw [if_neg h, show i + 1 = n by omega, Nat.mod_self]
/-- a ring, with steps D -/
def rgS (D : Nat → Int) (n m : Nat) : List LCn := (List.range m).map fun i : Nat => lnk i (D i) (nxR n i)
theorem rgS_len (D : Nat → Int) (n m : Nat) : (rgS D n m).length = m := by simp [rgS]
theorem rgS_at {D : Nat → Int} {n m i : Nat} (hi : i < m) : (rgS D n m)[i]? = some (lnk i (D i) (nxR n i)) := by simp [rgS, hi]
theorem rgS_mem {D : Nat → Int} {n m : Nat} {c : LCn} : c ∈ rgS D n m ↔ ∃ i, i < m ∧ c = lnk i (D i) (nxR n i) := by
  unfold rgS
  rw [List.mem_map]
  constructor
  · rintro ⟨i, hi, rfl⟩; exact ⟨i, List.mem_range.1 hi, rfl⟩
  · rintro ⟨i, hi, rfl⟩; exact ⟨i, List.mem_range.2 hi, rfl⟩
theorem rgS_gvld {D : Nat → Int} {n : Nat} (h1 : 1 ≤ n) (hn : n ≤ 1200) (hD : ∀ i, 0 ≤ D i ∧ D i ≤ 1000) : gvld (n : Int) (rgS D n n) = true := by
  unfold gvld
  rw [Bool.and_eq_true, decide_eq_true_eq, rgS_len]
  refine ⟨by omega, List.all_eq_true.2 fun c hc => ?_⟩
  obtain ⟨i, hi, rfl⟩ := rgS_mem.1 hc
  have := nxR_lt (n := n) (i := i) (by omega)
  exact lnk_con hn (by omega) (hD i) (by omega)
theorem lnk_hol2 {n i t : Nat} {d : Int} {y : Nat → Int} : (∀ e ∈ edgC n (lnk i d t) 0, hol y e) ↔ y n ≤ y t ∧ y i + d ≤ y t := by
  have h := lnk_hol (n := n) (f := i) (d := d) (t := t) (y := y)
  rw [Int.toNat_natCast, Int.toNat_natCast] at h
  exact h
theorem rgS_sat {D : Nat → Int} {n m : Nat} {y : Nat → Int} : Sat (fun e => e ∈ esA n (rgS D n m)) y ↔ (∀ u, u < n → y n ≤ y u) ∧ ∀ i, i < m → y n ≤ y (nxR n i) ∧ y i + D i ≤ y (nxR n i) := by
  rw [sat_es]
  refine and_congr Iff.rfl ⟨fun h i hi => lnk_hol2.1 (h _ (rgS_mem.2 ⟨i, hi, rfl⟩)), fun h c hc => ?_⟩
  obtain ⟨i, hi, rfl⟩ := rgS_mem.1 hc
  exact lnk_hol2.2 (h i hi)
theorem nxR_in {n i : Nat} (h : i + 1 < n) : nxR n i = i + 1 := if_pos h
theorem nxR_last {n : Nat} (h : 0 < n) : nxR n (n - 1) = 0 := if_neg (by omega)
/-- how far one has come -/
theorem ring_up {D : Nat → Int} {n : Nat} {y : Nat → Int} (hD : ∀ i, 0 ≤ D i) (h : ∀ i, i < n → y i + D i ≤ y (nxR n i)) (a : Nat) : ∀ b, a ≤ b → b < n → ∀ k, a ≤ k → k < b → y a + D k ≤ y b := by
  intro b
  induction b with
  | zero => intro _ _ k _ h3; omega
  | succ b ih =>
    intro h1 h2 k h3 h4
    have h5 := h b (by omega)
    rw [nxR_in h2] at h5
    have h6 := hD b
    by_cases hk : k = b
    · subst hk
      by_cases ha : a = k
      · subst ha; exact h5
      · have h7 := ih (by omega) (by omega) a (Nat.le_refl _) (by omega)
        have h8 := hD a
        omega
    · have h7 := ih (by omega) (by omega) k h3 (by omega)
      omega
theorem ring_le {D : Nat → Int} {n : Nat} {y : Nat → Int} (hD : ∀ i, 0 ≤ D i) (h : ∀ i, i < n → y i + D i ≤ y (nxR n i)) {a b : Nat} (hab : a ≤ b) (hb : b < n) : y a ≤ y b := by
  by_cases e : a = b
  · subst e; exact Int.le_refl _
  · have h1 := ring_up hD h a b hab hb a (Nat.le_refl _) (by omega)
    have h2 := hD a
    omega
theorem ring_eq {D : Nat → Int} {n : Nat} (hn : 0 < n) (hD : ∀ i, 0 ≤ D i) {v x : Nat} (hv : v < n) (hx : x < n) : EqS (esA n (rgS D n n)) v x := fun y hy => by
  have h := (rgS_sat (D := D) (n := n) (m := n) (y := y)).1 hy
  have h1 : ∀ i, i < n → y i + D i ≤ y (nxR n i) := fun i hi => (h.2 i hi).2
  have h2 := h1 (n - 1) (by omega)
  rw [nxR_last hn] at h2
  have h3 := hD (n - 1)
  have h4 := ring_le hD h1 (Nat.zero_le v) hv
  have h5 := ring_le hD h1 (Nat.zero_le x) hx
  have h6 := ring_le hD h1 (show v ≤ n - 1 by omega) (by omega)
  have h7 := ring_le hD h1 (show x ≤ n - 1 by omega) (by omega)
  omega
theorem cls_all {n : Nat} (hn : 2 ≤ n) : cls (fun _ _ => true) n n = [List.range n] := by
  have hm : ∀ u, mem1 (fun _ _ => true) u n = List.range n := fun u => by unfold mem1; exact List.filter_eq_self.2 fun _ _ => rfl
  unfold cls
  have e : (List.range n).filter (fun u => fst1 (fun _ _ => true) u && decide (1 < (mem1 (fun _ _ => true) u n).length)) = [0] := by
    obtain ⟨m, rfl⟩ : ∃ m, n = m + 1 := ⟨n - 1, by omega⟩
    rw [List.range_succ_eq_map, List.filter_cons, if_pos]
    · congr 1
      rw [List.filter_eq_nil_iff]
      intro a ha h2
      obtain ⟨b, _, rfl⟩ := List.mem_map.1 ha
      rw [Bool.and_eq_true] at h2
      have h3 := fst1_iff.1 h2.1 0 (by omega)
      cases h3
    · rw [hm, List.length_range, decide_eq_true (by omega)]
      rfl
  rw [e, List.map_singleton, hm]
theorem cls_ring {D : Nat → Int} {n : Nat} (hn : 2 ≤ n) (hD : ∀ i, 0 ≤ D i) : cls (eqN (esA n (rgS D n n))) n n = [List.range n] := by
  rw [← cls_all hn]
  exact cls_congr fun v x hv hx => eqN_iff.2 (ring_eq (by omega) hD hv hx)
/-- with a step of 1 somewhere there is no solution -/
theorem ring_no {D : Nat → Int} {n k : Nat} (hk : k < n) (hD : ∀ i, 0 ≤ D i) (h1 : D k = 1) {y : Nat → Int} (hy : Sat (fun e => e ∈ esA n (rgS D n n)) y) : False := by
  have h := (rgS_sat (D := D) (n := n) (m := n) (y := y)).1 hy
  have h2 : ∀ i, i < n → y i + D i ≤ y (nxR n i) := fun i hi => (h.2 i hi).2
  have h3 := h2 (n - 1) (by omega)
  rw [nxR_last (by omega)] at h3
  have h4 := hD (n - 1)
  by_cases hkn : k = n - 1
  · subst hkn
    have h5 := ring_le hD h2 (Nat.zero_le (n - 1)) (by omega)
    omega
  · have h5 := ring_up hD h2 0 (n - 1) (Nat.zero_le _) (by omega) k (Nat.zero_le _) (by omega)
    omega
/-- without one of the constraints there is one -/
theorem ring_cut {D : Nat → Int} {n k i : Nat} (hi : i < n) (h1 : ∀ j, D j = if j = k then 1 else 0) {l : List Nat} (hl : i ∉ l) : ∃ y, Sat (fun e => e ∈ esA n (pick (rgS D n n) l)) y := by
  let od : Nat → Nat := fun u => if u ≤ i then u + n - (i + 1) else u - (i + 1)
  refine ⟨fun u => if u < n ∧ od k < od u ∧ k ≠ i then 1 else 0, ?_⟩
  rw [sat_es]
  refine ⟨fun u hu => ?_, fun c hc => ?_⟩
  · try dsimp only
    rw [if_neg (by omega)]
    split <;> omega
  · obtain ⟨j, hj, hcj⟩ := pick_mem.1 hc
    have hjn : j < n := by have := (List.getElem?_eq_some_iff.1 hcj).1; rwa [rgS_len] at this
    rw [rgS_at hjn] at hcj
    cases hcj
    have hji : j ≠ i := fun e => hl (e ▸ hj)
    refine lnk_hol2.2 ⟨?_, ?_⟩
    · try dsimp only
      rw [if_neg (by omega)]
      split <;> omega
    · rw [h1]
      have hx : nxR n j < n := nxR_lt (by omega)
      have hod : od (nxR n j) = od j + 1 := by
        show (if nxR n j ≤ i then nxR n j + n - (i + 1) else nxR n j - (i + 1)) = (if j ≤ i then j + n - (i + 1) else j - (i + 1)) + 1
        unfold nxR
        by_cases a1 : j + 1 < n
        · rw [if_pos a1]
          by_cases a2 : j ≤ i
          · rw [if_pos a2, if_pos (by omega)]; omega
          · rw [if_neg a2, if_neg (by omega)]; omega
        · rw [if_neg a1, if_pos (Nat.zero_le _), if_neg (by omega)]; omega
      try dsimp only
      by_cases ek : j = k
      · subst ek
        rw [if_neg (fun h => Nat.lt_irrefl _ h.2.1), if_pos rfl, if_pos ⟨hx, by omega, hji⟩]
        omega
      · rw [if_neg ek]
        by_cases a1 : j < n ∧ od k < od j ∧ k ≠ i
        · rw [if_pos a1, if_pos ⟨hx, by omega, a1.2.2⟩]
          omega
        · rw [if_neg a1]
          split <;> omega
/-- rising numbers with nothing left out -/
theorem rising_all : ∀ (l : List Nat) (a b : Nat), l.Pairwise (· < ·) → (∀ x, x ∈ l ↔ a ≤ x ∧ x < b) → l = List.range' a (b - a)
  | [], a, b, _, h => by
    have : b ≤ a := Classical.byContradiction fun hn => by
      have := (h a).2 ⟨Nat.le_refl _, by omega⟩
      cases this
    rw [show b - a = 0 by omega]
    rfl
  | x :: l, a, b, hp, h => by
    obtain ⟨hp1, hp2⟩ := List.pairwise_cons.1 hp
    have hx := (h x).1 List.mem_cons_self
    have ha := (h a).2 ⟨Nat.le_refl _, by omega⟩
    obtain rfl : x = a := by
      rcases List.mem_cons.1 ha with e | e
      · exact e.symm
      · have := hp1 a e; omega
    rw [show b - x = (b - (x + 1)) + 1 by omega, List.range'_succ]
    congr 1
    refine rising_all l (x + 1) b hp2 fun z => ?_
    constructor
    · intro hz
      have h1 := hp1 z hz
      have h2 := (h z).1 (List.mem_cons_of_mem _ hz)
      omega
    · intro hz
      rcases List.mem_cons.1 ((h z).2 (by omega)) with e | e
      · omega
      · exact e
theorem ring_core {D : Nat → Int} {n k : Nat} {core : List Nat} (h1 : ∀ j, D j = if j = k then 1 else 0) (hc : CoreOf n (rgS D n n) core) (hs : core.Pairwise (· < ·)) : core = List.range n := by
  rw [List.range_eq_range']
  have := rising_all core 0 n hs fun x => ⟨fun hx => ⟨Nat.zero_le _, by have := hc.lt x hx; rwa [rgS_len] at this⟩, fun hx => Classical.byContradiction fun hn => by
    obtain ⟨y, hy⟩ := ring_cut (D := D) (k := k) hx.2 h1 hn
    exact hc.no y hy⟩
  rw [this, Nat.sub_zero]
end Go.Proofs.Ytfaebmpdianniaa

/-
  A row of constraints made by a loop, in general; a store into one of them.
-/
namespace Go.Proofs.Ytfaebmpdianniaa
open Go Go.RowKit

/-- a variable, a number, and a variable: one constraint -/
abbrev LkC := Int × Int × Int
def lkC3 (x : LkC) : LCn := lnk x.1 x.2.1 x.2.2
/-- such constraints as cells -/
def RVc (w : World) (xs : List Value) (ks : List LkC) : Prop :=
  xs.length = ks.length * 4 ∧ ∀ i k, ks[i]? = some k → ∃ q1 q2, xs[i * 4]? = some (.int .i64 0) ∧ xs[i * 4 + 1]? = some (.slice (some ⟨q1, 0, none⟩) 1 1) ∧ xs[i * 4 + 2]? = some (.int .i64 0) ∧ xs[i * 4 + 3]? = some (.slice (some ⟨q2, 0, none⟩) 1 1) ∧ w.heap[q1]? = some (.cells #[.int .i64 k.1, .int .i64 k.2.1] 80) ∧ w.heap[q2]? = some (.cells #[.int .i64 k.2.2, .int .i64 0] 80)
theorem RVc.keep {w w' : World} {xs : List Value} {ks : List LkC} (h : RVc w xs ks) (k : KV w w') : RVc w' xs ks :=
  ⟨h.1, fun i x hi => by
    obtain ⟨q1, q2, h0, h1, h2, h3, h4, h5⟩ := h.2 i x hi
    exact ⟨q1, q2, h0, h1, h2, h3, k _ _ h4, k _ _ h5⟩⟩
theorem RVc.nil (w : World) : RVc w [] [] := ⟨rfl, fun i k hi => by simp at hi⟩
theorem RVc.cv {w : World} {xs : List Value} {ks : List LkC} (h : RVc w xs ks) : CV w w.heap.size xs (ks.map lkC3) := by
  refine ⟨by rw [List.length_map, h.1], fun i c hc => ?_⟩
  rw [List.getElem?_map] at hc
  cases hk : ks[i]? with
  | none => rw [hk] at hc; cases hc
  | some k =>
    rw [hk] at hc
    obtain rfl := Option.some.inj hc
    obtain ⟨q1, q2, h0, h1, h2, h3, h4, h5⟩ := h.2 i k hk
    exact ⟨_, _, h0, h1, h2, h3, lv_ok h4, lv_ok h5⟩
theorem RVc.snoc {w : World} {xs : List Value} {ks : List LkC} {k : LkC} {q1 q2 : Nat} (h : RVc w xs ks) (h4 : w.heap[q1]? = some (.cells #[.int .i64 k.1, .int .i64 k.2.1] 80)) (h5 : w.heap[q2]? = some (.cells #[.int .i64 k.2.2, .int .i64 0] 80)) :
    RVc w (xs ++ [.int .i64 0, .slice (some ⟨q1, 0, none⟩) 1 1, .int .i64 0, .slice (some ⟨q2, 0, none⟩) 1 1]) (ks ++ [k]) := by
  have hl := h.1
  refine ⟨by simp [hl]; omega, fun i x hi => ?_⟩
  by_cases hij : i < ks.length
  · rw [List.getElem?_append_left hij] at hi
    obtain ⟨r1, r2, g0, g1, g2, g3, g4, g5⟩ := h.2 i x hi
    refine ⟨r1, r2, ?_, ?_, ?_, ?_, g4, g5⟩ <;> (rw [List.getElem?_append_left (by omega)]; assumption)
  · obtain rfl : i = ks.length := by
      have := (List.getElem?_eq_some_iff.1 hi).1
      simp at this
      omega
    simp at hi
    subst hi
    refine ⟨q1, q2, ?_, ?_, ?_, ?_, h4, h5⟩
    · rw [List.getElem?_append_right (by omega), show ks.length * 4 - xs.length = 0 by omega]; rfl
    · rw [List.getElem?_append_right (by omega), show ks.length * 4 + 1 - xs.length = 1 by omega]; rfl
    · rw [List.getElem?_append_right (by omega), show ks.length * 4 + 2 - xs.length = 2 by omega]; rfl
    · rw [List.getElem?_append_right (by omega), show ks.length * 4 + 3 - xs.length = 3 by omega]; rfl
/-- the left side of one constraint is put anew -/
theorem RVc.put {w : World} {xs : List Value} {ks : List LkC} {k : LkC} {i q : Nat} {p : Int} (h : RVc w xs ks) (hi : ks[i]? = some k) (hq : w.heap[q]? = some (.cells #[.int .i64 k.1, .int .i64 p] 80)) :
    RVc w ((xs.set (i * 4) (.int .i64 0)).set (i * 4 + 1) (.slice (some ⟨q, 0, none⟩) 1 1)) (ks.set i (k.1, p, k.2.2)) := by
  have hl := h.1
  have hil := (List.getElem?_eq_some_iff.1 hi).1
  refine ⟨by rw [List.length_set, List.length_set, List.length_set]; exact hl, fun j x hj => ?_⟩
  by_cases e : i = j
  · subst e
    rw [List.getElem?_set_self hil] at hj
    cases hj
    obtain ⟨q1, q2, h0, h1, h2, h3, h4, h5⟩ := h.2 i k hi
    refine ⟨q, q2, ?_, ?_, ?_, ?_, hq, h5⟩
    · rw [List.getElem?_set_ne (by omega), List.getElem?_set_self (by omega)]
    · rw [List.getElem?_set_self (by rw [List.length_set]; omega)]
    · rw [List.getElem?_set_ne (by omega), List.getElem?_set_ne (by omega)]; exact h2
    · rw [List.getElem?_set_ne (by omega), List.getElem?_set_ne (by omega)]; exact h3
  · rw [List.getElem?_set_ne e] at hj
    obtain ⟨q1, q2, h0, h1, h2, h3, h4, h5⟩ := h.2 j x hj
    refine ⟨q1, q2, ?_, ?_, ?_, ?_, h4, h5⟩
    all_goals
      rw [List.getElem?_set_ne (by omega), List.getElem?_set_ne (by omega)]
      assumption
/-- a ring's links -/
def rgK (D : Nat → Int) (n m : Nat) : List LkC := (List.range m).map fun i : Nat => ((i : Int), D i, (nxR n i : Int))
theorem rgK_lk (D : Nat → Int) (n m : Nat) : (rgK D n m).map lkC3 = rgS D n m := by unfold rgK rgS; rw [List.map_map]; rfl
theorem rgK_snoc (D : Nat → Int) (n m : Nat) : rgK D n (m + 1) = rgK D n m ++ [((m : Int), D m, (nxR n m : Int))] := by simp [rgK, List.range_succ]
theorem rgK_at {D : Nat → Int} {n m i : Nat} (hi : i < m) : (rgK D n m)[i]? = some ((i : Int), D i, (nxR n i : Int)) := by simp [rgK, hi]
theorem rgK_put {n m k : Nat} : (rgK (fun _ => 0) n m).set k ((k : Int), 1, (nxR n k : Int)) = rgK (fun j => if j = k then 1 else 0) n m := by
  refine List.ext_getElem? fun j => ?_
  rw [List.getElem?_set]
  by_cases e : k = j
  · subst e
    rw [if_pos rfl]
    by_cases hk : k < m
    · rw [if_pos (by simpa [rgK] using hk), rgK_at hk, if_pos rfl]
    · rw [if_neg (by simpa [rgK] using hk), List.getElem?_eq_none (by simp [rgK]; omega)]
  · rw [if_neg e]
    by_cases hj : j < m
    · rw [rgK_at hj, rgK_at hj, if_neg (fun e' => e e'.symm)]
    · rw [List.getElem?_eq_none (by simp [rgK]; omega), List.getElem?_eq_none (by simp [rgK]; omega)]
theorem rgS_b {D : Nat → Int} {n m : Nat} (hD : ∀ i, 0 ≤ D i ∧ D i ≤ 1) : ∀ e ∈ esA n (rgS D n m), e.b ≤ 1 := fun e he => by
  unfold esA at he
  rcases List.mem_append.1 he with h | h
  · obtain ⟨i, hi, h1⟩ := esC_mem.1 h
    rw [rgS_len] at hi
    rw [foC_at (rgS_at hi)] at h1
    have h2 := hD i
    simp [edgC, lnk, lessC] at h1
    rcases h1 with rfl | rfl
    · show (0 : Int) ≤ 1
      decide
    · exact h2.2
  · unfold zeC at h
    obtain ⟨u, _, rfl⟩ := List.mem_map.1 h
    show (0 : Int) ≤ 1
    decide
theorem rgS_zero (n m : Nat) : Sat (fun e => e ∈ esA n (rgS (fun _ => 0) n m)) (fun _ => 0) := rgS_sat.2 ⟨fun _ _ => Int.le_refl _, fun _ _ => ⟨Int.le_refl _, Int.le_refl _⟩⟩
theorem castN_range (m : Nat) : castN (List.range (m + 1)) = castN (List.range m) ++ [(m : Int)] := by simp [castN, List.range_succ]
end Go.Proofs.Ytfaebmpdianniaa

/-
  The law GraphCircles.
-/
namespace Go.Proofs.Ytfaebmpdianniaa
open Go Go.RowKit

set_option maxRecDepth 100000 in
set_option maxHeartbeats 8000000 in
theorem lawCircles_any (v s : Int) (w : World) :
    Calls Try.prog 5 #[.int .i64 v, .int .i64 s] w fun e w' => e = .returned (.bool true) ∧ Below w.heap.size w w' := by
  by_cases hcond : 2 ≤ v ∧ v ≤ 1200
  · obtain ⟨c1, c2⟩ := hcond
    obtain ⟨n, rfl⟩ : ∃ n : Nat, v = n := ⟨v.toNat, by omega⟩
    obtain ⟨i0, hi, hz0, hz1, hz2⟩ := info_parts infoC
    obtain ⟨j0, hj0, hy0, hy1, hy2⟩ := info_parts infoI
    have d1 : ¬ (n : Int) < 2 := by omega
    have d2 : ¬ (1200 : Int) < (n : Int) := by omega
    have hn0 : ¬ (n : Int) = 0 := by omega
    have hn1 : ¬ n = 0 := by omega
    have hn2 : ((n : Int) == 0) = false := by simpa using hn1
    clear c1 c2
    go_enter Try.func5, Try.ntmps5
    go_wp2_with fail
    go_loopw [5, 6, 7] (fun tl al i wr => ∃ j : Nat, j ≤ n ∧ i = .int .i64 j ∧ ∃ (A : Option Addr) (c : Nat) (A6 : Option Addr) (c6 : Nat) (xs : List Value), tl = .slice A j c ∧ al = .slice A6 j c6 ∧ wr.ownsRow w.heap.size 40 4 (.slice A j c) j xs ∧ RVc wr xs (rgK (fun _ => 0) n j) ∧ wr.ownsRow w.heap.size 3 1 (.slice A6 j c6) j (int1 (castN (List.range j))) ∧ Below w.heap.size w wr) (fun _ _ i _ => n - (intOf i).toNat)
    case atStart => exact ⟨0, Nat.zero_le _, rfl, none, 0, none, 0, [], rfl, rfl, World.ownsRow_nil _ _ _ _, RVc.nil _, World.ownsRow_nil _ _ _ _, Below.refl _ _⟩
    case round =>
      obtain ⟨j, hj, rfl, A, c, A6, c6, xs, rfl, rfl, hown, hrv, hal, hbr⟩ := hrel
      have hszr := hbr.size
      by_cases hjn : j < n
      · have hji : (j : Int) < (n : Int) := by omega
        have v0 : IntKind.i64.wrap ((j : Int) + 1) = (j : Int) + 1 := by rw [IntKind.wrap_i64]; omega
        have hm0 : ((j : Int) + 1).tmod (n : Int) = (nxR n j : Int) := by
          rw [Int.tmod_eq_emod_of_nonneg (by omega), ← nxR_mod hjn]
          rfl
        have hnx := nxR_lt (n := n) (i := j) (by omega)
        have v1 : IntKind.i64.wrap (nxR n j : Int) = (nxR n j : Int) := by rw [IntKind.wrap_i64]; omega
        have kA := Lib.hid (kA_of wr j 0)
        have kB := Lib.hid (kB_of wr j 0 (nxR n j) 0)
        have hzr : Below wr.heap.size wr wr := Below.refl _ _
        have hone : ∀ q1 q2 : Nat, ∀ u ∈ [Value.int .i64 0, .slice (some ⟨q1, 0, none⟩) 1 1, .int .i64 0, .slice (some ⟨q2, 0, none⟩) 1 1], u.oneCell' = true := by simp [Value.oneCell']
        have Hrv := Lib.hid hrv
        have Hal := Lib.hid hal
        clear hrv hal
        have hal2 : ∀ {W : World} (o : Obj), Below wr.heap.size wr W → Below wr.heap.size wr (W.alloc o) := fun o hW => hW.alloc hW.size _
        go_wp2_with fail
        go_region_held_law (fun _ => True) (trivial) (first
          | (go_at_call 14; with_reducible refine (kA.out _ (by first | exact hzr | exact hzr.drew)).mono ?_; rintro e w5 ⟨q1, rfl, hq1, hz5⟩)
          | (go_at_call 14; with_reducible refine (kB.out _ _ (by first | exact hz5 | exact hz5.drew) hq1).mono ?_; rintro e w6 ⟨q2, rfl, hq2, hq3, hz6⟩)
          | (refine step_append_d 38 rfl rfl (.tmp 28) (.tmp 37) 22 rfl w.heap.size 40 i0 (.agg #[.int .i64 0, .slice none 0 0, .int .i64 0, .slice none 0 0]) 4 64 Try.underlying22 hi hz0 hz1 hz2 rfl (by decide) (.slice A j c) j xs rfl (by first | exact own_below hown (hal2 _ hz6) | exact own_below hown (hal2 _ hz6.drew) | exact own_below hown (hal2 _ hz6).drew) _ 1 1 [.int .i64 0, .slice (some ⟨q1, 0, none⟩) 1 1, .int .i64 0, .slice (some ⟨q2, 0, none⟩) 1 1] rfl rfl (news4c rfl) (hone _ _) (by unfold maxLen; omega) (by omega) (by simp; have := hz6.size; omega) ?_; intro v7 w7 hown7 hgrow7))
        obtain ⟨A7, c7, rfl⟩ := own_sl hown7
        have hz8 := hal2 (.cells #[.int .i64 0, .slice (some ⟨q1, 0, none⟩) 1 1, .int .i64 0, .slice (some ⟨q2, 0, none⟩) 1 1] 40) hz6
        have hs8 := hz8.size
        have hown8 := own_below hown hz8
        have hb7 : Below w.heap.size w w7 := (hbr.trans (hz8.mono hszr)).grown hgrow7 (by omega) (fun j hj => (hown.lt j hj).1)
        have k87 := KV.grown hown8 hgrow7
        have kbx := KV.below ((Below.refl _ w6).alloc (Nat.le_refl _) (.cells #[.int .i64 0, .slice (some ⟨q1, 0, none⟩) 1 1, .int .i64 0, .slice (some ⟨q2, 0, none⟩) 1 1] 40))
        have hrv7 := ((Hrv.out.keep (KV.below hz8)).keep k87).snoc (k := ((j : Int), 0, (nxR n j : Int))) (k87 _ _ (kbx _ _ hq2)) (k87 _ _ (kbx _ _ hq3))
        have hal7 := own_grown (own_below Hal.out hz8) hgrow7 fun r hr he => by
          obtain ⟨cs1, fr1, h4⟩ := own_ty (own_below Hal.out hz8) he
          obtain ⟨cs2, fr2, h5⟩ := own_ty hown8 hr
          rw [h4] at h5
          cases h5
        rw [← rgK_snoc (fun _ => 0)] at hrv7
        have Hrv7 := Lib.hid hrv7
        have hs7 := hb7.size
        have hxA : Below w7.heap.size w7 (w7.alloc (.cells #[.int .i64 (j : Int)] 3)) := (Below.refl _ w7).alloc (Nat.le_refl _) _
        have hal9 := own_below hal7 hxA
        have hss : (w7.alloc (.cells #[.int .i64 (j : Int)] 3)).heap.size = w7.heap.size + 1 := by simp
        clear hrv7 k87 kbx hgrow7 hown8 hz8 hz6 hz5 hq1 hq2 hq3 hown hbr hal7
        go_wp2_with (at_builtin; refine wpList_append_lies _ rfl _ _ 42 rfl w.heap.size 3 j0 (.int .i64 0) 1 8 Try.underlying42 hj0 hy0 hy1 hy2 rfl (by decide) _ j (int1 (castN (List.range j))) rfl hal9 ⟨w7.heap.size, 0, none⟩ 1 1 [.int .i64 (j : Int)] rfl rfl newV newI_one (by decide) (by unfold maxLen; omega) (by omega) (by rw [hss]; omega) (w7.heap.size + 1) hss ?_)
        intro g cap w9 hown9 hgrow9 _ hg9
        have hown10 := own_below hown7 hxA
        have hown11 := own_grown hown10 hgrow9 fun r hr he => by
          obtain ⟨cs1, fr1, h4⟩ := own_ty hown10 he
          obtain ⟨cs2, fr2, h5⟩ := own_ty hal9 hr
          rw [h4] at h5
          cases h5
        have hrv9 := (Hrv7.out.keep (KV.below hxA)).keep fun q cs hq => (hgrow9.block q (Array.getElem?_eq_some_iff.1 hq).1 (fun e => by
          obtain ⟨cs2, fr2, h5⟩ := own_ty hal9 e.symm
          rw [h5] at hq
          cases hq)).trans hq
        have hb9 := (hb7.trans (hxA.mono hs7)).grown hgrow9 (by rw [hss]; omega) (fun r hr => (hal9.lt r hr).1)
        have hown9' : w9.ownsRow w.heap.size 3 1 (.slice (some ⟨g, 0, none⟩) (j + 1) cap) (j + 1) (int1 (castN (List.range (j + 1)))) := by
          rw [castN_range]
          have e2 : int1 (castN (List.range j) ++ [(j : Int)]) = int1 (castN (List.range j)) ++ [.int .i64 (j : Int)] := by simp [int1]
          rw [e2]
          exact hown9
        clear hown9 hgrow9 hown10 hal9 hxA hown7
        go_wp2_with fail
        go_roundw
        case rel => exact ⟨j + 1, by omega, by go_num, A7, c7, some ⟨g, 0, none⟩, cap, _, rfl, rfl, hown11, hrv9, hown9', hb9⟩
        case measure => simp [intOf]; omega
      · obtain rfl : j = n := by omega
        have hji : ¬ (j : Int) < (j : Int) := by omega
        have hcv := hrv.cv
        rw [rgK_lk] at hcv
        obtain ⟨_, _, hAe, hCL, _, _⟩ := CL.of_own hown hcv (Nat.le_refl _)
        cases hAe
        have hCl := Lib.hid (classes_any j A j c (rgS (fun _ => 0) j j) wr hCL (by omega))
        go_wp2_with fail
        refine hCl.out.mono ?_
        clear hCl
        rintro e w3 ⟨hb3, hp⟩
        have hg0 := rgS_gvld (D := fun _ => 0) (n := j) (by omega) (by omega) (fun _ => ⟨Int.le_refl _, by decide⟩)
        rcases hp with ⟨hg, _⟩ | ⟨_, n', hn', ⟨_, hno⟩ | ⟨u, xs5, rfl, ho, hks, _⟩⟩
        · rw [hg0] at hg; cases hg
        · obtain rfl : j = n' := by omega
          exact absurd (rgS_zero j j) (hno _)
        · obtain rfl : j = n' := by omega
          rw [cls_ring (by omega) (fun _ => Int.le_refl _)] at hks
          obtain ⟨A5, c5, rfl, hLL⟩ := LL.of_own ho hks
          obtain ⟨b5, rfl, hb5l, hrow5⟩ := hLL (by simp)
          obtain ⟨x5, hx5, hkr⟩ := hrow5 0 _ rfl
          obtain ⟨bq, cq, rfl, hbq, hIL⟩ := hkr.il
          rw [List.length_range] at hIL hx5
          have hal3 := own_below hal hb3
          obtain ⟨_, _, hAe, hIL2⟩ := il_own hal3
          cases hAe
          have Heq := Lib.hid (eqInts_true (some ⟨bq, 0, none⟩) j cq A6 c6 (castN (List.range j)) w3 hIL hIL2 (by omega))
          have hb13 := hbr.trans (hb3.mono hszr)
          have hown3 := own_below hown hb3
          have hrv3 := hrv.keep (KV.below hb3)
          have Hrv3 := Lib.hid hrv3
          have h1l : ([List.range j] : List (List Nat)).length = 1 := rfl
          rw [h1l]
          clear hrv3 hrv hcv hCL hown hal hb3 hbr hszr ho hks hLL hrow5 hkr hIL hIL2 hbq h1l
          go_wp2_with fail
          refine Heq.out.mono ?_
          clear Heq
          rintro e w4 ⟨rfl, hb4⟩
          have hb14 := hb13.trans (hb4.mono hb13.size)
          have hown4 := own_below hown3 hb4
          have hal4 := own_below hal3 hb4
          have Hrv4 := Lib.hid (Hrv3.out.keep (KV.below hb4))
          clear Hrv3 hown3 hal3 hb13 hb4 hx5
          obtain ⟨r, hr⟩ : ∃ r, r = s.tmod (j : Int) := ⟨_, rfl⟩
          have hr1 : -(j : Int) < r ∧ r < (j : Int) := by
            rw [hr]
            have h1 := Int.tmod_lt_of_pos s (show 0 < (j : Int) by omega)
            have h2 := Int.lt_tmod_of_pos s (show 0 < (j : Int) by omega)
            exact ⟨h2, h1⟩
          have w1 : IntKind.i64.wrap (s.tmod (j : Int)) = r := by rw [← hr, IntKind.wrap_i64]; omega
          have w2 : IntKind.i64.wrap r = r := by rw [IntKind.wrap_i64]; omega
          have w3' : IntKind.i64.wrap (r + (j : Int)) = r + (j : Int) := by rw [IntKind.wrap_i64]; omega
          go_upto_if 68 with fail
          go_cut [10] (fun kv wx => ∃ k : Nat, k < j ∧ kv = .int .i64 k ∧ wx = w4)
          case first =>
            by_cases hr0 : r < 0
            · obtain ⟨k, hk⟩ : ∃ k : Nat, r + (j : Int) = k := ⟨(r + (j : Int)).toNat, by omega⟩
              go_wp2_with fail
              go_meet
              exact ⟨k, by omega, by rw [← hr, hk], rfl⟩
            · obtain ⟨k, hk⟩ : ∃ k : Nat, r = k := ⟨r.toNat, by omega⟩
              go_wp2_with fail
              go_meet
              exact ⟨k, by omega, by rw [← hr, hk], rfl⟩
          case rest =>
            obtain ⟨k, hkj, rfl, rfl⟩ := hcut
            clear w1 w2 w3' hr1 hr
            have hki : (k : Int) < (j : Int) := by omega
            obtain ⟨g, c', he⟩ := own_some hown4 (by omega)
            cases he
            have Hat := Lib.hid (at_heap k 1 wc)
            go_upto_region 17 with fail
            refine Hat.out.mono ?_
            clear Hat
            rintro e w5 ⟨q, rfl, hq, hb5⟩
            have hb15 := hb14.trans (hb5.mono hb14.size)
            have hown5 := own_below hown4 hb5
            have hal5 := own_below hal4 hb5
            have hrv5 := Hrv4.out.keep (KV.below hb5)
            have hxl : xs.length = j * 4 := hown5.1
            have hgl := own_lt hown5
            have hc0 : ∃ u, w5.cell? ⟨g, k * 4, none⟩ = some u := ⟨_, (hown5.cellAt (k * 4) (by omega)).trans (List.getElem?_eq_getElem (by omega))⟩
            have hc1 : ∃ u, w5.cell? ⟨g, k * 4 + 1, none⟩ = some u := ⟨_, (hown5.cellAt (k * 4 + 1) (by omega)).trans (List.getElem?_eq_getElem (by omega))⟩
            obtain ⟨y0, hc0⟩ := hc0
            obtain ⟨y1, hc1⟩ := hc1
            have hf0 := hown5.frozenAt (k * 4)
            have hf1 := hown5.frozenAt (k * 4 + 1)
            go_upto_region 17 with fail
            have hown6 := ((hown5.stored (k * 4) (.int .i64 0)).1.stored (k * 4 + 1) (.slice (some ⟨q, 0, none⟩) 1 1)).1
            have hne6 : ∀ i, i ≠ g → ((w5.setCell ⟨g, k * 4, none⟩ (.int .i64 0)).setCell ⟨g, k * 4 + 1, none⟩ (.slice (some ⟨q, 0, none⟩) 1 1)).heap[i]? = w5.heap[i]? := fun i hi => (Below.heap_setCell _ ⟨g, k * 4 + 1, none⟩ _ i hi).trans (Below.heap_setCell w5 ⟨g, k * 4, none⟩ _ i hi)
            have hrv6 := (hrv5.put (p := 1) (rgK_at hkj) hq).keep (w' := (w5.setCell ⟨g, k * 4, none⟩ (.int .i64 0)).setCell ⟨g, k * 4 + 1, none⟩ (.slice (some ⟨q, 0, none⟩) 1 1)) fun i cs hi => (hne6 i fun e => by
              obtain ⟨cs2, fr2, h5⟩ := own_ty hown5 (q := g) rfl
              rw [e, h5] at hi
              cases hi).trans hi
            rw [rgK_put] at hrv6
            have hal6 : ((w5.setCell ⟨g, k * 4, none⟩ (.int .i64 0)).setCell ⟨g, k * 4 + 1, none⟩ (.slice (some ⟨q, 0, none⟩) 1 1)).ownsRow w.heap.size 3 1 (.slice A6 j c6) j (int1 (castN (List.range j))) := by
              have hn : (Value.slice A6 j c6).ownBlock ≠ some g := fun e => by
                obtain ⟨cs1, fr1, h4⟩ := own_ty hal5 e
                obtain ⟨cs2, fr2, h5⟩ := own_ty hown5 (q := g) rfl
                rw [h4] at h5
                cases h5
              exact ownsRow_setCell_other (ownsRow_setCell_other hal5 (a := ⟨g, k * 4, none⟩) hn _) (a := ⟨g, k * 4 + 1, none⟩) hn _
            have hb16 : Below w.heap.size w ((w5.setCell ⟨g, k * 4, none⟩ (.int .i64 0)).setCell ⟨g, k * 4 + 1, none⟩ (.slice (some ⟨q, 0, none⟩) 1 1)) := (hb15.setCell (show w.heap.size ≤ (⟨g, k * 4, none⟩ : Addr).block from hgl.1) _).setCell (show w.heap.size ≤ (⟨g, k * 4 + 1, none⟩ : Addr).block from hgl.1) _
            clear hne6 hc0 hc1 hf0 hf1 hown5 hal5 hrv5 hq hb5 hb15 hown4 hal4 Hrv4 hb14
            generalize (w5.setCell ⟨g, k * 4, none⟩ (.int .i64 0)).setCell ⟨g, k * 4 + 1, none⟩ (.slice (some ⟨q, 0, none⟩) 1 1) = w6 at *
            have hcv6 := hrv6.cv
            rw [rgK_lk] at hcv6
            obtain ⟨_, _, hAe, hCL6, _, _⟩ := CL.of_own hown6 hcv6 (Nat.le_refl _)
            cases hAe
            have hD : ∀ i : Nat, (0 : Int) ≤ (fun m : Nat => if m = k then (1 : Int) else 0) i ∧ (fun m : Nat => if m = k then (1 : Int) else 0) i ≤ 1 := fun i => by
              dsimp only
              split <;> omega
            have hD1 : (fun m : Nat => if m = k then (1 : Int) else 0) k = 1 := if_pos rfl
            have hDe : ∀ i : Nat, (fun m : Nat => if m = k then (1 : Int) else 0) i = if i = k then 1 else 0 := fun _ => rfl
            generalize (fun m : Nat => if m = k then (1 : Int) else 0) = D at *
            have hgD := rgS_gvld (D := D) (n := j) (by omega) (by omega) (fun i => ⟨(hD i).1, by have := (hD i).2; omega⟩)
            have hnoD : ∀ y, Sat (fun e => e ∈ esA j (rgS D j j)) y → False := fun y hy => ring_no hkj (fun i => (hD i).1) hD1 hy
            have Hso := Lib.hid (solve_any j (some ⟨g, 0, none⟩) j c (rgS D j j) w6 hCL6 (by omega))
            go_wp2_with fail
            refine Hso.out.mono ?_
            clear Hso
            rintro e w7 ⟨hb7, hp⟩
            rcases hp with ⟨hg, _⟩ | ⟨_, n', hn', ⟨rfl, _⟩ | ⟨_, _, _, _, hL⟩⟩
            · rw [hgD] at hg; cases hg
            · obtain rfl : j = n' := by omega
              have Hex := Lib.hid (explain_any 1 j (some ⟨g, 0, none⟩) j c (rgS D j j) w7 (hCL6.lift hb7) (by omega) (by omega) (fun _ m hm e he => by
                obtain rfl : j = m := by omega
                exact rgS_b hD e he) (fun _ m hm => by
                obtain rfl : j = m := by omega
                have h1 : ((1 : Int) * ((9 : Nat) : Int) + 1 * ((j + 1 : Nat) : Int)) ≤ 1210 := by omega
                have h2 : ((2 * j : Nat) : Int) ≤ 2400 := by omega
                have h3 := Int.mul_le_mul h1 h2 (by omega) (by omega)
                omega))
              have hal7 := own_below hal6 hb7
              have hb17 := hb16.trans (hb7.mono hb16.size)
              clear hal6 hown6 hrv6 hcv6 hCL6 hb7 hb16
              go_wp2_with fail
              refine Hex.out.mono ?_
              clear Hex
              rintro e w8 ⟨hb8, hp⟩
              rcases hp with ⟨hg, _⟩ | ⟨_, n'', hn'', ⟨⟨y, hy⟩, _⟩ | ⟨_, A8, c8, core, rfl, hI, hco, hso⟩⟩
              · rw [hgD] at hg; cases hg
              · obtain rfl : j = n'' := by omega
                exact (hnoD y hy).elim
              · obtain rfl : j = n'' := by omega
                obtain rfl := ring_core hDe hco hso
                have hal8 := own_below hal7 hb8
                obtain ⟨_, _, hAe, hIL8⟩ := il_own hal8
                cases hAe
                have hI' : IL w8 w8.heap.size A8 (List.range j).length (castN (List.range j)) := hI
                rw [List.length_range] at hI' ⊢
                have Heq := Lib.hid (eqInts_true A8 j c8 A6 c6 (castN (List.range j)) w8 hI' hIL8 (by omega))
                have hb18 := hb17.trans (hb8.mono hb17.size)
                clear hI hI' hIL8 hal8 hal7 hco hso hb8 hb17
                go_wp2_with fail
                refine Heq.out.mono ?_
                clear Heq
                rintro e w9 ⟨rfl, hb9⟩
                have hb19 := hb18.trans (hb9.mono hb18.size)
                go_wp2_with fail
                refine (awake_any _).mono ?_
                rintro e w10 ⟨rfl, hb10⟩
                go_wp2_with fail
                go_ret
                exact ⟨rfl, hb19.trans (hb10.mono hb19.size)⟩
            · obtain rfl : j = n' := by omega
              exact (hnoD _ hL.sat).elim
  · have hno : v < 2 ∨ ¬ v < 2 ∧ 1200 < v := by omega
    clear hcond
    rcases hno with c1 | ⟨c1, c2⟩
    all_goals
      go_enter Try.func5, Try.ntmps5
      go_wp2_with fail
      refine (awake_any _).mono ?_
      rintro e w4 ⟨rfl, hb4⟩
      go_wp2_with fail
      go_ret
      exact ⟨rfl, hb4⟩
end Go.Proofs.Ytfaebmpdianniaa
