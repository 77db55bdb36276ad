/-
  A ring whose constraints begin anywhere: all are equal; with one greater step there is no solution, and each constraint is needed for that. No walk in this text.
-/
import Derived.Test.YtapajkfnpkekdaaCirAll
namespace Go.Proofs.Ytapajkfnpkekdaa
open Go Go.RowKit

/-- where the constraint i begins -/
def roR (n s i : Nat) : Nat := (i + s) % n
theorem roR_lt {n s i : Nat} (hn : 0 < n) : roR n s i < n := Nat.mod_lt _ hn
theorem mod_two {a n : Nat} (h : a < n + n) : a % n = if a < n then a else a - n := by
  by_cases h1 : a < n
  · rw [if_pos h1, Nat.mod_eq_of_lt h1]
  · rw [if_neg h1, Nat.mod_eq_sub_mod (by omega), Nat.mod_eq_of_lt (by omega)]
theorem roR_eq {n s i : Nat} (hi : i < n) : roR n s i = if i + s % n < n then i + s % n else i + s % n - n := by
  unfold roR
  have h1 : s % n < n := Nat.mod_lt _ (by omega)
  rw [← Nat.add_mod_mod, mod_two (by omega)]
/-- which constraint begins there -/
def inR (n s u : Nat) : Nat := if s % n ≤ u then u - s % n else u + n - s % n
theorem inR_lt {n s u : Nat} (hu : u < n) : inR n s u < n := by
  have h1 : s % n < n := Nat.mod_lt _ (by omega)
  unfold inR; split <;> omega
theorem roR_inR {n s u : Nat} (hu : u < n) : roR n s (inR n s u) = u := by
  have h1 : s % n < n := Nat.mod_lt _ (by omega)
  rw [roR_eq (inR_lt hu)]
  unfold inR
  by_cases h : s % n ≤ u
  · rw [if_pos h]; split <;> omega
  · rw [if_neg h]; split <;> omega
theorem inR_roR {n s i : Nat} (hi : i < n) : inR n s (roR n s i) = i := by
  have h1 : s % n < n := Nat.mod_lt _ (by omega)
  rw [roR_eq hi]
  unfold inR
  by_cases h : i + s % n < n
  · rw [if_pos h, if_pos (by omega)]; omega
  · rw [if_neg h, if_neg (by omega)]; omega
theorem roR_inj {n s i j : Nat} (hi : i < n) (hj : j < n) (h : roR n s i = roR n s j) : i = j := by
  rw [← inR_roR (s := s) hi, h, inR_roR hj]
/-- the ring from s on, with steps D -/
def rtS (D : Nat → Int) (n s m : Nat) : List LCn := (List.range m).map fun i : Nat => lnk (roR n s i) (D i) (nxR n (roR n s i))
theorem rtS_len (D : Nat → Int) (n s m : Nat) : (rtS D n s m).length = m := by simp [rtS]
theorem rtS_at {D : Nat → Int} {n s m i : Nat} (hi : i < m) : (rtS D n s m)[i]? = some (lnk (roR n s i) (D i) (nxR n (roR n s i))) := by simp [rtS, hi]
theorem rtS_mem {D : Nat → Int} {n s m : Nat} {c : LCn} : c ∈ rtS D n s m ↔ ∃ i, i < m ∧ c = lnk (roR n s i) (D i) (nxR n (roR n s i)) := by
  unfold rtS
  rw [List.mem_map]
  constructor
  · rintro ⟨i, hi, rfl⟩; exact ⟨i, List.mem_range.1 hi, rfl⟩
  · rintro ⟨i, hi, rfl⟩; exact ⟨i, List.mem_range.2 hi, rfl⟩
theorem rtS_gvld {D : Nat → Int} {n s : Nat} (h1 : 1 ≤ n) (hn : n ≤ 1200) (hD : ∀ i, 0 ≤ D i ∧ D i ≤ 1000) : gvld (n : Int) (rtS D n s n) = true := by
  unfold gvld
  rw [Bool.and_eq_true, decide_eq_true_eq, rtS_len]
  refine ⟨by omega, List.all_eq_true.2 fun c hc => ?_⟩
  obtain ⟨i, hi, rfl⟩ := rtS_mem.1 hc
  have h2 := roR_lt (n := n) (s := s) (i := i) (by omega)
  have h3 := nxR_lt (n := n) (i := roR n s i) (by omega)
  exact lnk_con hn (by omega) (hD i) (by omega)
theorem rtS_sat {D : Nat → Int} {n s m : Nat} {y : Nat → Int} : Sat (fun e => e ∈ esA n (rtS D n s m)) y ↔ (∀ u, u < n → y n ≤ y u) ∧ ∀ i, i < m → y n ≤ y (nxR n (roR n s i)) ∧ y (roR n s i) + D i ≤ y (nxR n (roR n s i)) := by
  rw [sat_es]
  refine and_congr Iff.rfl ⟨fun h i hi => lnk_hol2.1 (h _ (rtS_mem.2 ⟨i, hi, rfl⟩)), fun h c hc => ?_⟩
  obtain ⟨i, hi, rfl⟩ := rtS_mem.1 hc
  exact lnk_hol2.2 (h i hi)
theorem rtS_rg {D : Nat → Int} {n s : Nat} {y : Nat → Int} : Sat (fun e => e ∈ esA n (rtS D n s n)) y ↔ Sat (fun e => e ∈ esA n (rgS (fun u => D (inR n s u)) n n)) y := by
  rw [rtS_sat, rgS_sat]
  refine and_congr Iff.rfl ⟨fun h u hu => ?_, fun h i hi => ?_⟩
  · have h1 := h (inR n s u) (inR_lt hu)
    rw [roR_inR hu] at h1
    exact h1
  · have h1 := h (roR n s i) (roR_lt (by omega))
    try dsimp only at h1
    rw [inR_roR hi] at h1
    exact h1
theorem cls_rt {D : Nat → Int} {n s : Nat} (hn : 2 ≤ n) (hD : ∀ i, 0 ≤ D i) : cls (eqN (esA n (rtS D n s n))) n n = [List.range n] := by
  rw [← cls_all hn]
  refine cls_congr fun v x hv hx => eqN_iff.2 fun y hy => ?_
  exact ring_eq (D := fun u => D (inR n s u)) (by omega) (fun i => hD _) hv hx y (rtS_rg.1 hy)
/-- with a greater step somewhere there is no solution -/
theorem rt_no {D : Nat → Int} {n s k : Nat} (hk : k < n) (hD : ∀ i, 0 ≤ D i) (h1 : 1 ≤ D k) {y : Nat → Int} (hy : Sat (fun e => e ∈ esA n (rtS D n s n)) y) : False := by
  have h2 := rtS_sat.1 hy
  refine ring_no (D := fun u => if u = roR n s k then 1 else 0) (n := n) (k := roR n s k) (roR_lt (by omega)) (fun i => ?_) ?_ (y := y) (rgS_sat.2 ⟨h2.1, fun u hu => ?_⟩)
  · split <;> omega
  · rw [if_pos rfl]
  · have h3 := h2.2 (inR n s u) (inR_lt hu)
    rw [roR_inR hu] at h3
    refine ⟨h3.1, ?_⟩
    try dsimp only
    by_cases e : u = roR n s k
    · rw [if_pos e]
      rw [e, inR_roR hk] at h3
      rw [e]
      omega
    · rw [if_neg e]
      have := hD (inR n s u)
      omega
/-- without one of the constraints there is one -/
theorem rt_cut {D : Nat → Int} {n s k i : Nat} {p : Int} (hi : i < n) (hk : k < n) (hp : 0 ≤ p) (h1 : ∀ j, D j = if j = k then p else 0) {l : List Nat} (hl : i ∉ l) : ∃ y, Sat (fun e => e ∈ esA n (pick (rtS D n s n) l)) y := by
  obtain ⟨y, hy⟩ := ring_cut (D := fun u => if u = roR n s k then 1 else 0) (n := n) (k := roR n s k) (i := roR n s i) (roR_lt (by omega)) (fun _ => rfl) (l := (List.range n).filter fun u => u != roR n s i) (by simp)
  have h2 := sat_es.1 hy
  refine ⟨fun u => p * y u, sat_es.2 ⟨fun u hu => Int.mul_le_mul_of_nonneg_left (h2.1 u hu) hp, fun c hc => ?_⟩⟩
  obtain ⟨j, hj, hcj⟩ := pick_mem.1 hc
  have hjn : j < n := by have := (List.getElem?_eq_some_iff.1 hcj).1; rwa [rtS_len] at this
  rw [rtS_at hjn] at hcj
  cases hcj
  have hji : j ≠ i := fun e => hl (e ▸ hj)
  have hro : roR n s j ≠ roR n s i := fun e => hji (roR_inj hjn hi e)
  have hrl : roR n s j < n := roR_lt (by omega)
  have h3 := lnk_hol2.1 (h2.2 _ (pick_mem.2 ⟨roR n s j, List.mem_filter.2 ⟨List.mem_range.2 hrl, by simpa using hro⟩, rgS_at hrl⟩))
  refine lnk_hol2.2 ⟨Int.mul_le_mul_of_nonneg_left h3.1 hp, ?_⟩
  have h4 := Int.mul_le_mul_of_nonneg_left h3.2 hp
  rw [Int.mul_add] at h4
  try dsimp only at h4 ⊢
  rw [h1]
  by_cases e : j = k
  · subst e
    rw [if_pos rfl, Int.mul_one] at h4
    rw [if_pos rfl]
    exact h4
  · rw [if_neg (fun e2 => e (roR_inj hjn hk e2)), Int.mul_zero] at h4
    rw [if_neg e]
    exact h4
theorem rt_core {D : Nat → Int} {n s k : Nat} {p : Int} {core : List Nat} (hk : k < n) (hp : 0 ≤ p) (h1 : ∀ j, D j = if j = k then p else 0) (hc : CoreOf n (rtS D n s n) core) (hs : core.Pairwise (· < ·)) : core = List.range n := by
  rw [List.range_eq_range']
  have := rising_all core 0 n hs fun x => ⟨fun hx => ⟨Nat.zero_le _, by have := hc.lt x hx; rwa [rtS_len] at this⟩, fun hx => Classical.byContradiction fun hn => by
    obtain ⟨y, hy⟩ := rt_cut (D := D) (s := s) (k := k) hx.2 hk hp h1 hn
    exact hc.no y hy⟩
  rw [this, Nat.sub_zero]
theorem rtS_b {D : Nat → Int} {n s m : Nat} {p : Int} (hp : 0 ≤ p) (hD : ∀ i, 0 ≤ D i ∧ D i ≤ p) : ∀ e ∈ esA n (rtS D n s m), e.b ≤ p := fun e he => by
  unfold esA at he
  rcases List.mem_append.1 he with h | h
  · obtain ⟨i, hi, h1⟩ := esC_mem.1 h
    rw [rtS_len] at hi
    rw [foC_at (rtS_at hi)] at h1
    have h2 := hD i
    simp [edgC, lnk, lessC] at h1
    rcases h1 with rfl | rfl
    · exact hp
    · exact h2.2
  · unfold zeC at h
    obtain ⟨u, _, rfl⟩ := List.mem_map.1 h
    exact hp
theorem rtS_zero (n s m : Nat) : Sat (fun e => e ∈ esA n (rtS (fun _ => 0) n s m)) (fun _ => 0) := rtS_sat.2 ⟨fun _ _ => Int.le_refl _, fun _ _ => ⟨Int.le_refl _, Int.le_refl _⟩⟩
/-- the links -/
def rtK (D : Nat → Int) (n s m : Nat) : List LkC := (List.range m).map fun i : Nat => ((roR n s i : Int), D i, (nxR n (roR n s i) : Int))
theorem rtK_lk (D : Nat → Int) (n s m : Nat) : (rtK D n s m).map lkC3 = rtS D n s m := by unfold rtK rtS; rw [List.map_map]; rfl
theorem rtK_snoc (D : Nat → Int) (n s m : Nat) : rtK D n s (m + 1) = rtK D n s m ++ [((roR n s m : Int), D m, (nxR n (roR n s m) : Int))] := by simp [rtK, List.range_succ]
theorem rtK_at {D : Nat → Int} {n s m i : Nat} (hi : i < m) : (rtK D n s m)[i]? = some ((roR n s i : Int), D i, (nxR n (roR n s i) : Int)) := by simp [rtK, hi]
theorem rtK_put {n s m k : Nat} {p : Int} : (rtK (fun _ => 0) n s m).set k ((roR n s k : Int), p, (nxR n (roR n s k) : Int)) = rtK (fun j => if j = k then p else 0) n s m := by
  refine List.ext_getElem? fun j => ?_
  rw [List.getElem?_set]
  by_cases e : k = j
  · subst e
    rw [if_pos rfl]
    by_cases hk : k < m
    · rw [if_pos (by simpa [rtK] using hk), rtK_at hk, if_pos rfl]
    · rw [if_neg (by simpa [rtK] using hk), List.getElem?_eq_none (by simp [rtK]; omega)]
  · rw [if_neg e]
    by_cases hj : j < m
    · rw [rtK_at hj, rtK_at hj, if_neg (fun e' => e e'.symm)]
    · rw [List.getElem?_eq_none (by simp [rtK]; omega), List.getElem?_eq_none (by simp [rtK]; omega)]
/-- such constraints as cells; the left sides' rows P are apart from each other and from the right sides' rows Q, and they lie from a on and below b -/
def RVd (w : World) (a b : Nat) (xs : List Value) (ks : List LkC) (P Q : Nat → Nat) : Prop :=
  xs.length = ks.length * 4 ∧ (∀ i k, ks[i]? = some k → a ≤ P i ∧ P i < b ∧ Q i < b ∧ xs[i * 4]? = some (.int .i64 0) ∧ xs[i * 4 + 1]? = some (.slice (some ⟨P i, 0, none⟩) 1 1) ∧ xs[i * 4 + 2]? = some (.int .i64 0) ∧ xs[i * 4 + 3]? = some (.slice (some ⟨Q i, 0, none⟩) 1 1) ∧ w.heap[P i]? = some (.cells #[.int .i64 k.1, .int .i64 k.2.1] 27) ∧ w.heap[Q i]? = some (.cells #[.int .i64 k.2.2, .int .i64 0] 27)) ∧
  (∀ i j, i < ks.length → j < ks.length → (i ≠ j → P i ≠ P j) ∧ P i ≠ Q j)
theorem RVd.keep {w w' : World} {a b b' : Nat} {xs : List Value} {ks : List LkC} {P Q : Nat → Nat} (h : RVd w a b xs ks P Q) (k : KV w w') (hb : b ≤ b') : RVd w' a b' xs ks P Q :=
  ⟨h.1, fun i x hi => by
    obtain ⟨a0, a1, a2, h0, h1, h2, h3, h4, h5⟩ := h.2.1 i x hi
    exact ⟨a0, by omega, by omega, h0, h1, h2, h3, k _ _ h4, k _ _ h5⟩, h.2.2⟩
theorem RVd.nil (w : World) (a b : Nat) (P Q : Nat → Nat) : RVd w a b [] [] P Q := ⟨rfl, fun i k hi => by simp at hi, fun i j hi => by simp at hi⟩
theorem RVd.rvc {w : World} {a b : Nat} {xs : List Value} {ks : List LkC} {P Q : Nat → Nat} (h : RVd w a b xs ks P Q) : RVc w xs ks :=
  ⟨h.1, fun i k hi => by
    obtain ⟨a0, a1, a2, h0, h1, h2, h3, h4, h5⟩ := h.2.1 i k hi
    exact ⟨_, _, h0, h1, h2, h3, h4, h5⟩⟩
theorem RVd.snoc {w : World} {a b b' : Nat} {xs : List Value} {ks : List LkC} {k : LkC} {q1 q2 : Nat} {P Q : Nat → Nat} (h : RVd w a b xs ks P Q) (hab : a ≤ b) (hb1 : b ≤ q1) (hb2 : b ≤ q2) (hne : q1 ≠ q2) (hb' : q1 < b' ∧ q2 < b') (h4 : w.heap[q1]? = some (.cells #[.int .i64 k.1, .int .i64 k.2.1] 27)) (h5 : w.heap[q2]? = some (.cells #[.int .i64 k.2.2, .int .i64 0] 27)) :
    RVd w a b' (xs ++ [.int .i64 0, .slice (some ⟨q1, 0, none⟩) 1 1, .int .i64 0, .slice (some ⟨q2, 0, none⟩) 1 1]) (ks ++ [k]) (fun i => if i < ks.length then P i else q1) (fun i => if i < ks.length then Q i else q2) := by
  have hl := h.1
  refine ⟨by simp [hl]; omega, fun i x hi => ?_, fun i j hi hj => ?_⟩
  · by_cases hij : i < ks.length
    · rw [List.getElem?_append_left hij] at hi
      obtain ⟨a0, a1, a2, g0, g1, g2, g3, g4, g5⟩ := h.2.1 i x hi
      simp only [if_pos hij]
      refine ⟨a0, by omega, by omega, ?_, ?_, ?_, ?_, g4, g5⟩ <;> (rw [List.getElem?_append_left (by omega)]; assumption)
    · obtain rfl : i = ks.length := by
        have := (List.getElem?_eq_some_iff.1 hi).1
        simp at this
        omega
      simp at hi
      subst hi
      simp only [if_neg (Nat.lt_irrefl _)]
      refine ⟨by omega, hb'.1, hb'.2, ?_, ?_, ?_, ?_, h4, h5⟩
      · rw [List.getElem?_append_right (by omega), show ks.length * 4 - xs.length = 0 by omega]; rfl
      · rw [List.getElem?_append_right (by omega), show ks.length * 4 + 1 - xs.length = 1 by omega]; rfl
      · rw [List.getElem?_append_right (by omega), show ks.length * 4 + 2 - xs.length = 2 by omega]; rfl
      · rw [List.getElem?_append_right (by omega), show ks.length * 4 + 3 - xs.length = 3 by omega]; rfl
  · simp at hi hj
    try dsimp only
    have hA : ∀ i, i < ks.length → P i < b ∧ Q i < b := fun i hi => by
      obtain ⟨_, a1, a2, _⟩ := h.2.1 i _ (List.getElem?_eq_getElem hi)
      exact ⟨a1, a2⟩
    by_cases h1 : i < ks.length
    · by_cases h2 : j < ks.length
      · rw [if_pos h1, if_pos h2, if_pos h2]; exact h.2.2 i j h1 h2
      · rw [if_pos h1, if_neg h2, if_neg h2]
        have := hA i h1
        exact ⟨fun _ => by omega, by omega⟩
    · by_cases h2 : j < ks.length
      · rw [if_neg h1, if_pos h2, if_pos h2]
        have := hA j h2
        exact ⟨fun _ => by omega, by omega⟩
      · rw [if_neg h1, if_neg h2, if_neg h2]
        exact ⟨fun h9 => absurd (show i = j by omega) h9, hne⟩
/-- the number of one constraint's left side is put anew -/
theorem RVd.put {w : World} {a b : Nat} {xs : List Value} {ks : List LkC} {k : LkC} {i : Nat} {p : Int} {P Q : Nat → Nat} (h : RVd w a b xs ks P Q) (hi : ks[i]? = some k) :
    RVc (w.setCell ⟨P i, 1, none⟩ (.int .i64 p)) xs (ks.set i (k.1, p, k.2.2)) := by
  have hil := (List.getElem?_eq_some_iff.1 hi).1
  refine ⟨by rw [List.length_set]; exact h.1, fun j x hj => ?_⟩
  by_cases e : i = j
  · subst e
    rw [List.getElem?_set_self hil] at hj
    cases hj
    obtain ⟨_, _, _, h0, h1, h2, h3, h4, h5⟩ := h.2.1 i k hi
    refine ⟨_, _, h0, h1, h2, h3, ?_, ?_⟩
    · unfold World.setCell
      simp only [Array.getElem?_modify]
      rw [if_pos trivial, h4]
      rfl
    · exact (Below.heap_setCell w ⟨P i, 1, none⟩ _ _ (fun e => (h.2.2 i i hil hil).2 e.symm)).trans h5
  · rw [List.getElem?_set_ne e] at hj
    have hjl := (List.getElem?_eq_some_iff.1 hj).1
    obtain ⟨_, _, _, h0, h1, h2, h3, h4, h5⟩ := h.2.1 j x hj
    refine ⟨_, _, h0, h1, h2, h3, ?_, ?_⟩
    · exact (Below.heap_setCell w ⟨P i, 1, none⟩ _ _ (fun e2 => (h.2.2 i j hil hjl).1 e e2.symm)).trans h4
    · exact (Below.heap_setCell w ⟨P i, 1, none⟩ _ _ (fun e2 => (h.2.2 i j hil hjl).2 e2.symm)).trans h5
end Go.Proofs.Ytapajkfnpkekdaa
