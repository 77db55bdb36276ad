/-
  ChAll: the texts GChainM, GChainW, GChainL, one behind another.
-/
import Derived.Test.YtapajkfnpkekdaaGMinM
import Derived.Test.YtapajkfnpkekdaaGFolP
/-
  Chains of constraints: their least numbers are the sums of the steps; which steps follow. No walk in this text.
-/
namespace Go.Proofs.Ytapajkfnpkekdaa

/-- the step that counts at place i: what is given there, from 0 to 1000, otherwise 0 -/
def stp (l : List Int) (i : Nat) : Int := match l[i]? with | some x => if 0 ≤ x ∧ x ≤ 1000 then x else 0 | none => 0
theorem stp_ok (l : List Int) (i : Nat) : 0 ≤ stp l i ∧ stp l i ≤ 1000 := by
  unfold stp
  split
  · split <;> omega
  · omega
/-- is there a step at place i that counts? -/
def inB (l : List Int) (i : Nat) : Bool := match l[i]? with | some x => decide (0 ≤ x ∧ x ≤ 1000) | none => false
theorem inB_yes {l : List Int} {i : Nat} (h : inB l i = true) : ∃ x, l[i]? = some x ∧ stp l i = x := by
  unfold inB at h
  cases hx : l[i]? with
  | none => rw [hx] at h; cases h
  | some x =>
    rw [hx] at h
    exact ⟨x, rfl, by unfold stp; rw [hx]; exact if_pos (of_decide_eq_true h)⟩
theorem inB_no {l : List Int} {i : Nat} (h : inB l i = false) : stp l i = 0 := by
  unfold inB at h
  unfold stp
  cases hx : l[i]? with
  | none => rfl
  | some x =>
    rw [hx] at h
    exact if_neg (of_decide_eq_false h)
theorem inB_at {l : List Int} {i : Nat} {x : Int} (h : l[i]? = some x) : inB l i = decide (0 ≤ x ∧ x ≤ 1000) := by unfold inB; rw [h]
/-- one constraint of one variable's level and a number, and one variable -/
def lnk (f d t : Int) : LCn := ((0, [(f, d)]), (0, [(t, 0)]))
def chC (l : List Int) (i : Nat) : LCn := lnk i (stp l i) ((i : Int) + 1)
def chS (l : List Int) (m : Nat) : List LCn := (List.range m).map (chC l)
def suF (l : List Int) : Nat → Int
  | 0 => 0
  | i + 1 => suF l i + stp l i
theorem chS_len (l : List Int) (m : Nat) : (chS l m).length = m := by simp [chS]
theorem chS_snoc (l : List Int) (m : Nat) : chS l (m + 1) = chS l m ++ [chC l m] := by simp [chS, List.range_succ]
theorem suF_nn (l : List Int) : ∀ i, 0 ≤ suF l i
  | 0 => Int.le_refl _
  | i + 1 => by
    have h1 := suF_nn l i
    have h2 := (stp_ok l i).1
    show 0 ≤ suF l i + stp l i
    omega
theorem suF_le (l : List Int) : ∀ i : Nat, suF l i ≤ 1000 * (i : Int)
  | 0 => by show (0 : Int) ≤ _; omega
  | i + 1 => by
    have h1 := suF_le l i
    have h2 := (stp_ok l i).2
    show suF l i + stp l i ≤ _
    omega
theorem suF_mono (l : List Int) {a b : Nat} (h : a ≤ b) : suF l a ≤ suF l b := by
  induction h with
  | refl => exact Int.le_refl _
  | @step m _ ih =>
    have h2 := (stp_ok l m).1
    show suF l a ≤ suF l m + stp l m
    omega
theorem lnk_con {n : Nat} {f d t : Int} (hn : n ≤ 1200) (hf : 0 ≤ f ∧ f < n) (hd : 0 ≤ d ∧ d ≤ 1000) (ht : 0 ≤ t ∧ t < n) : conB (n : Int) (lnk f d t) = true := by
  have a := vld_one (v := f) (p := d) (by omega) hd
  have b := vld_one (v := t) (p := 0) (by omega) (by omega)
  have c1 : ¬ (n : Int) ≤ f := by omega
  have c2 : ¬ (n : Int) ≤ t := by omega
  simp [conB, belowB, rightB, gev, lnk, a, b, c1, c2]
theorem lnk_hol {n : Nat} {f d t : Int} {y : Nat → Int} : (∀ e ∈ edgC n (lnk f d t) 0, hol y e) ↔ y n ≤ y t.toNat ∧ y f.toNat + d ≤ y t.toNat := by
  simp [edgC, lnk, toC, lessC, hol]
theorem chS_mem {l : List Int} {m : Nat} {c : LCn} : c ∈ chS l m ↔ ∃ i, i < m ∧ c = chC l i := by
  unfold chS
  rw [List.mem_map]
  constructor
  · rintro ⟨i, hi, rfl⟩; exact ⟨i, List.mem_range.1 hi, rfl⟩
  · rintro ⟨i, hi, rfl⟩; exact ⟨i, List.mem_range.2 hi, rfl⟩
theorem chS_gvld (l : List Int) {n : Nat} (h1 : 1 ≤ n) (hn : n ≤ 1200) : gvld (n : Int) (chS l (n - 1)) = true := by
  unfold gvld
  rw [Bool.and_eq_true, decide_eq_true_eq, chS_len]
  refine ⟨by omega, List.all_eq_true.2 fun c hc => ?_⟩
  obtain ⟨i, hi, rfl⟩ := chS_mem.1 hc
  exact lnk_con hn (by omega) (stp_ok l i) (by omega)
theorem chS_sat {l : List Int} {n m : Nat} {y : Nat → Int} : Sat (fun e => e ∈ esA n (chS l m)) y ↔ (∀ u, u < n → y n ≤ y u) ∧ ∀ i, i < m → y n ≤ y (i + 1) ∧ y i + stp l i ≤ y (i + 1) := by
  rw [sat_es]
  refine and_congr Iff.rfl ⟨fun h i hi => ?_, fun h c hc => ?_⟩
  · have h1 := lnk_hol.1 (h (chC l i) (chS_mem.2 ⟨i, hi, rfl⟩))
    have e1 : ((i : Int) + 1).toNat = i + 1 := by omega
    rw [e1, Int.toNat_natCast] at h1
    exact h1
  · obtain ⟨i, hi, rfl⟩ := chS_mem.1 hc
    refine lnk_hol.2 ?_
    have e1 : ((i : Int) + 1).toNat = i + 1 := by omega
    rw [e1, Int.toNat_natCast]
    exact h i hi
/-- the sums of the steps, and none elsewhere -/
def suN (l : List Int) (n : Nat) (v : Nat) : Int := if v < n then suF l v else 0
theorem suN_sat (l : List Int) (n : Nat) : Sat (fun e => e ∈ esA n (chS l (n - 1))) (suN l n) := by
  refine chS_sat.2 ⟨fun u hu => ?_, fun i hi => ?_⟩
  · show (if n < n then suF l n else 0) ≤ (if u < n then suF l u else 0)
    rw [if_neg (by omega), if_pos hu]
    exact suF_nn l u
  · show (if n < n then suF l n else 0) ≤ (if i + 1 < n then suF l (i + 1) else 0) ∧ (if i < n then suF l i else 0) + stp l i ≤ (if i + 1 < n then suF l (i + 1) else 0)
    rw [if_neg (by omega), if_pos (by omega), if_pos (by omega)]
    exact ⟨suF_nn l _, Int.le_refl _⟩
def sums (l : List Int) (n : Nat) : List Int := (List.range n).map (suF l)
/-- the sums are the least numbers -/
theorem ch_sol {l : List Int} {n : Nat} {xs : List Int} (h : Lst (fun e => e ∈ esA n (chS l (n - 1))) (gx xs)) : solL n xs = sums l n := by
  have hle := h.least _ (suN_sat l n) (fun v => by
    show 0 ≤ (if v < n then suF l v else 0)
    split
    · exact suF_nn l v
    · exact Int.le_refl _)
  have hn := hle n
  have hn0 := h.nn n
  have e0 : suN l n n = 0 := by unfold suN; rw [if_neg (by omega)]
  rw [e0] at hn
  have hs := (chS_sat.1 h.sat).2
  have hge : ∀ v, v < n → suF l v ≤ gx xs v := by
    intro v
    induction v with
    | zero => intro _; exact h.nn 0
    | succ i ih =>
      intro hi
      have h1 := ih (by omega)
      have h2 := (hs i (by omega)).2
      show suF l i + stp l i ≤ _
      omega
  unfold solL sums
  refine List.map_congr_left fun v hv => ?_
  have hv := List.mem_range.1 hv
  have h1 := hge v hv
  have h2 := hle v
  have e1 : suN l n v = suF l v := by unfold suN; rw [if_pos hv]
  rw [e1] at h2
  omega
theorem ch_ok {l : List Int} {n f t : Nat} {d : Int} (h1 : 1 ≤ n) (hn : n ≤ 1200) (hf : f < t) (ht : t < n) (hd : 0 ≤ d ∧ d ≤ 1000) : folOk (n : Int) (chS l (n - 1)) (lnk f d t) = true := by
  unfold folOk
  rw [chS_gvld l h1 hn, lnk_con hn (by omega) hd (by omega), chS_len, decide_eq_true (by omega)]
  rfl
theorem ch_diff {l : List Int} {m : Nat} {y : Nat → Int} (hs : ∀ i, i < m → y i + stp l i ≤ y (i + 1)) {f t : Nat} (hft : f ≤ t) (ht : t ≤ m) : y f + (suF l t - suF l f) ≤ y t := by
  induction hft with
  | refl => omega
  | @step k hk ih =>
    have h1 := ih (by omega)
    have h2 := hs k (by omega)
    show y f + (suF l k + stp l k - suF l f) ≤ y (k + 1)
    omega
/-- what is no more than the sum of the steps between follows -/
theorem ch_yes {l : List Int} {n f t : Nat} {d : Int} (hf : f < t) (ht : t < n) (hd : d ≤ suF l t - suF l f) : folB (Sat fun e => e ∈ esA n (chS l (n - 1))) (edgC n (lnk f d t) 0) = true := by
  refine folB_iff.2 fun y hy => lnk_hol.2 ?_
  obtain ⟨h1, h2⟩ := chS_sat.1 hy
  rw [Int.toNat_natCast, Int.toNat_natCast]
  have h3 := ch_diff (m := n - 1) (fun i hi => (h2 i hi).2) (Nat.le_of_lt hf) (by omega)
  exact ⟨h1 t ht, by omega⟩
/-- what is more doesn't -/
theorem ch_no {l : List Int} {n f t : Nat} {d : Int} (hf : f < t) (ht : t < n) (hd : suF l t - suF l f < d) : folB (Sat fun e => e ∈ esA n (chS l (n - 1))) (edgC n (lnk f d t) 0) = false := by
  refine folB_false fun h => ?_
  have h1 := (lnk_hol.1 (h _ (suN_sat l n))).2
  rw [Int.toNat_natCast, Int.toNat_natCast] at h1
  have e1 : suN l n f = suF l f := by unfold suN; rw [if_pos (by omega)]
  have e2 : suN l n t = suF l t := by unfold suN; rw [if_pos ht]
  rw [e1, e2] at h1
  omega
/-- the sums so far, and zeros -/
def sumT (l : List Int) (n j : Nat) : List Int := (List.range n).map fun v => if v ≤ j then suF l v else 0
theorem sumT_len (l : List Int) (n j : Nat) : (sumT l n j).length = n := by simp [sumT]
theorem sumT_zero (l : List Int) (n : Nat) : sumT l n 0 = List.replicate n 0 := by
  refine List.ext_getElem (by simp [sumT]) fun i h1 h2 => ?_
  simp [sumT]
  intro h
  subst h
  rfl
theorem sumT_at {l : List Int} {n j v : Nat} (hv : v < n) (h : v ≤ j) : (sumT l n j)[v]? = some (suF l v) := by
  simp [sumT, hv, h]
theorem sumT_above {l : List Int} {n j v : Nat} (hv : v < n) (h : j < v) : (sumT l n j)[v]? = some 0 := by
  have h2 : ¬ v ≤ j := by omega
  simp [sumT, hv, h2]
theorem sumT_set {l : List Int} {n j : Nat} : (sumT l n j).set (j + 1) (suF l j + stp l j) = sumT l n (j + 1) := by
  refine List.ext_getElem (by simp [sumT]) fun i h1 h2 => ?_
  rw [List.getElem_set]
  by_cases h : j + 1 = i
  · subst h
    simp [sumT]
    rfl
  · rw [if_neg h]
    have h3 : i ≤ j ↔ i ≤ j + 1 := by omega
    simp [sumT, h3]
theorem sums_at {l : List Int} {n v : Nat} (hv : v < n) : (sums l n)[v]? = some (suF l v) := by simp [sums, hv]
theorem sumT_all {l : List Int} {n j : Nat} (h : n ≤ j + 1) : sumT l n j = sums l n := by
  unfold sumT sums
  refine List.map_congr_left fun v hv => ?_
  have := List.mem_range.1 hv
  rw [if_pos (by omega)]
end Go.Proofs.Ytapajkfnpkekdaa

/-
  A row of constraints that a loop makes, each with two rows of its own: what of it stays through calls, appends and stores.
-/
namespace Go.Proofs.Ytapajkfnpkekdaa
open Go Go.RowKit

theorem own_type_ne' {w : World} {base : Nat} {e t : TypeId} {size n q : Nat} {v : Value} {xs : List Value} (h : w.ownsRow base e size v n xs) (hq : ∃ cs fr, w.heap[q]? = some (.cells cs t fr)) (ht : t ≠ e) : v.ownBlock ≠ some q := by
  rintro he
  obtain ⟨cs, fr, hq⟩ := hq
  rcases h.2 with ⟨rfl, _⟩ | ⟨g, cap, cur, rfl, _, hg, _⟩
  · simp [Value.ownBlock] at he
  · simp only [Value.ownBlock, Option.some.injEq] at he
    subst he
    rw [hg] at hq
    injection hq with hq
    injection hq with _ hq _
    exact ht hq.symm
set_option maxRecDepth 100000 in
set_option maxHeartbeats 4000000 in
/-- the first j constraints of a chain, as cells -/
def LV (w : World) (xs : List Value) (l : List Int) (j : Nat) : Prop :=
  xs.length = j * 4 ∧ ∀ i, i < j → ∃ q1 q2, xs[i * 4]? = some (.int .i64 0) ∧ xs[i * 4 + 1]? = some (.slice (some ⟨q1, 0, none⟩) 1 1) ∧ xs[i * 4 + 2]? = some (.int .i64 0) ∧ xs[i * 4 + 3]? = some (.slice (some ⟨q2, 0, none⟩) 1 1) ∧ w.heap[q1]? = some (.cells #[.int .i64 i, .int .i64 (stp l i)] 27) ∧ w.heap[q2]? = some (.cells #[.int .i64 ((i : Int) + 1), .int .i64 0] 27)
/-- rows of parts stay -/
def KV (w w' : World) : Prop := ∀ (q : Nat) (cs : Array Value), w.heap[q]? = some (.cells cs 27) → w'.heap[q]? = some (.cells cs 27)
theorem LV.keep {w w' : World} {xs : List Value} {l : List Int} {j : Nat} (h : LV w xs l j) (k : KV w w') : LV w' xs l j :=
  ⟨h.1, fun i hi => by
    obtain ⟨q1, q2, h0, h1, h2, h3, h4, h5⟩ := h.2 i hi
    exact ⟨q1, q2, h0, h1, h2, h3, k _ _ h4, k _ _ h5⟩⟩
theorem LV.nil (w : World) (l : List Int) : LV w [] l 0 := ⟨rfl, fun i hi => by omega⟩
theorem KV.below {w w' : World} (h : Below w.heap.size w w') : KV w w' := fun q _ hq => (h.block q (Array.getElem?_eq_some_iff.1 hq).1).trans hq
theorem KV.trans {a b c : World} (h : KV a b) (g : KV b c) : KV a c := fun q cs hq => g q cs (h q cs hq)
theorem KV.grown {w w' : World} {base n : Nat} {v : Value} {xs : List Value} (hown : w.ownsRow base 32 4 v n xs) (hg : w.grownBy w' v.ownBlock) : KV w w' := fun q cs hq => by
  have hne := own_type_ne' hown ⟨cs, _, hq⟩ (by decide)
  exact (hg.block q (Array.getElem?_eq_some_iff.1 hq).1 (fun e => hne e.symm)).trans hq
theorem KV.setCell {w : World} {base g n : Nat} {xs : List Value} (hown : w.ownsRow base 3 1 (.slice (some ⟨g, 0, none⟩) n n) n xs) (k : Nat) (u : Value) : KV w (w.setCell ⟨g, k, none⟩ u) := fun q cs hq => by
  have hne := own_type_ne' hown ⟨cs, _, hq⟩ (by decide)
  exact (Below.heap_setCell w ⟨g, k, none⟩ u q (fun e => hne (by subst e; rfl))).trans hq
theorem row_type {w : World} {base g n c size : Nat} {e : TypeId} {xs : List Value} (hown : w.ownsRow base e size (.slice (some ⟨g, 0, none⟩) n c) n xs) : ∃ cs fr, w.heap[g]? = some (.cells cs e fr) := by
  rcases hown.2 with ⟨h, _⟩ | ⟨g', cap, cur, h, _, hg, _⟩
  · cases h
  · cases h; exact ⟨_, _, hg⟩
/-- the row of sums is not the row of constraints -/
theorem rows_apart {w : World} {base base' g n m : Nat} {v : Value} {xs ys : List Value} (hs : w.ownsRow base 3 1 (.slice (some ⟨g, 0, none⟩) n n) n xs) (hl : w.ownsRow base' 32 4 v m ys) : v.ownBlock ≠ some g :=
  own_type_ne' hl (row_type hs) (by decide)
theorem sum_grown {w w' : World} {base base' g n m : Nat} {v : Value} {xs ys : List Value} (hs : w.ownsRow base 3 1 (.slice (some ⟨g, 0, none⟩) n n) n xs) (hl : w.ownsRow base' 32 4 v m ys) (hg : w.grownBy w' v.ownBlock) : w'.ownsRow base 3 1 (.slice (some ⟨g, 0, none⟩) n n) n xs := by
  have hne := rows_apart hs hl
  have hlt := (own_lt hs).2
  exact ⟨hs.1, hs.2.imp id fun ⟨g', cap, cur, e1, e2, e3, e4⟩ => ⟨g', cap, cur, e1, e2, by cases e1; exact (hg.block g hlt (fun e => hne e.symm)).trans e3, e4⟩⟩
theorem pl_heap {w : World} {q : Nat} {x p : Int} (h : w.heap[q]? = some (.cells #[.int .i64 x, .int .i64 p] 27)) : PL w w.heap.size (some ⟨q, 0, none⟩) 1 [(x, p)] := by
  refine ⟨rfl, fun _ => ⟨q, 0, rfl, (Array.getElem?_eq_some_iff.1 h).1, fun j y hy => ?_⟩⟩
  match j, hy with
  | 0, hy => simp at hy; subst hy; exact ⟨by simp [World.cell?, h], by simp [World.cell?, h]⟩
  | j + 1, hy => simp at hy
theorem lv_ok {w : World} {q : Nat} {x p : Int} (h : w.heap[q]? = some (.cells #[.int .i64 x, .int .i64 p] 27)) : LvOk w w.heap.size (.slice (some ⟨q, 0, none⟩) 1 1) [(x, p)] := ⟨_, _, _, rfl, pl_heap h, by omega, by omega⟩
theorem LV.cv {w : World} {xs : List Value} {l : List Int} {j : Nat} (h : LV w xs l j) : CV w w.heap.size xs (chS l j) := by
  refine ⟨by rw [chS_len, h.1], fun i c hc => ?_⟩
  have hi : i < j := by have := (List.getElem?_eq_some_iff.1 hc).1; rwa [chS_len] at this
  obtain ⟨q1, q2, h0, h1, h2, h3, h4, h5⟩ := h.2 i hi
  have e : c = chC l i := by
    have : (chS l j)[i]? = some (chC l i) := by simp [chS, hi]
    exact Option.some.inj (hc.symm.trans this)
  subst e
  exact ⟨_, _, h0, h1, h2, h3, lv_ok h4, lv_ok h5⟩
theorem LV.snoc {w : World} {xs : List Value} {l : List Int} {j q1 q2 : Nat} (h : LV w xs l j) (h4 : w.heap[q1]? = some (.cells #[.int .i64 j, .int .i64 (stp l j)] 27)) (h5 : w.heap[q2]? = some (.cells #[.int .i64 ((j : Int) + 1), .int .i64 0] 27)) :
    LV w (xs ++ [.int .i64 0, .slice (some ⟨q1, 0, none⟩) 1 1, .int .i64 0, .slice (some ⟨q2, 0, none⟩) 1 1]) l (j + 1) := by
  have hl := h.1
  refine ⟨by simp [hl]; omega, fun i hi => ?_⟩
  by_cases hij : i < j
  · obtain ⟨r1, r2, g0, g1, g2, g3, g4, g5⟩ := h.2 i hij
    refine ⟨r1, r2, ?_, ?_, ?_, ?_, g4, g5⟩ <;> (rw [List.getElem?_append_left (by omega)]; assumption)
  · obtain rfl : i = j := by omega
    refine ⟨q1, q2, ?_, ?_, ?_, ?_, h4, h5⟩
    · rw [List.getElem?_append_right (by omega), show i * 4 - xs.length = 0 by omega]; rfl
    · rw [List.getElem?_append_right (by omega), show i * 4 + 1 - xs.length = 1 by omega]; rfl
    · rw [List.getElem?_append_right (by omega), show i * 4 + 2 - xs.length = 2 by omega]; rfl
    · rw [List.getElem?_append_right (by omega), show i * 4 + 3 - xs.length = 3 by omega]; rfl
end Go.Proofs.Ytapajkfnpkekdaa

/-
  The law GraphChains.
-/
namespace Go.Proofs.Ytapajkfnpkekdaa
open Go Go.RowKit

theorem made_zeros (n : Nat) : (madeCells #[Value.int .i64 0] n).toList = int1 (List.replicate n 0) := by
  refine List.ext_getElem? fun j => ?_
  by_cases hj : j < n
  · simp [madeCells, int1, hj, Nat.mod_one]
  · rw [List.getElem?_eq_none (by simp [madeCells]; omega), List.getElem?_eq_none (by simp [int1]; omega)]

end Go.Proofs.Ytapajkfnpkekdaa
