/-
  Variables numbered from the other end: the same system, and its solution turned around. No walk in this text.
-/
import Derived.Test.YtkbhmkngipdkiaaGRExt
import Derived.Test.YtkbhmkngipdkiaaGMinM
namespace Go.Proofs.Ytkbhmkngipdkiaa
open Go Go.RowKit

def turn1 (n : Nat) (x : Int × Int) : Int × Int := ((n : Int) - 1 - x.1, x.2)
def turnV (n : Nat) (l : List (Int × Int)) : List (Int × Int) := l.map (turn1 n)
def turnC (n : Nat) (c : LCn) : LCn := ((c.1.1, turnV n c.1.2), (c.2.1, turnV n c.2.2))
def turnL (n : Nat) (cs : List LCn) : List LCn := cs.map (turnC n)
def sg (n v : Nat) : Nat := if v < n then n - 1 - v else v
theorem sg_lt {n v : Nat} (h : v < n) : sg n v = n - 1 - v := if_pos h
theorem sg_ge {n v : Nat} (h : n ≤ v) : sg n v = v := if_neg (by omega)
theorem sg_sg (n v : Nat) : sg n (sg n v) = v := by
  by_cases h : v < n
  · rw [sg_lt h, sg_lt (show n - 1 - v < n by omega)]; omega
  · rw [sg_ge (show n ≤ v by omega), sg_ge (show n ≤ v by omega)]
theorem turn_at {n : Nat} {l : List (Int × Int)} {i : Nat} {y : Int × Int} (h : (turnV n l)[i]? = some y) : ∃ x, l[i]? = some x ∧ y = turn1 n x := by
  unfold turnV at h
  rw [List.getElem?_map] at h
  cases hx : l[i]? with
  | none => rw [hx] at h; cases h
  | some x => rw [hx] at h; exact ⟨x, rfl, (Option.some.inj h).symm⟩
theorem turn_below {n : Nat} {a : Int × List (Int × Int)} (hn : n ≤ 1200) (h : belowB n a = true) : belowB n (a.1, turnV n a.2) = true := by
  obtain ⟨_, hx, _⟩ := belowB_out h
  unfold belowB at h ⊢
  rw [Bool.and_eq_true] at h ⊢
  have hv := vld_iff.1 h.1
  refine ⟨vld_iff.2 ⟨hv.lo, hv.hi, by simpa [turnV] using hv.len, fun i y hi hy => ?_⟩, ?_⟩
  · obtain ⟨x, h1, rfl⟩ := turn_at hy
    have hi' : i < a.2.length := by simpa [turnV] using hi
    obtain ⟨⟨g1, g2⟩, g3, g4⟩ := hv.ok i x hi' h1
    have hm := hx x (List.mem_of_getElem? h1)
    refine ⟨by simp only [turn1]; omega, g3, ?_⟩
    cases hh : hasv ((turnV n a.2).take i) (turn1 n x).1 with
    | false => rfl
    | true =>
      exfalso
      unfold hasv at hh g4
      rw [List.any_eq_true] at hh
      obtain ⟨z, hz, he⟩ := hh
      unfold turnV at hz
      rw [← List.map_take] at hz
      obtain ⟨u, hu, rfl⟩ := List.mem_map.1 hz
      have h9 := List.any_eq_false.1 g4 u hu
      simp only [turn1, beq_iff_eq] at he h9
      exact h9 (by omega)
  · cases hh : gev (turnV n a.2) n with
    | false => rfl
    | true =>
      exfalso
      unfold gev at hh
      rw [List.any_eq_true] at hh
      obtain ⟨z, hz, he⟩ := hh
      obtain ⟨u, hu, rfl⟩ := List.mem_map.1 hz
      have hm := hx u hu
      have he2 := of_decide_eq_true he
      simp only [turn1] at he2
      omega
theorem turn_conB {n : Nat} {c : LCn} (hn : n ≤ 1200) (h : conB n c = true) : conB n (turnC n c) = true := by
  unfold conB at h ⊢
  rw [Bool.and_eq_true, Bool.and_eq_true] at h ⊢
  refine ⟨⟨turn_below hn h.1.1, turn_below hn h.1.2⟩, ?_⟩
  have h2 := h.2
  unfold rightB at h2 ⊢
  simpa [turnC, turnV] using h2
theorem turn_gvld {n : Nat} {cs : List LCn} (h : gvld n cs = true) : gvld n (turnL n cs) = true := by
  unfold gvld fitB at h ⊢
  rw [Bool.and_eq_true, decide_eq_true_eq, List.all_eq_true] at h ⊢
  obtain ⟨⟨h1, h2, h3⟩, h4⟩ := h
  refine ⟨⟨h1, h2, by simpa [turnL] using h3⟩, fun c hc => ?_⟩
  obtain ⟨d, hd, rfl⟩ := List.mem_map.1 hc
  exact turn_conB (by omega) (h4 d hd)
theorem turn_to {n : Nat} {c : LCn} (h : Con n c) : toC n (turnC n c) = sg n (toC n c) ∧ lessC (turnC n c) = lessC c := by
  rcases h.b1 with h0 | ⟨x, h0, _, h1, _⟩
  · simp [toC, lessC, turnC, h0, turnV, sg]
  · have : toC n c = x.1.toNat := by simp [toC, h0]
    rw [this, sg_lt (by omega)]
    refine ⟨?_, by simp [lessC, turnC, h0, turnV, turn1]⟩
    simp only [toC, turnC, h0, turnV, List.map_cons, List.map_nil, turn1]
    omega
/-- the edges of a turned constraint hold for numbers exactly if those of the constraint do for the turned numbers -/
theorem turn_hol {n : Nat} {c : LCn} (h : Con n c) {y : Nat → Int} : (∀ e ∈ edgC n (turnC n c) 0, hol y e) ↔ ∀ e ∈ edgC n c 0, hol (fun v => y (sg n v)) e := by
  obtain ⟨h1, h2⟩ := turn_to h
  unfold edgC
  rw [h1, h2]
  simp only [List.forall_mem_cons, List.forall_mem_map, turnC, turnV]
  refine and_congr ?_ ?_
  · unfold hol; dsimp only; rw [sg_ge (Nat.le_refl n)]
  · constructor
    · intro g x hx
      have := g x hx
      have hm := (h.a1 x hx).1
      unfold hol at this ⊢
      dsimp only [turn1] at this ⊢
      rw [sg_lt (show x.1.toNat < n by omega), show n - 1 - x.1.toNat = ((n : Int) - 1 - x.1).toNat by omega]
      exact this
    · intro g x hx
      have := g x hx
      have hm := (h.a1 x hx).1
      unfold hol at this ⊢
      dsimp only [turn1] at this ⊢
      rw [sg_lt (show x.1.toNat < n by omega), show n - 1 - x.1.toNat = ((n : Int) - 1 - x.1).toNat by omega] at this
      exact this
theorem turn_sat {n : Nat} {cs : List LCn} (hcs : ∀ c ∈ cs, Con n c) {y : Nat → Int} : Sat (fun e => e ∈ esA n (turnL n cs)) y ↔ Sat (fun e => e ∈ esA n cs) fun v => y (sg n v) := by
  rw [sat_es, sat_es]
  refine and_congr ?_ ?_
  · constructor
    · intro h u hu
      rw [sg_ge (Nat.le_refl n), sg_lt hu]
      exact h _ (by omega)
    · intro h u hu
      have := h (n - 1 - u) (by omega)
      rw [sg_ge (Nat.le_refl n), sg_lt (show n - 1 - u < n by omega), show n - 1 - (n - 1 - u) = u by omega] at this
      exact this
  · constructor
    · intro h c hc
      exact (turn_hol (hcs c hc)).1 (h _ (List.mem_map.2 ⟨c, hc, rfl⟩))
    · intro h d hd
      obtain ⟨c, hc, rfl⟩ := List.mem_map.1 hd
      exact (turn_hol (hcs c hc)).2 (h c hc)
/-- the least numbers of the turned system are those of the system, turned -/
theorem turn_lst {n : Nat} {cs : List LCn} (hcs : ∀ c ∈ cs, Con n c) {xs zs : List Int} (hx : Lst (fun e => e ∈ esA n cs) (gx xs)) (hz : Lst (fun e => e ∈ esA n (turnL n cs)) (gx zs)) (v : Nat) : gx zs v = gx xs (sg n v) := by
  have h1 := hx.least _ ((turn_sat hcs).1 hz.sat) (fun v => hz.nn _) (sg n v)
  have h2 := hz.least (fun v => gx xs (sg n v)) ((turn_sat hcs).2 (by
    have : (fun v => gx xs (sg n (sg n v))) = gx xs := by funext v; rw [sg_sg]
    show Sat _ fun v => gx xs (sg n (sg n v))
    rw [this]; exact hx.sat)) (fun v => hx.nn _) v
  rw [sg_sg] at h1
  omega
theorem turn_sol {n : Nat} {cs : List LCn} (hcs : ∀ c ∈ cs, Con n c) {xs zs : List Int} (hx : Lst (fun e => e ∈ esA n cs) (gx xs)) (hz : Lst (fun e => e ∈ esA n (turnL n cs)) (gx zs)) {v : Nat} (hv : v < n) : gx (solL n zs) v = gx (solL n xs) (n - 1 - v) := by
  have e1 : gx (solL n zs) v = gx zs v - gx zs n := gx_at (solL_at zs hv)
  have e2 : gx (solL n xs) (n - 1 - v) = gx xs (n - 1 - v) - gx xs n := gx_at (solL_at xs (by omega))
  rw [e1, e2, turn_lst hcs hx hz, turn_lst hcs hx hz, sg_lt hv, sg_ge (Nat.le_refl n)]
/-- the order of constraints does not matter -/
theorem sat_swap {n : Nat} {cs ds : List LCn} {y : Nat → Int} : Sat (fun e => e ∈ esA n (cs ++ ds)) y ↔ Sat (fun e => e ∈ esA n (ds ++ cs)) y := by
  rw [sat_es, sat_es]
  refine and_congr Iff.rfl ⟨fun h c hc => h c ?_, fun h c hc => h c ?_⟩
  · simp at hc ⊢; exact hc.symm
  · simp at hc ⊢; exact hc.symm
theorem gvld_swap {n : Int} {cs ds : List LCn} (h : gvld n (cs ++ ds) = true) : gvld n (ds ++ cs) = true := by
  have := (gvld_app n cs ds).1 h
  exact (gvld_app n ds cs).2 ⟨this.2.1, this.1, by omega⟩
end Go.Proofs.Ytkbhmkngipdkiaa
