/-
  What the edges say: a system of constraints holds at numbers exactly if its edges do; the least numbers. No walk in this text.
-/
import Derived.Test.YtapajkfnpkekdaaGSolve
import Derived.Test.YtapajkfnpkekdaaGHold
namespace Go.Proofs.Ytapajkfnpkekdaa

theorem valM_le_iff (vs : List Int) (z : Int) : ∀ (l : List (Int × Int)) (c : Int), valM c l vs ≤ z ↔ c ≤ z ∧ ∀ x ∈ l, gx vs x.1.toNat + x.2 ≤ z
  | [], c => by simp [valM]
  | x :: l, c => by
    have h := valM_le_iff vs z l (if c < gx vs x.1.toNat + x.2 then gx vs x.1.toNat + x.2 else c)
    have e : valM c (x :: l) vs = valM (if c < gx vs x.1.toNat + x.2 then gx vs x.1.toNat + x.2 else c) l vs := rfl
    rw [e, h]
    constructor
    · rintro ⟨h1, h2⟩
      refine ⟨by split at h1 <;> omega, fun y hy => ?_⟩
      rcases List.mem_cons.1 hy with rfl | hy
      · split at h1 <;> omega
      · exact h2 y hy
    · rintro ⟨h1, h2⟩
      have h3 := h2 x (by simp)
      exact ⟨by split <;> omega, fun y hy => h2 y (List.mem_cons_of_mem _ hy)⟩
theorem gx_out {vs : List Int} {n v : Nat} (h : vs.length = n) (hv : n ≤ v) : gx vs v = 0 := by
  unfold gx
  rw [List.getD_eq_getElem?_getD, List.getElem?_eq_none (by omega)]
  rfl
theorem gx_nn {vs : List Int} (h : Vs vs) (v : Nat) : 0 ≤ gx vs v := by
  unfold gx
  rw [List.getD_eq_getElem?_getD]
  cases hv : vs[v]? with
  | none => simp
  | some z => exact (h z (List.mem_of_getElem? hv)).1
/-- a constraint holds exactly if its edges do -/
theorem brk_iff {n k : Nat} {c : LCn} {vs : List Int} (hc : Con n c) (hl : vs.length = n) (hv : Vs vs) : brkB vs c = false ↔ ∀ e ∈ edgC n c k, hol (gx vs) e := by
  have hn := gx_out hl (Nat.le_refl n)
  have hb : brkB vs c = false ↔ valM c.1.1 c.1.2 vs ≤ valM c.2.1 c.2.2 vs := by simp [brkB]
  rw [hb]
  rcases hc.b1 with h0 | ⟨x, h0, h1, ⟨h2, h3⟩, h4, h5⟩
  · have ht : toC n c = n := by unfold toC; rw [h0]
    have hs : lessC c = c.2.1 := by unfold lessC; rw [h0]
    have hvb : valM c.2.1 c.2.2 vs = c.2.1 := by rw [h0]; rfl
    rw [hvb, valM_le_iff]
    unfold edgC
    rw [ht, hs]
    constructor
    · rintro ⟨a, b⟩ e he
      rcases List.mem_cons.1 he with rfl | he
      · unfold hol; dsimp only; omega
      · obtain ⟨y, hy, rfl⟩ := List.mem_map.1 he
        have := b y hy
        unfold hol; dsimp only; omega
    · intro h
      refine ⟨?_, fun y hy => ?_⟩
      · have := h _ (List.mem_cons_self ..)
        unfold hol at this; dsimp only at this; omega
      · have := h _ (List.mem_cons_of_mem _ (List.mem_map.2 ⟨y, hy, rfl⟩))
        unfold hol at this; dsimp only at this; omega
  · have ht : toC n c = x.1.toNat := by unfold toC; rw [h0]
    have hs : lessC c = x.2 := by unfold lessC; rw [h0]
    have hx := gx_nn hv x.1.toNat
    have hvb : valM c.2.1 c.2.2 vs = gx vs x.1.toNat + x.2 := by
      rw [h0, h1]
      show (if (0 : Int) < gx vs x.1.toNat + x.2 then gx vs x.1.toNat + x.2 else 0) = _
      split <;> omega
    rw [hvb, valM_le_iff]
    unfold edgC
    rw [ht, hs]
    constructor
    · rintro ⟨a, b⟩ e he
      rcases List.mem_cons.1 he with rfl | he
      · unfold hol; dsimp only; omega
      · obtain ⟨y, hy, rfl⟩ := List.mem_map.1 he
        have := b y hy
        unfold hol; dsimp only; omega
    · intro h
      refine ⟨?_, fun y hy => ?_⟩
      · have := h _ (List.mem_cons_self ..)
        unfold hol at this; dsimp only at this; omega
      · have := h _ (List.mem_cons_of_mem _ (List.mem_map.2 ⟨y, hy, rfl⟩))
        unfold hol at this; dsimp only at this; omega
/-- numbers solve a system exactly if all its edges hold -/
theorem sat_iff {n : Nat} {cs : List LCn} {vs : List Int} (hcs : ∀ c ∈ cs, Con n c) (hl : vs.length = n) (hv : Vs vs) : (∀ (k : Nat) (c : LCn), cs[k]? = some c → brkB vs c = false) ↔ Sat (fun e => e ∈ esA n cs) (gx vs) := by
  constructor
  · intro h e he
    rcases List.mem_append.1 he with he | he
    · obtain ⟨i, hi, h1⟩ := esC_mem.1 he
      obtain ⟨c, hc, _⟩ := foC_ok hcs h1
      rw [foC_at hc] at h1
      exact (brk_iff (hcs c (List.mem_of_getElem? hc)) hl hv).1 (h i c hc) e h1
    · obtain ⟨h1, h2, h3, _⟩ := zeC_mem he
      have h4 := gx_nn hv e.t
      unfold hol
      rw [h1, gx_out hl (Nat.le_refl n), h3]
      omega
  · intro h k c hc
    refine (brk_iff (k := k) (hcs c (List.mem_of_getElem? hc)) hl hv).2 fun e he => h e (List.mem_append_left _ (esC_mem.2 ⟨k, (List.getElem?_eq_some_iff.1 hc).1, ?_⟩))
    rw [foC_at hc]
    exact he
theorem zeC_at (n K v u : Nat) (h : u < v) : (⟨n, u, 0, K⟩ : Edg) ∈ zeC n K v := List.mem_map.2 ⟨u, List.mem_range.2 h, rfl⟩
/-- of the least numbers that of the last node is zero -/
theorem lst_zero_node {n : Nat} {cs : List LCn} {xs : List Int} (hcs : ∀ c ∈ cs, Con n c) (h : Lst (fun e => e ∈ esA n cs) (gx xs)) : gx xs n = 0 := by
  have h1 := h.least (fun v => if v ≤ n then gx xs v - gx xs n else gx xs v) (fun e he => by
    have h2 := h.sat e he
    obtain ⟨h3, h4, _⟩ := esA_ok hcs he
    unfold hol at h2 ⊢
    show (if e.f ≤ n then gx xs e.f - gx xs n else gx xs e.f) + e.b ≤ (if e.t ≤ n then gx xs e.t - gx xs n else gx xs e.t)
    rw [if_pos (by omega), if_pos (by omega)]
    omega) (fun v => by
    show 0 ≤ if v ≤ n then gx xs v - gx xs n else gx xs v
    split
    · by_cases hv : v = n
      · rw [hv]; omega
      · have h2 := h.sat _ (List.mem_append_right _ (zeC_at n cs.length n v (by omega)))
        unfold hol at h2
        dsimp only at h2
        omega
    · exact h.nn v) n
  have h1 : gx xs n ≤ if n ≤ n then gx xs n - gx xs n else gx xs n := h1
  rw [if_pos (Nat.le_refl n)] at h1
  have h2 := h.nn n
  omega
end Go.Proofs.Ytapajkfnpkekdaa
