/-
  Longest ways by rounds over all edges: what the rounds come to. No program in this text.
-/
import Derived.Test.YtapajkfnpkekdaaGraM
namespace Go.Proofs.Ytapajkfnpkekdaa

/-- the length of the longest way found to a node, if one is found -/
def gw (st : List (Option Int)) (v : Nat) : Option Int := st.getD v none
theorem gw_set (st : List (Option Int)) (t : Nat) (a : Option Int) (ht : t < st.length) (u : Nat) : gw (st.set t a) u = if u = t then a else gw st u := by
  by_cases h : u = t
  · subst h; simp [gw, List.getD, ht]
  · rw [if_neg h]; simp [gw, List.getD, Ne.symm h]
/-- does the edge make a way longer? -/
def chg (st : List (Option Int)) (e : Edg) : Bool :=
  match gw st e.f, gw st e.t with
  | none, _ => false
  | some _, none => true
  | some a, some c => decide (c < a + e.b)
def rstep (st : List (Option Int)) (e : Edg) : List (Option Int) := if chg st e then st.set e.t ((gw st e.f).map (· + e.b)) else st
def rnd (st : List (Option Int)) (es : List Edg) : List (Option Int) := es.foldl rstep st
def mores (st : List (Option Int)) : List Edg → Bool
  | [] => false
  | e :: es => chg st e || mores (rstep st e) es
theorem rnd_snoc (st : List (Option Int)) (es : List Edg) (e : Edg) : rnd st (es ++ [e]) = rstep (rnd st es) e := by simp [rnd]
theorem rnd_append (st : List (Option Int)) (es fs : List Edg) : rnd st (es ++ fs) = rnd (rnd st es) fs := by simp [rnd]
theorem mores_snoc : ∀ (es : List Edg) (st : List (Option Int)) (e : Edg), mores st (es ++ [e]) = (mores st es || chg (rnd st es) e)
  | [], st, e => by simp [mores, rnd]
  | x :: es, st, e => by
    rw [List.cons_append, mores, mores_snoc es, mores, Bool.or_assoc]
    rfl
theorem rstep_len (st : List (Option Int)) (e : Edg) : (rstep st e).length = st.length := by unfold rstep; split <;> simp
theorem rnd_len : ∀ (es : List Edg) (st : List (Option Int)), (rnd st es).length = st.length
  | [], _ => rfl
  | e :: es, st => (rnd_len es (rstep st e)).trans (rstep_len st e)
theorem mores_false : ∀ {es : List Edg} {st : List (Option Int)}, mores st es = false → rnd st es = st ∧ ∀ e ∈ es, chg st e = false
  | [], _, _ => ⟨rfl, fun _ h => by cases h⟩
  | x :: es, st, h => by
    rw [mores, Bool.or_eq_false_iff] at h
    have e1 : rstep st x = st := by unfold rstep; rw [h.1]; rfl
    have h2 := h.2
    rw [e1] at h2
    obtain ⟨h3, h4⟩ := mores_false h2
    refine ⟨?_, fun e he => ?_⟩
    · show rnd (rstep st x) es = st
      rw [e1]; exact h3
    · rcases List.mem_cons.1 he with rfl | he
      · exact h.1
      · exact h4 e he

/-- what is so of the lengths found, in every round -/
structure Lon (n : Nat) (E : List Edg) (s : Nat) (st : List (Option Int)) : Prop where
  len : st.length = n + 1
  up : ∀ y : Nat → Int, (∀ e ∈ E, hol y e) → ∀ v a, gw st v = some a → a ≤ y v - y s
  reach : ∀ R : Nat → Prop, (∀ e ∈ E, R e.f → R e.t) → R s → ∀ v a, gw st v = some a → R v
  at0 : ∃ a, gw st s = some a ∧ 0 ≤ a
theorem gw_lt {st : List (Option Int)} {v : Nat} {a : Int} (h : gw st v = some a) : v < st.length := by
  refine Classical.byContradiction fun hn => ?_
  unfold gw at h
  rw [List.getD_eq_getElem?_getD, List.getElem?_eq_none (by omega)] at h
  cases h
theorem Lon.begin (n : Nat) (E : List Edg) (s : Nat) (hs : s < n + 1) : Lon n E s ((List.replicate (n + 1) none).set s (some 0)) := by
  have hg : ∀ v a, gw ((List.replicate (n + 1) (none : Option Int)).set s (some 0)) v = some a → v = s ∧ a = 0 := by
    intro v a h
    rw [gw_set _ _ _ (by simpa using hs)] at h
    by_cases hv : v = s
    · rw [if_pos hv] at h; exact ⟨hv, by cases h; rfl⟩
    · rw [if_neg hv] at h
      unfold gw at h
      rw [List.getD_eq_getElem?_getD, List.getElem?_replicate] at h
      split at h <;> cases h
  refine ⟨by simp, fun y _ v a h => ?_, fun R _ hR v a h => ?_, 0, ?_, Int.le_refl _⟩
  · obtain ⟨rfl, rfl⟩ := hg v a h; omega
  · obtain ⟨rfl, rfl⟩ := hg v a h; exact hR
  · rw [gw_set _ _ _ (by simpa using hs), if_pos rfl]
theorem chg_some {st : List (Option Int)} {e : Edg} (h : chg st e = true) : ∃ a, gw st e.f = some a ∧ (gw st e.t = none ∨ ∃ c, gw st e.t = some c ∧ c < a + e.b) := by
  unfold chg at h
  cases h1 : gw st e.f with
  | none => rw [h1] at h; cases h
  | some a =>
    refine ⟨a, rfl, ?_⟩
    cases h2 : gw st e.t with
    | none => exact .inl rfl
    | some c => rw [h1, h2] at h; exact .inr ⟨c, rfl, by simpa using h⟩
theorem Lon.step {n s : Nat} {E : List Edg} {st : List (Option Int)} (h : Lon n E s st) {e : Edg} (he : e ∈ E) (ht : e.t < n + 1) : Lon n E s (rstep st e) := by
  unfold rstep
  cases hc : chg st e with
  | false => exact h
  | true =>
    obtain ⟨a, h1, h2⟩ := chg_some hc
    have htl : e.t < st.length := by rw [h.len]; exact ht
    rw [if_pos rfl, h1]
    refine ⟨by simpa using h.len, fun y hy v b hv => ?_, fun R hR hs v b hv => ?_, ?_⟩
    · rw [gw_set _ _ _ htl] at hv
      by_cases hvt : v = e.t
      · rw [if_pos hvt] at hv
        have hb : a + e.b = b := by simpa using hv
        have h3 := h.up y hy e.f a h1
        have h4 := hy e he
        unfold hol at h4
        rw [hvt]
        omega
      · rw [if_neg hvt] at hv; exact h.up y hy v b hv
    · rw [gw_set _ _ _ htl] at hv
      by_cases hvt : v = e.t
      · rw [hvt]; exact hR e he (h.reach R hR hs e.f a h1)
      · rw [if_neg hvt] at hv; exact h.reach R hR hs v b hv
    · obtain ⟨c, h3, h4⟩ := h.at0
      by_cases hst : s = e.t
      · refine ⟨a + e.b, by rw [gw_set _ _ _ htl, if_pos hst]; rfl, ?_⟩
        rcases h2 with h2 | ⟨c', h2, h5⟩
        · rw [← hst, h3] at h2; cases h2
        · rw [← hst, h3] at h2; cases h2; omega
      · exact ⟨c, by rw [gw_set _ _ _ htl, if_neg hst]; exact h3, h4⟩
theorem Lon.rnd {n s : Nat} {E : List Edg} : ∀ {es : List Edg} {st : List (Option Int)}, Lon n E s st → (∀ e ∈ es, e ∈ E ∧ e.t < n + 1) → Lon n E s (rnd st es)
  | [], _, h, _ => h
  | e :: es, _, h, hes => Lon.rnd (es := es) (h.step (hes e (by simp)).1 (hes e (by simp)).2) fun x hx => hes x (List.mem_cons_of_mem _ hx)

/-- the length found is the greatest: a solution has no more between these nodes -/
def Fin (E : List Edg) (s : Nat) (st : List (Option Int)) (v : Nat) : Prop := ∃ a, gw st v = some a ∧ ∃ y : Nat → Int, (∀ e ∈ E, hol y e) ∧ a = y v - y s
noncomputable def finB (E : List Edg) (s : Nat) (st : List (Option Int)) (v : Nat) : Bool := @decide (Fin E s st v) (Classical.propDecidable _)
theorem finB_iff {E : List Edg} {s : Nat} {st : List (Option Int)} {v : Nat} : finB E s st v = true ↔ Fin E s st v := by
  unfold finB; exact @decide_eq_true_iff _ (Classical.propDecidable _)
theorem finB_not {E : List Edg} {s : Nat} {st : List (Option Int)} {v : Nat} (h : ¬ Fin E s st v) : finB E s st v = false := by
  cases hb : finB E s st v with
  | false => rfl
  | true => exact absurd (finB_iff.1 hb) h
section
variable {n s : Nat} {E : List Edg} {st : List (Option Int)}
theorem Fin.step (h : Lon n E s st) {e : Edg} (he : e ∈ E) (ht : e.t < n + 1) {v : Nat} (hv : Fin E s st v) : Fin E s (rstep st e) v := by
  obtain ⟨a, h1, y, hy, h2⟩ := hv
  refine ⟨a, ?_, y, hy, h2⟩
  unfold rstep
  cases hc : chg st e with
  | false => exact h1
  | true =>
    obtain ⟨b, h3, h4⟩ := chg_some hc
    have htl : e.t < st.length := by rw [h.len]; exact ht
    rw [if_pos rfl, gw_set _ _ _ htl]
    by_cases hvt : v = e.t
    · exfalso
      rcases h4 with h4 | ⟨c, h4, h5⟩
      · rw [← hvt, h1] at h4; cases h4
      · rw [← hvt, h1] at h4
        cases h4
        have h6 := h.up y hy e.f b h3
        have h7 := hy e he
        unfold hol at h7
        rw [← hvt] at h7
        omega
    · rw [if_neg hvt]; exact h1
theorem Fin.rnd : ∀ {es : List Edg} {st : List (Option Int)}, Lon n E s st → (∀ e ∈ es, e ∈ E ∧ e.t < n + 1) → ∀ {v : Nat}, Fin E s st v → Fin E s (rnd st es) v
  | [], _, _, _, _, hv => hv
  | e :: es, _, h, hes, _, hv => Fin.rnd (es := es) (h.step (hes e (by simp)).1 (hes e (by simp)).2) (fun x hx => hes x (List.mem_cons_of_mem _ hx)) (hv.step h (hes e (by simp)).1 (hes e (by simp)).2)
/-- one solution that has all the greatest lengths at once -/
theorem Fin.all (h : Lon n E s st) (y0 : Nat → Int) (hy0 : ∀ e ∈ E, hol y0 e) : ∀ l : List Nat, ∃ z : Nat → Int, (∀ e ∈ E, hol z e) ∧ z s = 0 ∧ ∀ v ∈ l, Fin E s st v → gw st v = some (z v)
  | [] => ⟨fun v => y0 v - y0 s, fun e he => by have := hy0 e he; unfold hol at this ⊢; dsimp only; omega, by dsimp only; omega, fun v hv => by cases hv⟩
  | v :: l => by
    obtain ⟨z, hz, hs, hl⟩ := Fin.all h y0 hy0 l
    by_cases hv : Fin E s st v
    · obtain ⟨a, h1, y, hy, h2⟩ := hv
      refine ⟨fun u => if z u ≤ y u - y s then z u else y u - y s, fun e he => ?_, ?_, fun u hu hF => ?_⟩
      · have h3 := hz e he
        have h4 := hy e he
        unfold hol at h3 h4 ⊢
        dsimp only
        split <;> split <;> omega
      · dsimp only; rw [hs]; split <;> omega
      · obtain ⟨b, h5, w, hw, h6⟩ := id hF
        have h7 := h.up y hy u b h5
        have h8 := h.up z hz u b h5
        rcases List.mem_cons.1 hu with rfl | hu
        · rw [h1] at h5
          have h5 : a = b := by simpa using h5
          rw [h1]
          dsimp only
          rw [hs] at h8
          congr 1
          split <;> omega
        · have h9 := hl u hu hF
          rw [h9] at h5
          have h5 : z u = b := by simpa using h5
          rw [h9]
          dsimp only
          rw [if_pos (by omega)]
    · refine ⟨z, hz, hs, fun u hu hF => ?_⟩
      rcases List.mem_cons.1 hu with rfl | hu
      · exact absurd hF hv
      · exact hl u hu hF
theorem Fin.lt (h : Lon n E s st) {v : Nat} (hv : Fin E s st v) : v < n + 1 := by
  obtain ⟨a, h1, _⟩ := hv
  have := gw_lt h1
  rw [h.len] at this
  exact this
/-- some edge leads from a greatest length to one that isn't there yet -/
theorem Fin.more (h : Lon n E s st) (y0 : Nat → Int) (hy0 : ∀ e ∈ E, hol y0 e) (hopen : ∃ e ∈ E, Fin E s st e.f ∧ ¬ Fin E s st e.t) : ∃ e ∈ E, ¬ Fin E s st e.t ∧ ∃ a, gw st e.f = some a ∧ ∃ y : Nat → Int, (∀ e ∈ E, hol y e) ∧ a = y e.f - y s ∧ a + e.b = y e.t - y s := by
  refine Classical.byContradiction fun hno => ?_
  obtain ⟨e0, he0, hf0, ht0⟩ := hopen
  obtain ⟨z, hz, hs, hl⟩ := Fin.all h y0 hy0 (List.range (n + 1))
  have hall : ∀ v, Fin E s st v → gw st v = some (z v) := fun v hv => hl v (List.mem_range.2 (hv.lt h)) hv
  have hsF : Fin E s st s := by
    obtain ⟨a, h1, h2⟩ := h.at0
    have := h.up y0 hy0 s a h1
    exact ⟨a, h1, y0, hy0, by omega⟩
  have hdown : ∀ k : Nat, ∃ y : Nat → Int, (∀ e ∈ E, hol y e) ∧ (∀ v, Fin E s st v → y v = z v) ∧ y e0.t = z e0.t - k := by
    intro k
    induction k with
    | zero => exact ⟨z, hz, fun _ _ => rfl, by simp⟩
    | succ k ih =>
      obtain ⟨y, hy, hyF, hyt⟩ := ih
      refine ⟨fun v => if finB E s st v = true then y v else y v - 1, fun e he => ?_, fun v hv => by dsimp only; rw [if_pos (finB_iff.2 hv)]; exact hyF v hv, by dsimp only; rw [if_neg (fun h => ht0 (finB_iff.1 h))]; omega⟩
      have h1 := hy e he
      unfold hol at h1 ⊢
      dsimp only
      by_cases hf : Fin E s st e.f
      · by_cases ht : Fin E s st e.t
        · rw [if_pos (finB_iff.2 hf), if_pos (finB_iff.2 ht)]; exact h1
        · rw [if_pos (finB_iff.2 hf), if_neg (fun h => ht (finB_iff.1 h))]
          have h2 := hyF e.f hf
          have h3 := hyF s hsF
          refine Classical.byContradiction fun h4 => hno ⟨e, he, ht, z e.f, hall e.f hf, y, hy, ?_, ?_⟩
          · rw [h2, h3, hs]; omega
          · rw [h3, hs]; omega
      · rw [if_neg (fun h => hf (finB_iff.1 h))]
        split <;> omega
  obtain ⟨y, hy, hyF, hyt⟩ := hdown (z e0.t - z e0.f - e0.b + 1).toNat
  have h1 := hy e0 he0
  unfold hol at h1
  rw [hyF e0.f hf0, hyt] at h1
  have h2 := hz e0 he0
  unfold hol at h2
  omega
end

/-- how many greatest lengths are found -/
noncomputable def cntF (n : Nat) (E : List Edg) (s : Nat) (st : List (Option Int)) : Nat := (List.range (n + 1)).countP (finB E s st)
theorem cntF_le (n : Nat) (E : List Edg) (s : Nat) (st : List (Option Int)) : cntF n E s st ≤ n + 1 := by
  have := List.countP_le_length (p := finB E s st) (l := List.range (n + 1))
  rw [List.length_range] at this
  exact this
/-- the greatest lengths that are found lead to no others -/
def Cls (E : List Edg) (s : Nat) (st : List (Option Int)) : Prop := ∀ e ∈ E, Fin E s st e.f → Fin E s st e.t
theorem cntF_pos {n s : Nat} {E : List Edg} {st : List (Option Int)} (h : Lon n E s st) (y0 : Nat → Int) (hy0 : ∀ e ∈ E, hol y0 e) : 1 ≤ cntF n E s st := by
  obtain ⟨a, h1, h2⟩ := h.at0
  have h3 := h.up y0 hy0 s a h1
  have hs : s < n + 1 := by have := gw_lt h1; rw [h.len] at this; exact this
  have hF : Fin E s st s := ⟨a, h1, y0, hy0, by omega⟩
  exact List.countP_pos_iff.2 ⟨s, List.mem_range.2 hs, finB_iff.2 hF⟩
/-- a round finds one more, as long as some are left -/
theorem cntF_up {n s : Nat} {E : List Edg} {st : List (Option Int)} (h : Lon n E s st) (hE : ∀ e ∈ E, e.t < n + 1) (y0 : Nat → Int) (hy0 : ∀ e ∈ E, hol y0 e) (ho : ¬ Cls E s st) : cntF n E s st + 1 ≤ cntF n E s (rnd st E) := by
  have hopen : ∃ e ∈ E, Fin E s st e.f ∧ ¬ Fin E s st e.t := by
    refine Classical.byContradiction fun hn => ho fun e he hf => Classical.byContradiction fun ht => hn ⟨e, he, hf, ht⟩
  obtain ⟨e, he, ht, a, h1, y, hy, h2, h3⟩ := Fin.more h y0 hy0 hopen
  obtain ⟨l1, l2, hl⟩ := List.append_of_mem he
  have hm1 : ∀ x ∈ l1, x ∈ E ∧ x.t < n + 1 := fun x hx => by
    have : x ∈ E := by rw [hl]; simp [hx]
    exact ⟨this, hE x this⟩
  have hm2 : ∀ x ∈ l2, x ∈ E ∧ x.t < n + 1 := fun x hx => by
    have : x ∈ E := by rw [hl]; simp [hx]
    exact ⟨this, hE x this⟩
  have hL1 := h.rnd hm1
  have hf1 : Fin E s (rnd st l1) e.f := Fin.rnd h hm1 ⟨a, h1, y, hy, h2⟩
  have hte := hE e he
  have hnow : Fin E s (rstep (rnd st l1) e) e.t := by
    obtain ⟨b, h4, w, hw, h5⟩ := hf1
    have h6 : a = b := by
      have h7 := hL1.up y hy e.f b h4
      have h8 := h.up w hw e.f a h1
      omega
    subst h6
    have htl : e.t < (rnd st l1).length := by rw [hL1.len]; exact hte
    refine ⟨a + e.b, ?_, y, hy, h3⟩
    unfold rstep
    cases hc : chg (rnd st l1) e with
    | true => rw [if_pos rfl, gw_set _ _ _ htl, if_pos rfl, h4]; rfl
    | false =>
      unfold chg at hc
      rw [h4] at hc
      cases h9 : gw (rnd st l1) e.t with
      | none => rw [h9] at hc; cases hc
      | some c =>
        rw [h9] at hc
        have hc : ¬ c < a + e.b := by simpa using hc
        have h10 := hL1.up y hy e.t c h9
        show gw (rnd st l1) e.t = _
        rw [h9]
        congr 1
        omega
  have hend : Fin E s (rnd st E) e.t := by
    have : rnd st E = rnd (rstep (rnd st l1) e) l2 := by rw [hl, rnd_append]; rfl
    rw [this]
    exact Fin.rnd (hL1.step he hte) hm2 hnow
  have hkeep : ∀ v, Fin E s st v → Fin E s (rnd st E) v := fun v hv => Fin.rnd h (fun x hx => ⟨hx, hE x hx⟩) hv
  exact count_lt (fun v _ hv => finB_iff.2 (hkeep v (finB_iff.1 hv))) ⟨e.t, List.mem_range.2 hte, finB_iff.2 hend, finB_not ht⟩
/-- where they lead to no others, nothing changes any more -/
theorem Cls.rest {n s : Nat} {E : List Edg} {st : List (Option Int)} (h : Lon n E s st) (y0 : Nat → Int) (hy0 : ∀ e ∈ E, hol y0 e) (hc : Cls E s st) : ∀ e ∈ E, chg st e = false := by
  intro e he
  have hs : Fin E s st s := by
    obtain ⟨a, h1, h2⟩ := h.at0
    have := h.up y0 hy0 s a h1
    exact ⟨a, h1, y0, hy0, by omega⟩
  cases hh : chg st e with
  | false => rfl
  | true =>
    obtain ⟨a, h1, h2⟩ := chg_some hh
    have hf : Fin E s st e.f := h.reach (Fin E s st) hc hs e.f a h1
    obtain ⟨c, h3, y, hy, h4⟩ := hc e he hf
    rcases h2 with h2 | ⟨c', h2, h5⟩
    · rw [h3] at h2; cases h2
    · rw [h3] at h2
      cases h2
      have h6 := h.up y hy e.f a h1
      have h7 := hy e he
      unfold hol at h7
      omega
theorem mores_rest : ∀ {es : List Edg} {st : List (Option Int)}, (∀ e ∈ es, chg st e = false) → mores st es = false
  | [], _, _ => rfl
  | e :: es, st, h => by
    have h1 := h e (by simp)
    have e1 : rstep st e = st := by unfold rstep; rw [h1]; rfl
    rw [mores, h1, e1, Bool.false_or]
    exact mores_rest fun x hx => h x (List.mem_cons_of_mem _ hx)

/-- what is so before each round: if there is a solution, as many greatest lengths are found as there were rounds, and one -/
structure LonR (n : Nat) (E : List Edg) (s r : Nat) (st : List (Option Int)) : Prop extends Lon n E s st where
  cnt : ∀ y : Nat → Int, (∀ e ∈ E, hol y e) → r + 1 ≤ cntF n E s st
theorem LonR.begin {n s : Nat} {E : List Edg} (hs : s < n + 1) : LonR n E s 0 ((List.replicate (n + 1) none).set s (some 0)) :=
  ⟨Lon.begin n E s hs, fun y hy => cntF_pos (Lon.begin n E s hs) y hy⟩
theorem LonR.next {n s r : Nat} {E : List Edg} {st : List (Option Int)} (h : LonR n E s r st) (hE : ∀ e ∈ E, e.t < n + 1) (hm : mores st E = true) : LonR n E s (r + 1) (rnd st E) := by
  refine ⟨h.toLon.rnd fun e he => ⟨he, hE e he⟩, fun y hy => ?_⟩
  have hn : ¬ Cls E s st := fun hc => by
    have := mores_rest (hc.rest h.toLon y hy)
    rw [this] at hm; cases hm
  have h1 := cntF_up h.toLon hE y hy hn
  have h2 := h.cnt y hy
  omega
/-- all rounds were used up: there is no solution -/
theorem LonR.no {n s : Nat} {E : List Edg} {st : List (Option Int)} (h : LonR n E s (n + 2) st) (y : Nat → Int) (hy : ∀ e ∈ E, hol y e) : False := by
  have h1 := h.cnt y hy
  have h2 := cntF_le n E s st
  omega
/-- what the rounds end with, if they end: lengths that hold along all edges, and no greater than in any solution -/
structure LonE (n : Nat) (E : List Edg) (s : Nat) (st : List (Option Int)) : Prop extends Lon n E s st where
  rest : ∀ e ∈ E, ∀ a, gw st e.f = some a → ∃ c, gw st e.t = some c ∧ a + e.b ≤ c
theorem LonE.of {n s : Nat} {E : List Edg} {st : List (Option Int)} (h : Lon n E s st) (hm : mores st E = false) : LonE n E s st := by
  refine ⟨h, fun e he a ha => ?_⟩
  have h1 := (mores_false hm).2 e he
  unfold chg at h1
  rw [ha] at h1
  cases h2 : gw st e.t with
  | none => rw [h2] at h1; cases h1
  | some c => rw [h2] at h1; exact ⟨c, rfl, by simpa using h1⟩
/-- the numbers stay small -/
def SmW (B : Int) (st : List (Option Int)) : Prop := ∀ v a, gw st v = some a → -B ≤ a ∧ a ≤ B
theorem SmW.step {B : Int} {st : List (Option Int)} (h : SmW B st) {e : Edg} (hb : -1000 ≤ e.b ∧ e.b ≤ 1000) : SmW (B + 1000) (rstep st e) := by
  intro v a hv
  unfold rstep at hv
  cases hc : chg st e with
  | false => rw [hc] at hv; have := h v a hv; omega
  | true =>
    rw [hc, if_pos rfl] at hv
    obtain ⟨c, h1, _⟩ := chg_some hc
    have h2 := h e.f c h1
    by_cases htl : e.t < st.length
    · rw [gw_set _ _ _ htl] at hv
      by_cases hvt : v = e.t
      · rw [if_pos hvt, h1] at hv
        have : c + e.b = a := by simpa using hv
        omega
      · rw [if_neg hvt] at hv; have := h v a hv; omega
    · rw [List.set_eq_of_length_le (by omega)] at hv
      have := h v a hv; omega
theorem SmW.zero (n s : Nat) : SmW 0 ((List.replicate (n + 1) (none : Option Int)).set s (some 0)) := by
  intro v a h
  by_cases hs : s < n + 1
  · rw [gw_set _ _ _ (by simpa using hs)] at h
    by_cases hv : v = s
    · rw [if_pos hv] at h; cases h; omega
    · rw [if_neg hv] at h
      unfold gw at h
      rw [List.getD_eq_getElem?_getD, List.getElem?_replicate] at h
      split at h <;> cases h
  · rw [List.set_eq_of_length_le (by simp; omega)] at h
    unfold gw at h
    rw [List.getD_eq_getElem?_getD, List.getElem?_replicate] at h
    split at h <;> cases h
end Go.Proofs.Ytapajkfnpkekdaa
