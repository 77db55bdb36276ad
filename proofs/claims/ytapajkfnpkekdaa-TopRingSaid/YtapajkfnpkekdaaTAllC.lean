/-
  TAllC: the texts TCirM, TLevM, TRow, TSys, TAwk, one behind another.
-/
import Derived.Test.YtapajkfnpkekdaaProg
import Derived.Test.YtapajkfnpkekdaaGNeedM
import Derived.Test.YtapajkfnpkekdaaChAll
import Derived.Deep.RegionLaw
import Derived.Test.YtapajkfnpkekdaaGAwk
/-
  Edges that alone cannot hold, each of them being needed, form one circle that grows. No program in this text.
-/
namespace Go.Proofs.Ytapajkfnpkekdaa

section
variable (f t : Nat → Nat) (p : Nat → Int)
/-- a way along edges of I from u to v -/
inductive Way (I : List Nat) : Nat → Nat → List Nat → Prop
  | nil (v : Nat) : Way I v v []
  | cons {i v : Nat} {l : List Nat} : i ∈ I → Way I (t i) v l → Way I (f i) v (i :: l)
def wt (l : List Nat) : Int := (l.map p).sum
/-- all edges of I hold for y -/
def SatI (I : List Nat) (y : Nat → Int) : Prop := ∀ i ∈ I, y (f i) + p i ≤ y (t i)
variable {f t p}
theorem wt_nil : wt p [] = 0 := rfl
theorem wt_cons (i : Nat) (l : List Nat) : wt p (i :: l) = p i + wt p l := by simp [wt]
theorem wt_app (a b : List Nat) : wt p (a ++ b) = wt p a + wt p b := by simp [wt]
theorem Way.mono {I J : List Nat} {u v : Nat} {l : List Nat} (h : Way f t I u v l) (hIJ : ∀ i ∈ l, i ∈ J) : Way f t J u v l := by
  induction h with
  | nil v => exact .nil v
  | cons hi _ ih => exact .cons (hIJ _ (by simp)) (ih fun i hi => hIJ i (by simp [hi]))
theorem Way.mem {I : List Nat} {u v : Nat} {l : List Nat} (h : Way f t I u v l) : ∀ i ∈ l, i ∈ I := by
  induction h with
  | nil v => intro i hi; cases hi
  | cons hi _ ih =>
    intro j hj
    rcases List.mem_cons.1 hj with rfl | hj
    · exact hi
    · exact ih j hj
theorem Way.app {I : List Nat} {u v x : Nat} {a b : List Nat} (h : Way f t I u v a) (g : Way f t I v x b) : Way f t I u x (a ++ b) := by
  induction h with
  | nil v => exact g
  | cons hi _ ih => exact .cons hi (ih g)
theorem Way.split {I : List Nat} : ∀ {a b : List Nat} {u x : Nat}, Way f t I u x (a ++ b) → ∃ v, Way f t I u v a ∧ Way f t I v x b
  | [], b, u, x, h => ⟨u, .nil u, h⟩
  | i :: a, b, u, x, h => by
    cases h with
    | cons hi h =>
      obtain ⟨v, h1, h2⟩ := Way.split (a := a) h
      exact ⟨v, .cons hi h1, h2⟩
theorem Way.up {I : List Nat} {u v : Nat} {l : List Nat} (h : Way f t I u v l) {y : Nat → Int} (hy : SatI f t p I y) : y u + wt p l ≤ y v := by
  induction h with
  | nil v => rw [wt_nil]; omega
  | cons hi _ ih =>
    have := hy _ hi
    rw [wt_cons]
    omega
theorem Way.ends {I : List Nat} {u v : Nat} {l : List Nat} (h : Way f t I u v l) : u :: l.map t = l.map f ++ [v] := by
  induction h with
  | nil v => rfl
  | cons _ _ ih => rw [List.map_cons, List.map_cons, List.cons_append, ih]
theorem Way.head {I : List Nat} {u v i : Nat} {l : List Nat} (h : Way f t I u v (i :: l)) : u = f i := by
  cases h with
  | cons _ _ => rfl
/-- a set of numbers with a bound has a greatest one -/
theorem int_max {P : Int → Prop} {B : Int} (hP : ∀ a, P a → a ≤ B) (h : ∃ a, P a) : ∃ a, P a ∧ ∀ b, P b → b ≤ a := by
  obtain ⟨a, ha⟩ := h
  have key : ∀ (k : Nat) (a : Int), P a → (B - a).toNat ≤ k → ∃ a, P a ∧ ∀ b, P b → b ≤ a := by
    intro k
    induction k with
    | zero =>
      intro a ha hk
      refine ⟨a, ha, fun b hb => ?_⟩
      have := hP b hb
      have := hP a ha
      omega
    | succ k ih =>
      intro a ha hk
      by_cases hm : ∀ b, P b → b ≤ a
      · exact ⟨a, ha, hm⟩
      · have : ∃ b, P b ∧ a < b := by
          refine Classical.byContradiction fun hn => hm fun b hb => ?_
          refine Classical.byContradiction fun hlt => hn ⟨b, hb, by omega⟩
        obtain ⟨b, hb, hlt⟩ := this
        have h1 := hP b hb
        exact ih b hb (by omega)
  exact key _ a ha (Nat.le_refl _)
theorem list_max (g : Nat → Int) : ∀ l : List Nat, ∃ M : Int, ∀ i ∈ l, g i ≤ M
  | [] => ⟨0, fun i hi => by cases hi⟩
  | i :: l => by
    obtain ⟨M, h⟩ := list_max g l
    refine ⟨if M ≤ g i then g i else M, fun j hj => ?_⟩
    rcases List.mem_cons.1 hj with rfl | hj
    · split <;> omega
    · have := h j hj
      split <;> omega
/-- either numbers satisfy all edges, or some way back to where it began grows -/
theorem sat_or_way : ∀ I : List Nat, (∃ y, SatI f t p I y) ∨ ∃ v l, Way f t I v v l ∧ 0 < wt p l
  | [] => .inl ⟨fun _ => 0, fun i hi => by cases hi⟩
  | i :: I => by
    rcases sat_or_way I with ⟨y0, h0⟩ | ⟨v, l, h1, h2⟩
    · by_cases hw : ∃ l, Way f t I (t i) (f i) l ∧ 0 < p i + wt p l
      · obtain ⟨l, h1, h2⟩ := hw
        exact .inr ⟨f i, i :: l, .cons (by simp) (h1.mono fun j hj => by simp [h1.mem j hj]), by rw [wt_cons]; exact h2⟩
      · left
        have hw : ∀ l, Way f t I (t i) (f i) l → p i + wt p l ≤ 0 := fun l h1 => by
          refine Classical.byContradiction fun h2 => hw ⟨l, h1, by omega⟩
        have hL : ∀ v, ∃ a : Int, (∃ l, Way f t I (t i) v l) → (∃ l, Way f t I (t i) v l ∧ wt p l = a) ∧ ∀ l, Way f t I (t i) v l → wt p l ≤ a := fun v => by
          by_cases hr : ∃ l, Way f t I (t i) v l
          · obtain ⟨a, ⟨l, h1, h2⟩, h3⟩ := int_max (P := fun a => ∃ l, Way f t I (t i) v l ∧ wt p l = a) (B := y0 v - y0 (t i)) (by
              rintro a ⟨l, h1, rfl⟩
              have := h1.up h0
              omega) (by
              obtain ⟨l, h1⟩ := hr
              exact ⟨_, l, h1, rfl⟩)
            exact ⟨a, fun _ => ⟨⟨l, h1, h2⟩, fun l' h' => h3 _ ⟨l', h', rfl⟩⟩⟩
          · exact ⟨0, fun h => absurd h hr⟩
        obtain ⟨L, hL⟩ := Classical.axiomOfChoice hL
        obtain ⟨M, hM⟩ := list_max (fun j => y0 (f j) + p j - L (t j)) (i :: I)
        have hs := hL (t i) ⟨[], .nil _⟩
        have hs0 : L (t i) = 0 := by
          obtain ⟨⟨l, h1, h2⟩, h3⟩ := hs
          have h4 := h3 [] (.nil _)
          have h5 := h1.up h0
          rw [wt_nil] at h4
          omega
        let R : Nat → Prop := fun v => ∃ l, Way f t I (t i) v l
        refine ⟨fun v => @ite _ (R v) (Classical.propDecidable _) (L v) (y0 v - M), fun j hj => ?_⟩
        show @ite _ (R (f j)) (Classical.propDecidable _) (L (f j)) (y0 (f j) - M) + p j ≤ @ite _ (R (t j)) (Classical.propDecidable _) (L (t j)) (y0 (t j) - M)
        have hRi : R (t i) := ⟨[], .nil _⟩
        rcases List.mem_cons.1 hj with rfl | hjI
        · rw [if_pos hRi, hs0]
          by_cases hf : R (f j)
          · rw [if_pos hf]
            obtain ⟨⟨l, h1, h2⟩, _⟩ := hL (f j) hf
            have := hw l h1
            omega
          · rw [if_neg hf]
            have := hM j (by simp)
            rw [hs0] at this
            omega
        · by_cases hf : R (f j)
          · obtain ⟨⟨l, h1, h2⟩, _⟩ := hL (f j) hf
            have hw2 : Way f t I (t i) (t j) (l ++ [j]) := h1.app (.cons hjI (.nil _))
            have ht : R (t j) := ⟨_, hw2⟩
            rw [if_pos hf, if_pos ht]
            have h3 := (hL (t j) ht).2 _ hw2
            rw [wt_app, wt_cons, wt_nil] at h3
            omega
          · rw [if_neg hf]
            by_cases ht : R (t j)
            · rw [if_pos ht]
              have := hM j (by simp [hjI])
              omega
            · rw [if_neg ht]
              have := h0 j hjI
              omega
    · exact .inr ⟨v, l, h1.mono fun j hj => by simp [h1.mem j hj], h2⟩
theorem twice {α : Type} [DecidableEq α] (g : Nat → α) : ∀ l : List Nat, (l.map g).Nodup ∨ ∃ a i b j c, l = a ++ i :: (b ++ j :: c) ∧ g i = g j
  | [] => .inl (by simp)
  | i :: l => by
    rcases twice g l with h | ⟨a, x, b, j, c, rfl, h⟩
    · by_cases hm : g i ∈ l.map g
      · obtain ⟨j, hj, he⟩ := List.mem_map.1 hm
        obtain ⟨b, c, rfl⟩ := List.append_of_mem hj
        exact .inr ⟨[], i, b, j, c, rfl, he.symm⟩
      · left
        rw [List.map_cons, List.nodup_cons]
        exact ⟨hm, h⟩
    · exact .inr ⟨i :: a, x, b, j, c, rfl, h⟩
/-- a shortest way that grows comes to no node twice -/
theorem way_simple {I : List Nat} : ∀ (k : Nat) {v : Nat} {l : List Nat}, l.length ≤ k → Way f t I v v l → 0 < wt p l → ∃ v l, Way f t I v v l ∧ 0 < wt p l ∧ (l.map f).Nodup
  | 0, v, l, hk, h, hw => by
    have : l = [] := List.length_eq_zero_iff.1 (by omega)
    subst this
    rw [wt_nil] at hw
    omega
  | k + 1, v, l, hk, h, hw => by
    rcases twice f l with hn | ⟨a, i, b, j, c, rfl, he⟩
    · exact ⟨v, l, h, hw, hn⟩
    · obtain ⟨x, h1, h2⟩ := h.split
      have hx := h2.head
      rw [← List.cons_append] at h2
      obtain ⟨z, h3, h4⟩ := h2.split
      have hz := h4.head
      subst hx
      subst hz
      rw [← List.cons_append, wt_app, wt_app] at hw
      simp only [List.length_append, List.length_cons] at hk
      rw [← he] at h3 h4
      by_cases h5 : 0 < wt p (i :: b)
      · exact way_simple k (by simp only [List.length_cons]; omega) h3 h5
      · exact way_simple k (by simp only [List.length_append, List.length_cons]; omega) (h1.app h4) (by rw [wt_app]; omega)
theorem nodup_of_map {g : Nat → Nat} : ∀ l : List Nat, (l.map g).Nodup → l.Nodup
  | [], _ => List.nodup_nil
  | i :: l, h => by
    rw [List.map_cons, List.nodup_cons] at h
    exact List.nodup_cons.2 ⟨fun hi => h.1 (List.mem_map_of_mem hi), nodup_of_map l h.2⟩
theorem wt_perm {a b : List Nat} (h : a.Perm b) : wt p a = wt p b := by
  induction h with
  | nil => rfl
  | cons x _ ih => rw [wt_cons, wt_cons, ih]
  | swap x y l => rw [wt_cons, wt_cons, wt_cons, wt_cons]; omega
  | trans _ _ ih1 ih2 => exact ih1.trans ih2
/-- edges without a solution, each of them being needed, are the edges of one circle -/
theorem core_circle {I : List Nat} (hI : I.Nodup) (hno : ∀ y, ¬ SatI f t p I y) (hneed : ∀ x ∈ I, ∃ y, SatI f t p (I.filter fun i => i != x) y) :
    0 < wt p I ∧ (I.map f).Nodup ∧ (I.map t).Perm (I.map f) ∧ I ≠ [] := by
  rcases sat_or_way (f := f) (t := t) (p := p) I with ⟨y, hy⟩ | ⟨v, l, h1, h2⟩
  · exact absurd hy (hno y)
  · obtain ⟨v, l, h1, h2, h3⟩ := way_simple _ (Nat.le_refl _) h1 h2
    have hl : l.Nodup := nodup_of_map l h3
    have hall : ∀ x, x ∈ l ↔ x ∈ I := fun x => ⟨h1.mem x, fun hx => by
      refine Classical.byContradiction fun hn => ?_
      obtain ⟨y, hy⟩ := hneed x hx
      have h4 : Way f t (I.filter fun i => i != x) v v l := h1.mono fun i hi => List.mem_filter.2 ⟨h1.mem i hi, by
        have : i ≠ x := fun e => hn (e ▸ hi)
        simpa using this⟩
      have := h4.up hy
      omega⟩
    have hp : I.Perm l := (List.perm_ext_iff_of_nodup hI hl).2 fun x => (hall x).symm
    have he : (v :: l.map t).Perm (v :: l.map f) := by
      rw [h1.ends]
      exact List.perm_append_singleton v _
    have hne : l ≠ [] := fun e => by rw [e, wt_nil] at h2; omega
    refine ⟨?_, ?_, ?_, fun e => ?_⟩
    · have : wt p I = wt p l := wt_perm hp
      rw [this]; exact h2
    · exact (hp.map f).nodup_iff.2 h3
    · exact (hp.map t).trans (he.cons_inv.trans (hp.map f).symm)
    · rw [e] at hp
      exact hne (hp.symm.eq_nil)
end
end Go.Proofs.Ytapajkfnpkekdaa

/-
  Systems made of edges, as TopLevels makes them: they are valid, what their edges say, and that a core of them is a circle. No walk in this text.
-/
namespace Go.Proofs.Ytapajkfnpkekdaa

/-- an edge as it comes in: from, to, plus -/
abbrev Tri := Int × Int × Int
def OkT (e : Tri) : Prop := (0 ≤ e.1 ∧ e.1 < 65536) ∧ (0 ≤ e.2.1 ∧ e.2.1 < 65536) ∧ 0 ≤ e.2.2 ∧ e.2.2 < 256
def triF (n : Nat) (e : Tri) : Int := e.1 % (n : Int)
def triT (n : Nat) (e : Tri) : Int := e.2.1 % (n : Int)
def triP (e : Tri) : Int := e.2.2 % 4
def triC (n : Nat) (e : Tri) : LCn := lnk (triF n e) (triP e) (triT n e)
def sysT (n : Nat) (es : List Tri) : List LCn := es.map (triC n)
theorem triP_ok (e : Tri) : 0 ≤ triP e ∧ triP e ≤ 3 := by unfold triP; omega
theorem triF_ok {n : Nat} (hn : 1 ≤ n) (e : Tri) : 0 ≤ triF n e ∧ triF n e < n := ⟨Int.emod_nonneg _ (by omega), Int.emod_lt_of_pos _ (by omega)⟩
theorem triT_ok {n : Nat} (hn : 1 ≤ n) (e : Tri) : 0 ≤ triT n e ∧ triT n e < n := ⟨Int.emod_nonneg _ (by omega), Int.emod_lt_of_pos _ (by omega)⟩
theorem sysT_len (n : Nat) (es : List Tri) : (sysT n es).length = es.length := by simp [sysT]
theorem sysT_snoc (n : Nat) (es : List Tri) (e : Tri) : sysT n (es ++ [e]) = sysT n es ++ [triC n e] := by simp [sysT]
theorem sysT_at {n : Nat} {es : List Tri} {i : Nat} {e : Tri} (h : es[i]? = some e) : (sysT n es)[i]? = some (triC n e) := by simp [sysT, h]
theorem sysT_gvld {n : Nat} {es : List Tri} (h1 : 1 ≤ n) (hn : n ≤ 1200) (hl : es.length ≤ 3000) : gvld (n : Int) (sysT n es) = true := by
  unfold gvld
  rw [Bool.and_eq_true, decide_eq_true_eq, sysT_len]
  refine ⟨by omega, List.all_eq_true.2 fun c hc => ?_⟩
  obtain ⟨e, _, rfl⟩ := List.mem_map.1 hc
  exact lnk_con hn (triF_ok h1 e) (by have := triP_ok e; omega) (triT_ok h1 e)
theorem sysT_con {n : Nat} {es : List Tri} (h1 : 1 ≤ n) (hn : n ≤ 1200) : ∀ c ∈ sysT n es, Con n c := fun c hc => by
  obtain ⟨e, _, rfl⟩ := List.mem_map.1 hc
  exact con_of (lnk_con hn (triF_ok h1 e) (by have := triP_ok e; omega) (triT_ok h1 e))
theorem sysT_b {n : Nat} {es : List Tri} : ∀ e ∈ esA n (sysT n es), e.b ≤ 3 := fun e he => by
  rcases List.mem_append.1 he with he | he
  · obtain ⟨i, _, h1⟩ := esC_mem.1 he
    obtain ⟨c, hc, h2, _⟩ := foC_k h1
    obtain ⟨x, _, rfl⟩ := List.mem_map.1 (List.mem_of_getElem? hc)
    have h3 := triP_ok x
    simp only [edgC, triC, lnk, toC, lessC, List.map_cons, List.map_nil, List.mem_cons, List.not_mem_nil, or_false] at h2
    rcases h2 with rfl | rfl
    · show (0 : Int) - 0 ≤ 3; omega
    · show triP x - 0 ≤ 3; omega
  · have := (zeC_mem he).2.2.1
    omega
theorem lnk_hol' {n : Nat} {f d t : Int} {y : Nat → Int} {k : Nat} : (∀ e ∈ edgC n (lnk f d t) k, hol y e) ↔ y n ≤ y t.toNat ∧ y f.toNat + d ≤ y t.toNat := by
  simp [edgC, lnk, toC, lessC, hol]
theorem sysT_sat {n : Nat} {es : List Tri} {y : Nat → Int} : Sat (fun e => e ∈ esA n (sysT n es)) y ↔ (∀ u, u < n → y n ≤ y u) ∧ ∀ e ∈ es, y n ≤ y (triT n e).toNat ∧ y (triF n e).toNat + triP e ≤ y (triT n e).toNat := by
  rw [sat_es]
  refine and_congr Iff.rfl ⟨fun h e he => lnk_hol.1 (h (triC n e) (List.mem_map_of_mem he)), fun h c hc => ?_⟩
  obtain ⟨e, he, rfl⟩ := List.mem_map.1 hc
  exact lnk_hol.2 (h e he)
/-- the edge with a number -/
def eAt (es : List Tri) (i : Nat) : Tri := es.getD i (0, 0, 0)
theorem eAt_some {es : List Tri} {i : Nat} {e : Tri} (h : es[i]? = some e) : eAt es i = e := by simp [eAt, List.getD, h]
def cF (n : Nat) (es : List Tri) (i : Nat) : Nat := (triF n (eAt es i)).toNat
def cT (n : Nat) (es : List Tri) (i : Nat) : Nat := (triT n (eAt es i)).toNat
def cP (es : List Tri) (i : Nat) : Int := triP (eAt es i)
theorem pick_satT {n : Nat} (h1 : 1 ≤ n) {es : List Tri} {I : List Nat} (hI : ∀ i ∈ I, i < es.length) : (∃ y, Sat (fun e => e ∈ esA n (pick (sysT n es) I)) y) ↔ ∃ y, SatI (cF n es) (cT n es) (cP es) I y := by
  have hat : ∀ i ∈ I, (sysT n es)[i]? = some (triC n (eAt es i)) := fun i hi => by
    refine sysT_at ?_
    rw [List.getElem?_eq_getElem (hI i hi), eAt_some (List.getElem?_eq_getElem (hI i hi))]
  constructor
  · rintro ⟨y, hy⟩
    refine ⟨y, fun i hi => ?_⟩
    exact (lnk_hol.1 ((sat_es.1 hy).2 _ (pick_mem.2 ⟨i, hi, hat i hi⟩))).2
  · rintro ⟨y, hy⟩
    obtain ⟨M, hM⟩ := list_max (fun u => - y u) (List.range n)
    have hlow : ∀ u, u < n → -M ≤ y u := fun u hu => by have := hM u (List.mem_range.2 hu); omega
    refine ⟨fun v => if v = n then -M else y v, sat_es.2 ⟨fun u hu => ?_, fun c hc => ?_⟩⟩
    · show (if n = n then -M else y n) ≤ if u = n then -M else y u
      rw [if_pos rfl, if_neg (by omega)]
      exact hlow u hu
    · obtain ⟨i, hi, hc⟩ := pick_mem.1 hc
      rw [hat i hi] at hc
      obtain rfl := Option.some.inj hc
      have hf := triF_ok h1 (eAt es i)
      have ht := triT_ok h1 (eAt es i)
      have hyi := hy i hi
      refine lnk_hol.2 ?_
      show (if n = n then -M else y n) ≤ (if cT n es i = n then -M else y (cT n es i)) ∧ (if cF n es i = n then -M else y (cF n es i)) + cP es i ≤ (if cT n es i = n then -M else y (cT n es i))
      have e1 : ¬ cT n es i = n := by unfold cT; omega
      have e2 : ¬ cF n es i = n := by unfold cF; omega
      rw [if_pos rfl, if_neg e1, if_neg e2]
      exact ⟨hlow _ (by unfold cT; omega), hyi⟩
/-- what is told of a system without a solution is a circle that grows -/
theorem core_cir {n : Nat} (h1 : 1 ≤ n) {es : List Tri} {I : List Nat} (h : CoreOf n (sysT n es) I) :
    0 < wt (cP es) I ∧ (I.map (cF n es)).Nodup ∧ (I.map (cT n es)).Perm (I.map (cF n es)) ∧ I ≠ [] := by
  have hI : ∀ i ∈ I, i < es.length := fun i hi => by have := h.lt i hi; rwa [sysT_len] at this
  refine core_circle h.nd (fun y hy => ?_) fun x hx => ?_
  · obtain ⟨z, hz⟩ := (pick_satT h1 hI).2 ⟨y, hy⟩
    exact h.no z hz
  · exact (pick_satT h1 fun i hi => hI i (List.mem_filter.1 hi).1).1 (h.need x hx)

/-- the first k variables, as parts of a level -/
def rgL (k : Nat) : List (Int × Int) := (List.range k).map fun j : Nat => ((j : Int), (0 : Int))
theorem rgL_len (k : Nat) : (rgL k).length = k := by simp [rgL]
theorem rgL_snoc (k : Nat) : rgL (k + 1) = rgL k ++ [((k : Int), 0)] := by simp [rgL, List.range_succ]
end Go.Proofs.Ytapajkfnpkekdaa

/-
  A row of constraints of one variable on each side, each with two rows of its own: what of it stays through calls, appends and stores. Edges as they came in.
-/
namespace Go.Proofs.Ytapajkfnpkekdaa
open Go Go.RowKit

/-- a list of edges as it came in -/
def EgL (w : World) (B : Nat) (A : Option Addr) (n : Nat) (es : List Tri) : Prop :=
  es.length = n ∧ (∀ e ∈ es, OkT e) ∧ (0 < n → ∃ b off, A = some ⟨b, off, none⟩ ∧ b < B ∧ ∀ j e, es[j]? = some e → w.cell? ⟨b, off + j * 3, none⟩ = some (.int .u16 e.1) ∧ w.cell? ⟨b, off + j * 3 + 1, none⟩ = some (.int .u16 e.2.1) ∧ w.cell? ⟨b, off + j * 3 + 2, none⟩ = some (.int .u8 e.2.2))
theorem EgL.below {w w' : World} {B n : Nat} {A : Option Addr} {es : List Tri} (h : EgL w B A n es) (hb : Below B w w') : EgL w' B A n es :=
  ⟨h.1, h.2.1, fun hn => by
    obtain ⟨b, off, e, hB, hc⟩ := h.2.2 hn
    refine ⟨b, off, e, hB, fun j x hj => ?_⟩
    obtain ⟨h0, h1, h2⟩ := hc j x hj
    exact ⟨(hb.cell (p := ⟨b, off + j * 3, none⟩) hB).trans h0, (hb.cell (p := ⟨b, off + j * 3 + 1, none⟩) hB).trans h1, (hb.cell (p := ⟨b, off + j * 3 + 2, none⟩) hB).trans h2⟩⟩
theorem EgL.more {w : World} {B B' n : Nat} {A : Option Addr} {es : List Tri} (h : EgL w B A n es) (hB : B ≤ B') : EgL w B' A n es :=
  ⟨h.1, h.2.1, fun hn => by
    obtain ⟨b, off, e, hb, hc⟩ := h.2.2 hn
    exact ⟨b, off, e, by omega, hc⟩⟩
theorem EgL.lift {w w' : World} {n : Nat} {A : Option Addr} {es : List Tri} (h : EgL w w.heap.size A n es) (hb : Below w.heap.size w w') : EgL w' w'.heap.size A n es := (h.below hb).more hb.size
theorem EgL.at_ {w : World} {B n k : Nat} {A : Option Addr} {es : List Tri} (h : EgL w B A n es) (hk : k < n) : ∃ b off e, A = some ⟨b, off, none⟩ ∧ b < B ∧ es[k]? = some e ∧ OkT e ∧ w.cell? ⟨b, off + k * 3, none⟩ = some (.int .u16 e.1) ∧ w.cell? ⟨b, off + k * 3 + 1, none⟩ = some (.int .u16 e.2.1) ∧ w.cell? ⟨b, off + k * 3 + 2, none⟩ = some (.int .u8 e.2.2) := by
  obtain ⟨b, off, e, hb, hc⟩ := h.2.2 (by omega)
  have hl : k < es.length := by have := h.1; omega
  obtain ⟨h0, h1, h2⟩ := hc k es[k] (List.getElem?_eq_getElem hl)
  exact ⟨b, off, es[k], e, hb, List.getElem?_eq_getElem hl, h.2.1 _ (List.getElem_mem hl), h0, h1, h2⟩

/-- a variable, a number, and a variable: one constraint -/
abbrev Lk := Int × Int × Int
def lk3 (x : Lk) : LCn := lnk x.1 x.2.1 x.2.2
def triK (n : Nat) (e : Tri) : Lk := (triF n e, triP e, triT n e)
theorem sysT_lk (n : Nat) (es : List Tri) : (es.map (triK n)).map lk3 = sysT n es := by
  rw [List.map_map]; rfl
/-- such constraints as cells -/
def RV (w : World) (xs : List Value) (ks : List Lk) : Prop :=
  xs.length = ks.length * 4 ∧ ∀ i k, ks[i]? = some k → ∃ q1 q2, xs[i * 4]? = some (.int .i64 0) ∧ xs[i * 4 + 1]? = some (.slice (some ⟨q1, 0, none⟩) 1 1) ∧ xs[i * 4 + 2]? = some (.int .i64 0) ∧ xs[i * 4 + 3]? = some (.slice (some ⟨q2, 0, none⟩) 1 1) ∧ w.heap[q1]? = some (.cells #[.int .i64 k.1, .int .i64 k.2.1] 27) ∧ w.heap[q2]? = some (.cells #[.int .i64 k.2.2, .int .i64 0] 27)
theorem RV.keep {w w' : World} {xs : List Value} {ks : List Lk} (h : RV w xs ks) (k : KV w w') : RV w' xs ks :=
  ⟨h.1, fun i x hi => by
    obtain ⟨q1, q2, h0, h1, h2, h3, h4, h5⟩ := h.2 i x hi
    exact ⟨q1, q2, h0, h1, h2, h3, k _ _ h4, k _ _ h5⟩⟩
theorem RV.nil (w : World) : RV w [] [] := ⟨rfl, fun i k hi => by simp at hi⟩
theorem RV.cv {w : World} {xs : List Value} {ks : List Lk} (h : RV w xs ks) : CV w w.heap.size xs (ks.map lk3) := by
  refine ⟨by rw [List.length_map, h.1], fun i c hc => ?_⟩
  rw [List.getElem?_map] at hc
  cases hk : ks[i]? with
  | none => rw [hk] at hc; cases hc
  | some k =>
    rw [hk] at hc
    obtain rfl := Option.some.inj hc
    obtain ⟨q1, q2, h0, h1, h2, h3, h4, h5⟩ := h.2 i k hk
    exact ⟨_, _, h0, h1, h2, h3, lv_ok h4, lv_ok h5⟩
theorem RV.snoc {w : World} {xs : List Value} {ks : List Lk} {k : Lk} {q1 q2 : Nat} (h : RV w xs ks) (h4 : w.heap[q1]? = some (.cells #[.int .i64 k.1, .int .i64 k.2.1] 27)) (h5 : w.heap[q2]? = some (.cells #[.int .i64 k.2.2, .int .i64 0] 27)) :
    RV w (xs ++ [.int .i64 0, .slice (some ⟨q1, 0, none⟩) 1 1, .int .i64 0, .slice (some ⟨q2, 0, none⟩) 1 1]) (ks ++ [k]) := by
  have hl := h.1
  refine ⟨by simp [hl]; omega, fun i x hi => ?_⟩
  by_cases hij : i < ks.length
  · rw [List.getElem?_append_left hij] at hi
    obtain ⟨r1, r2, g0, g1, g2, g3, g4, g5⟩ := h.2 i x hi
    refine ⟨r1, r2, ?_, ?_, ?_, ?_, g4, g5⟩ <;> (rw [List.getElem?_append_left (by omega)]; assumption)
  · obtain rfl : i = ks.length := by
      have := (List.getElem?_eq_some_iff.1 hi).1
      simp at this
      omega
    simp at hi
    subst hi
    refine ⟨q1, q2, ?_, ?_, ?_, ?_, h4, h5⟩
    · rw [List.getElem?_append_right (by omega), show ks.length * 4 - xs.length = 0 by omega]; rfl
    · rw [List.getElem?_append_right (by omega), show ks.length * 4 + 1 - xs.length = 1 by omega]; rfl
    · rw [List.getElem?_append_right (by omega), show ks.length * 4 + 2 - xs.length = 2 by omega]; rfl
    · rw [List.getElem?_append_right (by omega), show ks.length * 4 + 3 - xs.length = 3 by omega]; rfl
end Go.Proofs.Ytapajkfnpkekdaa

/-
  'system' of tenettop: constraints made of edges that came in.
-/
namespace Go.Proofs.Ytapajkfnpkekdaa
open Go Go.RowKit

theorem cell_al {w : World} {a : Addr} {v : Value} (o : Obj) (h : w.cell? a = some v) : (w.alloc o).cell? a = some v := (World.cell?_alloc_lt w o a (World.block_lt_of_cell? w a h)).trans h
/-- the left level's box and row, laid -/
def SyB (wo : World) (f p : Int) (bx : Value) (wx : World) : Prop := ∃ q1 X, bx = .pointer (some ⟨X, 0, none⟩) ∧ X < wx.heap.size ∧ wx.heap[q1]? = some (.cells #[.int .i64 f, .int .i64 p] 27) ∧ wx.heap[X]? = some (.cells #[.int .i64 0, .slice (some ⟨q1, 0, none⟩) 1 1] 30) ∧ Below wo.heap.size wo wx

theorem Sy.bel {wc W2 w7 : World} {base n : Nat} {v : Value} {xs : List Value} (hg : W2.grownBy w7 v.ownBlock) (hW : Below wc.heap.size wc W2) (hown : wc.ownsRow base 32 4 v n xs) (hb : base ≤ wc.heap.size) : Below base wc w7 :=
  (hW.mono hb).grown hg (Nat.le_trans hb hW.size) (fun j hj => (hown.lt j hj).1)
theorem Sy.far {wc W2 w7 : World} {v : Value} {X : Nat} (hg : W2.grownBy w7 v.ownBlock) (hW : Below wc.heap.size wc W2) (hX : X < wc.heap.size) (hne : v.ownBlock ≠ some X) (i : Nat) : w7.cell? ⟨X, i, none⟩ = wc.cell? ⟨X, i, none⟩ :=
  (hg.cell_far ⟨X, i, none⟩ (Nat.lt_of_lt_of_le hX hW.size) (fun e => hne e.symm)).trans (hW.cell (p := ⟨X, i, none⟩) hX)
theorem Sy.step {wc W2 w7 : World} {base n q1 q2 : Nat} {v : Value} {xs : List Value} {ks : List Lk} {k : Lk} (hg : W2.grownBy w7 v.ownBlock) (hW : Below wc.heap.size wc W2) (hown : wc.ownsRow base 32 4 v n xs) (h : RV wc xs ks) (h1 : wc.heap[q1]? = some (.cells #[.int .i64 k.1, .int .i64 k.2.1] 27)) (h2 : W2.heap[q2]? = some (.cells #[.int .i64 k.2.2, .int .i64 0] 27)) :
    RV w7 (xs ++ [.int .i64 0, .slice (some ⟨q1, 0, none⟩) 1 1, .int .i64 0, .slice (some ⟨q2, 0, none⟩) 1 1]) (ks ++ [k]) := by
  have hK := KV.grown (own_below hown hW) hg
  exact ((h.keep (KV.below hW)).keep hK).snoc (hK _ _ (KV.below hW _ _ h1)) (hK _ _ h2)
theorem SyB.a (wo : World) (f p : Int) : SyB wo f p (.pointer (some ⟨wo.heap.size + 1, 0, none⟩)) ((wo.alloc (.cells #[.int .i64 f, .int .i64 p] 27)).alloc (.cells #[.int .i64 0, .slice (some ⟨wo.heap.size, 0, none⟩) 1 1] 30)).drew :=
  ⟨wo.heap.size, wo.heap.size + 1, rfl, by show _ < ((wo.alloc _).alloc _).heap.size; simp <;> omega, (heap_two wo _ _).1, (heap_two wo _ _).2, (((Below.refl _ wo).alloc (Nat.le_refl _) _).alloc (by simp) _).drew⟩
theorem SyB.b (wo : World) (f p : Int) : SyB wo f p (.pointer (some ⟨wo.heap.size, 0, none⟩)) ((wo.alloc (.cells #[.int .i64 0, .slice (some ⟨wo.heap.size + 1, 0, none⟩) 1 1] 30)).alloc (.cells #[.int .i64 f, .int .i64 p] 27)).drew :=
  ⟨wo.heap.size + 1, wo.heap.size, rfl, by show _ < ((wo.alloc _).alloc _).heap.size; simp <;> omega, (heap_two wo _ _).2, (heap_two wo _ _).1, (((Below.refl _ wo).alloc (Nat.le_refl _) _).alloc (by simp) _).drew⟩

set_option maxRecDepth 100000 in
set_option maxHeartbeats 8000000 in
theorem system_any (n : Nat) (A : Option Addr) (K cap : Nat) (es : List Tri) (w : World) (h : EgL w w.heap.size A K es) (h1 : 1 ≤ n) (hn : n ≤ 1200) (hK : K ≤ 100000) :
    Calls Try.prog 9 #[.int .i64 n, .slice A K cap] w fun e w' => ∃ (A' : Option Addr) (c' : Nat), e = .returned (.slice A' K c') ∧ CL w' w'.heap.size A' K (sysT n es) ∧ Below w.heap.size w w' := by
  obtain ⟨i0, hi, hz0, hz1, hz2⟩ := info_parts infoC
  have hlen := h.1
  go_enter Try.func9, Try.ntmps9
  go_wp2_with fail
  go_loopw [5, 6] (fun o i wr => ∃ j : Nat, j ≤ K ∧ i = .int .i64 j ∧ ∃ xs, wr.ownsRow w.heap.size 32 4 o j xs ∧ RV wr xs ((es.take j).map (triK n)) ∧ Below w.heap.size w wr) (fun _ i _ => K - (intOf i).toNat)
  case atStart => exact ⟨0, Nat.zero_le _, rfl, [], World.ownsRow_nil _ _ _ _, RV.nil _, Below.refl _ _⟩
  case round =>
    obtain ⟨j, hj, rfl, xs, hown, hrv, hbr⟩ := hrel
    obtain ⟨wo, hwo⟩ : ∃ wo, wo = wr := ⟨_, rfl⟩
    subst hwo
    by_cases hlt : j < K
    · obtain ⟨b, off, e, rfl, hbl, he, hok, m0, m1, m2⟩ := (h.below hbr).at_ hlt
      obtain ⟨⟨o0, o1⟩, ⟨o2, o3⟩, o4, o5⟩ := hok
      have Hst : Hid ((es.take (j + 1)).map (triK n) = (es.take j).map (triK n) ++ [triK n e]) := by rw [Hid, take_snoc he, List.map_append]; rfl
      have hf0 := triF_ok h1 e
      have ht0 := triT_ok h1 e
      have hp0 := triP_ok e
      have HF : Hid (e.1.tmod (n : Int) = triF n e) := Int.tmod_eq_emod_of_nonneg o0
      have HT : Hid (e.2.1.tmod (n : Int) = triT n e) := Int.tmod_eq_emod_of_nonneg o2
      have HP : Hid (e.2.2.tmod 4 = triP e) := Int.tmod_eq_emod_of_nonneg o4
      have hji : (j : Int) < (K : Int) := by omega
      have hn0 : ¬ (n : Int) = 0 := by omega
      have hn1 : ¬ n = 0 := by omega
      have hn2 : ((n : Int) == 0) = false := by simpa using hn1
      have w1 : IntKind.i64.wrap e.1 = e.1 := by rw [IntKind.wrap_i64]; omega
      have w2 : IntKind.i64.wrap e.2.1 = e.2.1 := by rw [IntKind.wrap_i64]; omega
      have w3 : IntKind.i64.wrap e.2.2 = e.2.2 := by rw [IntKind.wrap_i64]; omega
      have v1 : IntKind.i64.wrap (e.1.tmod (n : Int)) = triF n e := by rw [HF.out, IntKind.wrap_i64]; omega
      have v2 : IntKind.i64.wrap (e.2.1.tmod (n : Int)) = triT n e := by rw [HT.out, IntKind.wrap_i64]; omega
      have v3 : IntKind.i64.wrap (e.2.2.tmod 4) = triP e := by rw [HP.out, IntKind.wrap_i64]; omega
      have hszo := hbr.size
      have hblo : b < wo.heap.size := by omega
      have Hm1 : Hid (wo.cell? ⟨b, off + j * 3 + 1, none⟩ = some (.int .u16 e.2.1)) := m1
      clear m1 hlen
      go_upto_region 5 with fail
      go_cut [7] (fun bx wx => SyB wo (triF n e) (triP e) bx wx)
      case first =>
        go_region_held3 (fun w' => w'.cell? ⟨b, off + j * 3, none⟩ = some (.int .u16 e.1) ∧ w'.cell? ⟨b, off + j * 3 + 2, none⟩ = some (.int .u8 e.2.2)) (first | exact ⟨m0, m2⟩ | exact ⟨cell_al _ m0, cell_al _ m2⟩ | exact ⟨cell_al _ (cell_al _ m0), cell_al _ (cell_al _ m2)⟩ | exact ⟨keep_set (by omega) (cell_al _ (cell_al _ m0)), keep_set (by omega) (cell_al _ (cell_al _ m2))⟩) (fail)
        all_goals go_wp2_with fail
        all_goals go_meet
        all_goals rw [← HF.out, ← HP.out]
        all_goals first | exact SyB.a wo _ _ | exact SyB.b wo _ _
      case rest =>
        obtain ⟨q1, X, rfl, hX, hq1, hXo, hbc⟩ := hcut
        have hszc := hbc.size
        have x0 : wc.cell? ⟨X, 0, none⟩ = some (.int .i64 0) := by simp [World.cell?, hXo]
        have x1 : wc.cell? ⟨X, 1, none⟩ = some (.slice (some ⟨q1, 0, none⟩) 1 1) := by simp [World.cell?, hXo]
        have x2 := (hbc.cell (p := ⟨b, off + j * 3 + 1, none⟩) hblo).trans Hm1.out
        have hbl2 : b < wc.heap.size := by omega
        have HS : Hid (∀ W, Below wc.heap.size wc W → W.cell? ⟨X, 0, none⟩ = some (.int .i64 0) ∧ W.cell? ⟨X, 1, none⟩ = some (.slice (some ⟨q1, 0, none⟩) 1 1) ∧ W.cell? ⟨b, off + j * 3 + 1, none⟩ = some (.int .u16 e.2.1)) := fun W hW => ⟨(hW.cell (p := ⟨X, 0, none⟩) hX).trans x0, (hW.cell (p := ⟨X, 1, none⟩) hX).trans x1, (hW.cell (p := ⟨b, off + j * 3 + 1, none⟩) hbl2).trans x2⟩
        have hownc := own_below hown hbc
        have hrvc := hrv.keep (KV.below hbc)
        have hbr2 := hbr.trans (hbc.mono hszo)
        have hzr : Below wc.heap.size wc wc := Below.refl _ _
        have hszw : w.heap.size ≤ wc.heap.size := by omega
        have hneX : u5.ownBlock ≠ some X := own_type_ne' hownc ⟨_, _, hXo⟩ (by decide)
        have hneb : u5.ownBlock ≠ some b := fun h9 => by have := (hownc.lt b h9).1; omega
        have hone : ∀ q2 : Nat, ∀ u ∈ [Value.int .i64 0, .slice (some ⟨q1, 0, none⟩) 1 1, .int .i64 0, .slice (some ⟨q2, 0, none⟩) 1 1], u.oneCell' = true := by simp [Value.oneCell']
        have Hrv := Lib.hid hrvc
        have Hq1 := Lib.hid hq1
        clear hown hrv m0 m2 hXo hrvc hq1
        go_wp2_with fail
        go_region_held_law (fun w' => w'.cell? ⟨X, 0, none⟩ = some (.int .i64 0) ∧ w'.cell? ⟨X, 1, none⟩ = some (.slice (some ⟨q1, 0, none⟩) 1 1) ∧ w'.cell? ⟨b, off + j * 3 + 1, none⟩ = some (.int .u16 e.2.1))
          (first | exact ⟨x0, x1, x2⟩ | exact HS.out _ hzr.drew | exact HS.out _ (hzr.drew.alloc (Nat.le_refl _) _) | exact HS.out _ ((hzr.alloc (Nat.le_refl _) _)) | exact HS.out _ ((hzr.alloc (Nat.le_refl _) _).alloc (by simp) _) | exact HS.out _ ((hzr.alloc (Nat.le_refl _) _).alloc (by simp) _).drew | exact HS.out _ ((hzr.drew.alloc (Nat.le_refl _) _).alloc (by simp) _) | exact ⟨y0, y1, y2⟩)
          (first | (refine step_append_d 47 rfl rfl (.tmp 32) (.tmp 46) 25 rfl w.heap.size 32 i0 (.agg #[.int .i64 0, .slice none 0 0, .int .i64 0, .slice none 0 0]) 4 64 Try.underlying25 hi hz0 hz1 hz2 rfl (by decide) u5 j xs rfl (by first | exact (hownc.alloc _).alloc _ | exact ((hownc.alloc _).alloc _).drew | exact (hownc.drew.alloc _).alloc _) _ 1 1 [.int .i64 0, .slice (some ⟨q1, 0, none⟩) 1 1, .int .i64 0, .slice (some ⟨wc.heap.size, 0, none⟩) 1 1] rfl rfl (World.news_of_block (by exact (heap_two wc _ _).2)) (hone _) (by unfold maxLen; omega) (by omega) (by simp; omega) ?_; intro v7 w7 hown7 hgrow7; have hz7 := Sy.bel hgrow7 (by first | exact (hzr.alloc (Nat.le_refl _) _).alloc (by simp) _ | exact ((hzr.alloc (Nat.le_refl _) _).alloc (by simp) _).drew | exact (hzr.drew.alloc (Nat.le_refl _) _).alloc (by simp) _) hownc hszw; have y0 := (Sy.far hgrow7 (by first | exact (hzr.alloc (Nat.le_refl _) _).alloc (by simp) _ | exact ((hzr.alloc (Nat.le_refl _) _).alloc (by simp) _).drew | exact (hzr.drew.alloc (Nat.le_refl _) _).alloc (by simp) _) hX hneX 0).trans x0; have y1 := (Sy.far hgrow7 (by first | exact (hzr.alloc (Nat.le_refl _) _).alloc (by simp) _ | exact ((hzr.alloc (Nat.le_refl _) _).alloc (by simp) _).drew | exact (hzr.drew.alloc (Nat.le_refl _) _).alloc (by simp) _) hX hneX 1).trans x1; have y2 := (Sy.far hgrow7 (by first | exact (hzr.alloc (Nat.le_refl _) _).alloc (by simp) _ | exact ((hzr.alloc (Nat.le_refl _) _).alloc (by simp) _).drew | exact (hzr.drew.alloc (Nat.le_refl _) _).alloc (by simp) _) hbl2 hneb (off + j * 3 + 1)).trans x2))
        all_goals
          have hrv7 := Sy.step (k := triK n e) hgrow7 (by first | exact (hzr.alloc (Nat.le_refl _) _).alloc (by simp) _ | exact ((hzr.alloc (Nat.le_refl _) _).alloc (by simp) _).drew | exact (hzr.drew.alloc (Nat.le_refl _) _).alloc (by simp) _) hownc Hrv.out Hq1.out (by rw [show (triK n e).2.2 = triT n e from rfl, ← HT.out]; exact (heap_two wc _ _).1)
          go_wp2_with fail
          go_roundw
          case rel => exact ⟨j + 1, by omega, by go_num, _, hown7, by rw [Hst.out]; exact hrv7, hbr2.trans hz7⟩
          case measure => simp [intOf]; omega
    · obtain rfl : j = K := by omega
      rw [List.take_of_length_le (by omega)] at hrv
      have hcv := hrv.cv
      rw [sysT_lk] at hcv
      obtain ⟨A7, c7, rfl, hCL, _, _⟩ := CL.of_own hown hcv (Nat.le_refl _)
      go_wp2_with fail
      go_ret
      exact ⟨A7, c7, rfl, hCL, hbr⟩
end Go.Proofs.Ytapajkfnpkekdaa

/-
  'awake02' of tenettop.
-/
namespace Go.Proofs.Ytapajkfnpkekdaa
open Go Go.RowKit

theorem awk_sys : sysT 2 [(0, 1, 1)] = chS [1] (2 - 1) := by decide
theorem awk_sums : sums [1] 2 = [0, 1] := by decide
theorem awk_eg (w : World) : EgL (w.alloc (.cells #[.int .u16 0, .int .u16 1, .int .u8 1] 44)) (w.alloc (.cells #[.int .u16 0, .int .u16 1, .int .u8 1] 44)).heap.size (some ⟨w.heap.size, 0, none⟩) 1 [(0, 1, 1)] := by
  refine ⟨rfl, fun e he => ?_, fun _ => ⟨w.heap.size, 0, rfl, by simp, fun j x hx => ?_⟩⟩
  · rw [List.mem_singleton.1 he]; exact ⟨⟨by decide, by decide⟩, ⟨by decide, by decide⟩, by decide, by decide⟩
  · match j, hx with
    | 0, hx => simp at hx; subst hx; exact ⟨by simp, by simp, by simp⟩
    | j + 1, hx => simp at hx

set_option maxRecDepth 100000 in
set_option maxHeartbeats 4000000 in
theorem awake02_any (w : World) :
    Calls Try.prog 5 #[] w fun e w' => e = .returned (.bool true) ∧ Below w.heap.size w w' := by
  have hsy := system_any 2 _ 1 1 _ _ (awk_eg w) (by omega) (by omega) (by omega)
  rw [show ((2 : Nat) : Int) = 2 from rfl] at hsy
  have HSy := Lib.hid hsy
  clear hsy
  have hX : Below w.heap.size w (w.alloc (.cells #[.int .u16 0, .int .u16 1, .int .u8 1] 44)) := (Below.refl _ w).alloc (Nat.le_refl _) _
  go_enter Try.func5, Try.ntmps5
  go_wp2_with fail
  with_reducible refine HSy.out.mono ?_
  rintro e w1 ⟨A1, c1, rfl, hCL, hb1⟩
  have hgv := chS_gvld [1] (n := 2) (by omega) (by omega)
  rw [awk_sys] at hCL
  have HSo := Lib.hid (solve_any 2 A1 1 c1 _ w1 hCL (by omega))
  have hbw1 := hX.trans (hb1.mono hX.size)
  clear hCL hb1 HSy
  go_wp2_with fail
  with_reducible refine HSo.out.mono ?_
  rintro e w2 ⟨hb2, hr⟩
  have hbw2 := hbw1.trans (hb2.mono hbw1.size)
  have hq : ∃ A3 c3, e = .returned (.tuple #[.slice A3 2 c3, .int .i64 0]) ∧ IL w2 w2.heap.size A3 2 [0, 1] := by
    rcases hr with ⟨hg, _⟩ | ⟨_, n, hn, hr⟩
    · exact absurd hg (by rw [show ((2 : Int)) = ((2 : Nat) : Int) from rfl, hgv]; simp)
    · obtain rfl : n = 2 := by omega
      rcases hr with ⟨_, hno⟩ | ⟨u, xs, rfl, hown, hL⟩
      · exact (hno _ (suN_sat [1] 2)).elim
      · rw [ch_sol hL, awk_sums] at hown
        obtain ⟨A3, c3, rfl, hI⟩ := il_own hown
        exact ⟨A3, c3, rfl, hI⟩
  obtain ⟨A3, c3, rfl, hI⟩ := hq
  clear hr HSo
  have hbx : Below w2.heap.size w2 (w2.alloc (.cells #[.int .i64 0, .int .i64 1] 3)) := (Below.refl _ _).alloc (Nat.le_refl _) _
  have hil2 : IL (w2.alloc (.cells #[.int .i64 0, .int .i64 1] 3)) (w2.alloc (.cells #[.int .i64 0, .int .i64 1] 3)).heap.size (some ⟨w2.heap.size, 0, none⟩) 2 [0, 1] := by
    refine ⟨rfl, fun _ => ⟨w2.heap.size, 0, rfl, by simp, fun j x hx => ?_⟩⟩
    match j, hx with
    | 0, hx => simp at hx; subst hx; simp
    | 1, hx => simp at hx; subst hx; simp
    | j + 2, hx => simp at hx
  have HE := Lib.hid (eqInts_true A3 2 c3 (some ⟨w2.heap.size, 0, none⟩) 2 [0, 1] _ (hI.lift hbx) hil2 (by omega))
  clear hI hil2
  go_wp2_with fail
  with_reducible refine HE.out.mono ?_
  rintro e w6 ⟨rfl, hb6⟩
  go_wp2_with fail
  go_ret
  exact ⟨rfl, hbw2.trans ((hbx.trans (hb6.mono hbx.size)).mono hbw2.size)⟩
end Go.Proofs.Ytapajkfnpkekdaa
