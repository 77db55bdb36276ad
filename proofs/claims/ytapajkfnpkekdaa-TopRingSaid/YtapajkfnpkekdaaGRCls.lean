/-
  'Classes' of the reference: the sets of variables that are equal in all solutions.
-/
import Derived.Test.YtapajkfnpkekdaaGTigM
import Derived.Test.YtapajkfnpkekdaaGRSol
namespace Go.Proofs.Ytapajkfnpkekdaa
open Go Go.RowKit

theorem infoS : (Try.prog.info? 33).map (fun i => (i.zero, i.size, i.bytes)) = some (some (.slice none 0 0), 1, 24) := by kernel_rfl
/-- this value is a row of these numbers -/
def KR (w : World) (x : Value) (l : List Nat) : Prop := ∃ (b c : Nat) (cs : Array Value) (fr : Nat × Nat), x = .slice (some ⟨b, 0, none⟩) l.length c ∧ w.heap[b]? = some (.cells cs 3 fr) ∧ ∀ (j y : Nat), l[j]? = some y → cs[j]? = some (.int .i64 (y : Int))
/-- and these are such rows -/
def KS (w : World) (xs : List Value) (ls : List (List Nat)) : Prop := xs.length = ls.length ∧ ∀ (j : Nat) (l : List Nat) (x : Value), ls[j]? = some l → xs[j]? = some x → KR w x l
/-- rows of ints stay -/
def KI (w w' : World) : Prop := ∀ (q : Nat) (cs : Array Value) (fr : Nat × Nat), w.heap[q]? = some (.cells cs 3 fr) → w'.heap[q]? = some (.cells cs 3 fr)
theorem KR.keep {w w' : World} {x : Value} {l : List Nat} (h : KR w x l) (k : KI w w') : KR w' x l := by
  obtain ⟨b, c, cs, fr, h1, h2, h3⟩ := h
  exact ⟨b, c, cs, fr, h1, k _ _ _ h2, h3⟩
theorem KS.keep {w w' : World} {xs : List Value} {ls : List (List Nat)} (h : KS w xs ls) (k : KI w w') : KS w' xs ls :=
  ⟨h.1, fun j l x h1 h2 => (h.2 j l x h1 h2).keep k⟩
theorem KS.snoc {w : World} {xs : List Value} {ls : List (List Nat)} {x : Value} {l : List Nat} (h : KS w xs ls) (k : KR w x l) : KS w (xs ++ [x]) (ls ++ [l]) := by
  refine ⟨by simp [h.1], fun j l' x' h1 h2 => ?_⟩
  have hl := h.1
  by_cases hj : j < ls.length
  · rw [List.getElem?_append_left hj] at h1
    rw [List.getElem?_append_left (by omega)] at h2
    exact h.2 j l' x' h1 h2
  · rw [List.getElem?_append_right (by omega)] at h1 h2
    rw [hl] at h2
    cases hk : j - ls.length with
    | zero =>
      rw [hk] at h1 h2
      simp at h1 h2
      rw [← h1, ← h2]
      exact k
    | succ i => rw [hk] at h1; simp at h1
theorem KI.below {w w' : World} (h : Below w.heap.size w w') : KI w w' := fun q _ _ hq => (h.block q (Array.getElem?_eq_some_iff.1 hq).1).trans hq
theorem KI.trans {a b c : World} (h : KI a b) (g : KI b c) : KI a c := fun q cs fr hq => g q cs fr (h q cs fr hq)
theorem own_ne {w : World} {base : Nat} {e t : TypeId} {size n q : Nat} {v : Value} {xs : List Value} (h : w.ownsRow base e size v n xs) (hq : ∃ cs fr, w.heap[q]? = some (.cells cs t fr)) (ht : t ≠ e) : v.ownBlock ≠ some q := by
  rintro he
  obtain ⟨cs, fr, hq⟩ := hq
  rcases h.2 with ⟨rfl, _⟩ | ⟨g, cap, cur, rfl, _, hg, _⟩
  · simp [Value.ownBlock] at he
  · simp only [Value.ownBlock, Option.some.injEq] at he
    subst he
    rw [hg] at hq
    injection hq with hq
    injection hq with _ hq _
    exact ht hq.symm
theorem KI.bb {w w' : World} {base D n : Nat} {xs : List Value} (hb : BB w.heap.size D w w') (hown : w.ownsRow base 4 1 (.slice (some ⟨D, 0, none⟩) n n) n xs) : KI w w' := fun q cs fr hq => by
  have hne := own_ne hown ⟨cs, fr, hq⟩ (by decide)
  exact (hb.block q (Array.getElem?_eq_some_iff.1 hq).1 (fun e => hne (by subst e; rfl))).trans hq
theorem KI.grown {w w' : World} {base n : Nat} {v : Value} {xs : List Value} (hown : w.ownsRow base 33 1 v n xs) (hg : w.grownBy w' v.ownBlock) : KI w w' := fun q cs fr hq => by
  have hne := own_ne hown ⟨cs, _, hq⟩ (by decide)
  exact (hg.block q (Array.getElem?_eq_some_iff.1 hq).1 (fun e => hne e.symm)).trans hq
theorem row_ty {w : World} {base g n c size : Nat} {e : TypeId} {xs : List Value} (hown : w.ownsRow base e size (.slice (some ⟨g, 0, none⟩) n c) n xs) : ∃ cs fr, w.heap[g]? = some (.cells cs e fr) := by
  rcases hown.2 with ⟨h, _⟩ | ⟨g', cap, cur, h, _, hg, _⟩
  · cases h
  · cases h; exact ⟨_, _, hg⟩
theorem KR.of_own {w : World} {base : Nat} {u : Value} {l : List Nat} (h : w.ownsRow base 3 1 u l.length (int1 (castN l))) (hl : 0 < l.length) : KR w u l := by
  have h0 := h
  rcases h.2 with ⟨rfl, hn⟩ | ⟨g, cap, cur, rfl, hb, hg, hc, hm, hs, ht⟩
  · omega
  · refine ⟨g, cap, cur, _, rfl, hg, fun j y hy => ?_⟩
    have hj : j < l.length := (List.getElem?_eq_some_iff.1 hy).1
    have h1 := h0.cellAt j (by omega)
    have h2 : (int1 (castN l))[j]? = some (.int .i64 (y : Int)) := int1_at (by simp [castN, hy])
    rw [h2] at h1
    simpa [World.cell?, hg] using h1

theorem RS.up {n : Nat} {cs : List LCn} {L : List Int} (hcs : ∀ c ∈ cs, Con n c) (h : RS n cs L) (x : Int) (hx : x ∈ L) : 0 ≤ x ∧ x ≤ 1000 * ((n + 1 : Nat) : Int) := by
  have hl : Lst (fun e => e ∈ esA n cs) (gx L) := ⟨h.sat, h.nn, fun y hy hn v => by
    by_cases hv : v < n
    · have h1 := h.least y hy v hv
      have h2 := hn n
      omega
    · rw [gx_out h.len (by omega)]; exact hn v⟩
  have hb := hl.bound (N := n + 1) (fun e he => by
    obtain ⟨h1, h2, _, h3, _⟩ := esA_ok hcs he
    exact ⟨h1, h2, h3⟩) (fun v hv => gx_out h.len (by omega))
  obtain ⟨i, hi, rfl⟩ := List.getElem_of_mem hx
  have h2 : gx L i = L[i] := gx_at (List.getElem?_eq_getElem hi)
  have h3 := hb i
  have h4 := h.nn i
  rw [h2] at h3 h4
  exact ⟨h4, h3⟩
/-- which of the sets have been begun -/
def DnI (P : Nat → Nat → Bool) (n k : Nat) (ds : List Bool) : Prop := ds.length = n ∧ ∀ x, x < n → (sset ds x ↔ ∃ z, z < k ∧ P z x = true)
theorem DnI.skip {E : List Edg} {n k : Nat} {ds : List Bool} (h : DnI (eqN E) n k ds) (hk : k < n) (hd : sset ds k) : DnI (eqN E) n (k + 1) ds ∧ fst1 (eqN E) k = false := by
  obtain ⟨z, hz, hP⟩ := (h.2 k hk).1 hd
  refine ⟨⟨h.1, fun x hx => ?_⟩, ?_⟩
  · rw [h.2 x hx]
    constructor
    · rintro ⟨y, hy, h2⟩
      exact ⟨y, by omega, h2⟩
    · rintro ⟨y, hy, h2⟩
      by_cases hyk : y = k
      · subst hyk
        exact ⟨z, hz, eqN_iff.2 ((eqN_iff.1 hP).trans (eqN_iff.1 h2))⟩
      · exact ⟨y, by omega, h2⟩
  · cases hf : fst1 (eqN E) k with
    | false => rfl
    | true => rw [fst1_iff.1 hf z hz] at hP; cases hP
theorem DnI.fst {E : List Edg} {n k : Nat} {ds : List Bool} (h : DnI (eqN E) n k ds) (hk : k < n) (hd : ¬ sset ds k) : fst1 (eqN E) k = true := by
  refine fst1_iff.2 fun z hz => ?_
  cases hP : eqN E z k with
  | false => rfl
  | true => exact absurd ((h.2 k hk).2 ⟨z, hz, hP⟩) hd
/-- while a set is gathered -/
def DnJ (P : Nat → Nat → Bool) (n k j : Nat) (ds dj : List Bool) : Prop := dj.length = n ∧ ∀ x, x < n → (sset dj x ↔ sset ds x ∨ x < j ∧ P k x = true)
theorem DnJ.begin {E : List Edg} {n k : Nat} {ds : List Bool} (hl : ds.length = n) (hf : fst1 (eqN E) k = true) : DnJ (eqN E) n k k ds ds := by
  refine ⟨hl, fun x hx => ⟨.inl, ?_⟩⟩
  rintro (h | ⟨h1, h2⟩)
  · exact h
  · have h3 := fst1_iff.1 hf x h1
    rw [eqN_iff.2 (eqN_iff.1 h2).symm] at h3
    cases h3
theorem DnJ.no {P : Nat → Nat → Bool} {n k j : Nat} {ds dj : List Bool} (h : DnJ P n k j ds dj) (hP : P k j = false) : DnJ P n k (j + 1) ds dj := by
  refine ⟨h.1, fun x hx => ?_⟩
  rw [h.2 x hx]
  constructor
  · rintro (h1 | ⟨h1, h2⟩)
    · exact .inl h1
    · exact .inr ⟨by omega, h2⟩
  · rintro (h1 | ⟨h1, h2⟩)
    · exact .inl h1
    · by_cases hx : x = j
      · subst hx; rw [hP] at h2; cases h2
      · exact .inr ⟨by omega, h2⟩
theorem DnJ.yes {P : Nat → Nat → Bool} {n k j : Nat} {ds dj : List Bool} (h : DnJ P n k j ds dj) (hj : j < n) (hP : P k j = true) : DnJ P n k (j + 1) ds (dj.set j true) := by
  refine ⟨by rw [List.length_set]; exact h.1, fun x hx => ?_⟩
  rw [sset_set (by rw [h.1]; exact hj)]
  show sset dj x ∨ x = j ↔ _
  rw [h.2 x hx]
  constructor
  · rintro ((h1 | ⟨h1, h2⟩) | rfl)
    · exact .inl h1
    · exact .inr ⟨by omega, h2⟩
    · exact .inr ⟨by omega, hP⟩
  · rintro (h1 | ⟨h1, h2⟩)
    · exact .inl (.inl h1)
    · by_cases hx : x = j
      · exact .inr hx
      · exact .inl (.inr ⟨by omega, h2⟩)
/-- what is to be gathered was not marked -/
theorem DnJ.free {E : List Edg} {n k j : Nat} {ds dj : List Bool} (h : DnJ (eqN E) n k j ds dj) (hd : DnI (eqN E) n k ds) (hf : fst1 (eqN E) k = true) (hj : j < n) (hP : eqN E k j = true) : dj[j]? = some false := by
  have hl : j < dj.length := by rw [h.1]; exact hj
  rw [List.getElem?_eq_getElem hl]
  cases hb : dj[j] with
  | false => rfl
  | true =>
    exfalso
    rcases (h.2 j hj).1 ((sset_iff hl).2 hb) with h1 | ⟨h1, _⟩
    · obtain ⟨z, hz, h2⟩ := (hd.2 j hj).1 h1
      have h3 := fst1_iff.1 hf z hz
      rw [eqN_iff.2 ((eqN_iff.1 h2).trans (eqN_iff.1 hP).symm)] at h3
      cases h3
    · omega
theorem DnJ.done {E : List Edg} {n k : Nat} {ds dj : List Bool} (h : DnJ (eqN E) n k n ds dj) (hd : DnI (eqN E) n k ds) : DnI (eqN E) n (k + 1) dj := by
  refine ⟨h.1, fun x hx => ?_⟩
  rw [h.2 x hx, hd.2 x hx]
  constructor
  · rintro (⟨z, hz, h1⟩ | ⟨_, h1⟩)
    · exact ⟨z, by omega, h1⟩
    · exact ⟨k, by omega, h1⟩
  · rintro ⟨z, hz, h1⟩
    by_cases hzk : z = k
    · subst hzk; exact .inr ⟨hx, h1⟩
    · exact .inl ⟨z, by omega, h1⟩

theorem own_bb {w w' : World} {base D n size : Nat} {e : TypeId} {v : Value} {xs : List Value} (h : w.ownsRow base e size v n xs) (hb : BB w.heap.size D w w') (hn : v.ownBlock ≠ some D) : w'.ownsRow base e size v n xs :=
  ⟨h.1, h.2.imp id fun ⟨g, cap, cur, e1, e2, e3, e4⟩ => ⟨g, cap, cur, e1, e2, (hb.block g (Array.getElem?_eq_some_iff.1 e3).1 (fun e => hn (by rw [e1, e]; rfl))).trans e3, e4⟩⟩
theorem one_slice {A : Option Addr} {n c : Nat} : ∀ u ∈ [Value.slice A n c], u.oneCell' = true := fun u hu => by rw [List.mem_singleton.1 hu]; rfl
/-- what Classes says -/
def RClsPost (v : Int) (cs : List LCn) (w : World) (e : Ending) (w' : World) : Prop :=
  Below w.heap.size w w' ∧ (gvld v cs = false ∧ e = .returned (.tuple #[.slice none 0 0, .int .i64 4]) ∨
    gvld v cs = true ∧ ∃ n : Nat, v = n ∧ (e = .returned (.tuple #[.slice none 0 0, .int .i64 20]) ∧ (∀ y, Sat (fun e => e ∈ esA n cs) y → False) ∨
      ∃ u xs, e = .returned (.tuple #[u, .int .i64 0]) ∧ w'.ownsRow w.heap.size 33 1 u xs.length xs ∧ KS w' xs (cls (eqN (esA n cs)) n n) ∧ ∃ y, Sat (fun e => e ∈ esA n cs) y))

end Go.Proofs.Ytapajkfnpkekdaa
