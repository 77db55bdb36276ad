/-
  'Classes' of the reference: the sets of variables that are equal in all solutions.
-/
import Derived.Test.YtfaebmpdianniaaGTigM
import Derived.Test.YtfaebmpdianniaaGRSol
namespace Go.Proofs.Ytfaebmpdianniaa
open Go Go.RowKit

theorem infoS : (Try.prog.info? 42).map (fun i => (i.zero, i.size, i.bytes)) = some (some (.slice none 0 0), 1, 24) := by kernel_rfl
/-- this value is a row of these numbers -/
def KR (w : World) (x : Value) (l : List Nat) : Prop := ∃ (b c : Nat) (cs : Array Value) (fr : Nat × Nat), x = .slice (some ⟨b, 0, none⟩) l.length c ∧ w.heap[b]? = some (.cells cs 3 fr) ∧ ∀ (j y : Nat), l[j]? = some y → cs[j]? = some (.int .i64 (y : Int))
/-- and these are such rows -/
def KS (w : World) (xs : List Value) (ls : List (List Nat)) : Prop := xs.length = ls.length ∧ ∀ (j : Nat) (l : List Nat) (x : Value), ls[j]? = some l → xs[j]? = some x → KR w x l
/-- rows of ints stay -/
def KI (w w' : World) : Prop := ∀ (q : Nat) (cs : Array Value) (fr : Nat × Nat), w.heap[q]? = some (.cells cs 3 fr) → w'.heap[q]? = some (.cells cs 3 fr)
theorem KR.keep {w w' : World} {x : Value} {l : List Nat} (h : KR w x l) (k : KI w w') : KR w' x l := by
  obtain ⟨b, c, cs, fr, h1, h2, h3⟩ := h
  exact ⟨b, c, cs, fr, h1, k _ _ _ h2, h3⟩
theorem KS.keep {w w' : World} {xs : List Value} {ls : List (List Nat)} (h : KS w xs ls) (k : KI w w') : KS w' xs ls :=
  ⟨h.1, fun j l x h1 h2 => (h.2 j l x h1 h2).keep k⟩
theorem KS.snoc {w : World} {xs : List Value} {ls : List (List Nat)} {x : Value} {l : List Nat} (h : KS w xs ls) (k : KR w x l) : KS w (xs ++ [x]) (ls ++ [l]) := by
  refine ⟨by simp [h.1], fun j l' x' h1 h2 => ?_⟩
  have hl := h.1
  by_cases hj : j < ls.length
  · rw [List.getElem?_append_left hj] at h1
    rw [List.getElem?_append_left (by omega)] at h2
    exact h.2 j l' x' h1 h2
  · rw [List.getElem?_append_right (by omega)] at h1 h2
    rw [hl] at h2
    cases hk : j - ls.length with
    | zero =>
      rw [hk] at h1 h2
      simp at h1 h2
      rw [← h1, ← h2]
      exact k
    | succ i => rw [hk] at h1; simp at h1
theorem KI.below {w w' : World} (h : Below w.heap.size w w') : KI w w' := fun q _ _ hq => (h.block q (Array.getElem?_eq_some_iff.1 hq).1).trans hq
theorem KI.trans {a b c : World} (h : KI a b) (g : KI b c) : KI a c := fun q cs fr hq => g q cs fr (h q cs fr hq)
theorem own_ne {w : World} {base : Nat} {e t : TypeId} {size n q : Nat} {v : Value} {xs : List Value} (h : w.ownsRow base e size v n xs) (hq : ∃ cs fr, w.heap[q]? = some (.cells cs t fr)) (ht : t ≠ e) : v.ownBlock ≠ some q := by
  rintro he
  obtain ⟨cs, fr, hq⟩ := hq
  rcases h.2 with ⟨rfl, _⟩ | ⟨g, cap, cur, rfl, _, hg, _⟩
  · simp [Value.ownBlock] at he
  · simp only [Value.ownBlock, Option.some.injEq] at he
    subst he
    rw [hg] at hq
    injection hq with hq
    injection hq with _ hq _
    exact ht hq.symm
theorem KI.bb {w w' : World} {base D n : Nat} {xs : List Value} (hb : BB w.heap.size D w w') (hown : w.ownsRow base 4 1 (.slice (some ⟨D, 0, none⟩) n n) n xs) : KI w w' := fun q cs fr hq => by
  have hne := own_ne hown ⟨cs, fr, hq⟩ (by decide)
  exact (hb.block q (Array.getElem?_eq_some_iff.1 hq).1 (fun e => hne (by subst e; rfl))).trans hq
theorem KI.grown {w w' : World} {base n : Nat} {v : Value} {xs : List Value} (hown : w.ownsRow base 42 1 v n xs) (hg : w.grownBy w' v.ownBlock) : KI w w' := fun q cs fr hq => by
  have hne := own_ne hown ⟨cs, _, hq⟩ (by decide)
  exact (hg.block q (Array.getElem?_eq_some_iff.1 hq).1 (fun e => hne e.symm)).trans hq
theorem row_ty {w : World} {base g n c size : Nat} {e : TypeId} {xs : List Value} (hown : w.ownsRow base e size (.slice (some ⟨g, 0, none⟩) n c) n xs) : ∃ cs fr, w.heap[g]? = some (.cells cs e fr) := by
  rcases hown.2 with ⟨h, _⟩ | ⟨g', cap, cur, h, _, hg, _⟩
  · cases h
  · cases h; exact ⟨_, _, hg⟩
theorem KR.of_own {w : World} {base : Nat} {u : Value} {l : List Nat} (h : w.ownsRow base 3 1 u l.length (int1 (castN l))) (hl : 0 < l.length) : KR w u l := by
  have h0 := h
  rcases h.2 with ⟨rfl, hn⟩ | ⟨g, cap, cur, rfl, hb, hg, hc, hm, hs, ht⟩
  · omega
  · refine ⟨g, cap, cur, _, rfl, hg, fun j y hy => ?_⟩
    have hj : j < l.length := (List.getElem?_eq_some_iff.1 hy).1
    have h1 := h0.cellAt j (by omega)
    have h2 : (int1 (castN l))[j]? = some (.int .i64 (y : Int)) := int1_at (by simp [castN, hy])
    rw [h2] at h1
    simpa [World.cell?, hg] using h1

theorem RS.up {n : Nat} {cs : List LCn} {L : List Int} (hcs : ∀ c ∈ cs, Con n c) (h : RS n cs L) (x : Int) (hx : x ∈ L) : 0 ≤ x ∧ x ≤ 1000 * ((n + 1 : Nat) : Int) := by
  have hl : Lst (fun e => e ∈ esA n cs) (gx L) := ⟨h.sat, h.nn, fun y hy hn v => by
    by_cases hv : v < n
    · have h1 := h.least y hy v hv
      have h2 := hn n
      omega
    · rw [gx_out h.len (by omega)]; exact hn v⟩
  have hb := hl.bound (N := n + 1) (fun e he => by
    obtain ⟨h1, h2, _, h3, _⟩ := esA_ok hcs he
    exact ⟨h1, h2, h3⟩) (fun v hv => gx_out h.len (by omega))
  obtain ⟨i, hi, rfl⟩ := List.getElem_of_mem hx
  have h2 : gx L i = L[i] := gx_at (List.getElem?_eq_getElem hi)
  have h3 := hb i
  have h4 := h.nn i
  rw [h2] at h3 h4
  exact ⟨h4, h3⟩
/-- which of the sets have been begun -/
def DnI (P : Nat → Nat → Bool) (n k : Nat) (ds : List Bool) : Prop := ds.length = n ∧ ∀ x, x < n → (sset ds x ↔ ∃ z, z < k ∧ P z x = true)
theorem DnI.skip {E : List Edg} {n k : Nat} {ds : List Bool} (h : DnI (eqN E) n k ds) (hk : k < n) (hd : sset ds k) : DnI (eqN E) n (k + 1) ds ∧ fst1 (eqN E) k = false := by
  obtain ⟨z, hz, hP⟩ := (h.2 k hk).1 hd
  refine ⟨⟨h.1, fun x hx => ?_⟩, ?_⟩
  · rw [h.2 x hx]
    constructor
    · rintro ⟨y, hy, h2⟩
      exact ⟨y, by omega, h2⟩
    · rintro ⟨y, hy, h2⟩
      by_cases hyk : y = k
      · subst hyk
        exact ⟨z, hz, eqN_iff.2 ((eqN_iff.1 hP).trans (eqN_iff.1 h2))⟩
      · exact ⟨y, by omega, h2⟩
  · cases hf : fst1 (eqN E) k with
    | false => rfl
    | true => rw [fst1_iff.1 hf z hz] at hP; cases hP
theorem DnI.fst {E : List Edg} {n k : Nat} {ds : List Bool} (h : DnI (eqN E) n k ds) (hk : k < n) (hd : ¬ sset ds k) : fst1 (eqN E) k = true := by
  refine fst1_iff.2 fun z hz => ?_
  cases hP : eqN E z k with
  | false => rfl
  | true => exact absurd ((h.2 k hk).2 ⟨z, hz, hP⟩) hd
/-- while a set is gathered -/
def DnJ (P : Nat → Nat → Bool) (n k j : Nat) (ds dj : List Bool) : Prop := dj.length = n ∧ ∀ x, x < n → (sset dj x ↔ sset ds x ∨ x < j ∧ P k x = true)
theorem DnJ.begin {E : List Edg} {n k : Nat} {ds : List Bool} (hl : ds.length = n) (hf : fst1 (eqN E) k = true) : DnJ (eqN E) n k k ds ds := by
  refine ⟨hl, fun x hx => ⟨.inl, ?_⟩⟩
  rintro (h | ⟨h1, h2⟩)
  · exact h
  · have h3 := fst1_iff.1 hf x h1
    rw [eqN_iff.2 (eqN_iff.1 h2).symm] at h3
    cases h3
theorem DnJ.no {P : Nat → Nat → Bool} {n k j : Nat} {ds dj : List Bool} (h : DnJ P n k j ds dj) (hP : P k j = false) : DnJ P n k (j + 1) ds dj := by
  refine ⟨h.1, fun x hx => ?_⟩
  rw [h.2 x hx]
  constructor
  · rintro (h1 | ⟨h1, h2⟩)
    · exact .inl h1
    · exact .inr ⟨by omega, h2⟩
  · rintro (h1 | ⟨h1, h2⟩)
    · exact .inl h1
    · by_cases hx : x = j
      · subst hx; rw [hP] at h2; cases h2
      · exact .inr ⟨by omega, h2⟩
theorem DnJ.yes {P : Nat → Nat → Bool} {n k j : Nat} {ds dj : List Bool} (h : DnJ P n k j ds dj) (hj : j < n) (hP : P k j = true) : DnJ P n k (j + 1) ds (dj.set j true) := by
  refine ⟨by rw [List.length_set]; exact h.1, fun x hx => ?_⟩
  rw [sset_set (by rw [h.1]; exact hj)]
  show sset dj x ∨ x = j ↔ _
  rw [h.2 x hx]
  constructor
  · rintro ((h1 | ⟨h1, h2⟩) | rfl)
    · exact .inl h1
    · exact .inr ⟨by omega, h2⟩
    · exact .inr ⟨by omega, hP⟩
  · rintro (h1 | ⟨h1, h2⟩)
    · exact .inl (.inl h1)
    · by_cases hx : x = j
      · exact .inr hx
      · exact .inl (.inr ⟨by omega, h2⟩)
/-- what is to be gathered was not marked -/
theorem DnJ.free {E : List Edg} {n k j : Nat} {ds dj : List Bool} (h : DnJ (eqN E) n k j ds dj) (hd : DnI (eqN E) n k ds) (hf : fst1 (eqN E) k = true) (hj : j < n) (hP : eqN E k j = true) : dj[j]? = some false := by
  have hl : j < dj.length := by rw [h.1]; exact hj
  rw [List.getElem?_eq_getElem hl]
  cases hb : dj[j] with
  | false => rfl
  | true =>
    exfalso
    rcases (h.2 j hj).1 ((sset_iff hl).2 hb) with h1 | ⟨h1, _⟩
    · obtain ⟨z, hz, h2⟩ := (hd.2 j hj).1 h1
      have h3 := fst1_iff.1 hf z hz
      rw [eqN_iff.2 ((eqN_iff.1 h2).trans (eqN_iff.1 hP).symm)] at h3
      cases h3
    · omega
theorem DnJ.done {E : List Edg} {n k : Nat} {ds dj : List Bool} (h : DnJ (eqN E) n k n ds dj) (hd : DnI (eqN E) n k ds) : DnI (eqN E) n (k + 1) dj := by
  refine ⟨h.1, fun x hx => ?_⟩
  rw [h.2 x hx, hd.2 x hx]
  constructor
  · rintro (⟨z, hz, h1⟩ | ⟨_, h1⟩)
    · exact ⟨z, by omega, h1⟩
    · exact ⟨k, by omega, h1⟩
  · rintro ⟨z, hz, h1⟩
    by_cases hzk : z = k
    · subst hzk; exact .inr ⟨hx, h1⟩
    · exact .inl ⟨z, by omega, h1⟩

theorem own_bb {w w' : World} {base D n size : Nat} {e : TypeId} {v : Value} {xs : List Value} (h : w.ownsRow base e size v n xs) (hb : BB w.heap.size D w w') (hn : v.ownBlock ≠ some D) : w'.ownsRow base e size v n xs :=
  ⟨h.1, h.2.imp id fun ⟨g, cap, cur, e1, e2, e3, e4⟩ => ⟨g, cap, cur, e1, e2, (hb.block g (Array.getElem?_eq_some_iff.1 e3).1 (fun e => hn (by rw [e1, e]; rfl))).trans e3, e4⟩⟩
theorem one_slice {A : Option Addr} {n c : Nat} : ∀ u ∈ [Value.slice A n c], u.oneCell' = true := fun u hu => by rw [List.mem_singleton.1 hu]; rfl
/-- what Classes says -/
def RClsPost (v : Int) (cs : List LCn) (w : World) (e : Ending) (w' : World) : Prop :=
  Below w.heap.size w w' ∧ (gvld v cs = false ∧ e = .returned (.tuple #[.slice none 0 0, .int .i64 4]) ∨
    gvld v cs = true ∧ ∃ n : Nat, v = n ∧ (e = .returned (.tuple #[.slice none 0 0, .int .i64 20]) ∧ (∀ y, Sat (fun e => e ∈ esA n cs) y → False) ∨
      ∃ u xs, e = .returned (.tuple #[u, .int .i64 0]) ∧ w'.ownsRow w.heap.size 42 1 u xs.length xs ∧ KS w' xs (cls (eqN (esA n cs)) n n) ∧ ∃ y, Sat (fun e => e ∈ esA n cs) y))

set_option maxRecDepth 100000 in
set_option maxHeartbeats 8000000 in
theorem rclasses_any (v : Int) (A : Option Addr) (K cap : Nat) (cs : List LCn) (w : World) (h : CL w w.heap.size A K cs) (hn : K ≤ 9223372036854775807) :
    Calls Try.prog 11 #[.int .i64 v, .slice A K cap] w (RClsPost v cs w) := by
  have hva := refGvalid_any v A K cap cs w h hn
  cases hg : gvld v cs
  · rw [hg] at hva
    have Hva := Lib.hid hva
    clear hva
    go_enter Try.func11, Try.ntmps11
    go_wp2_with fail
    refine Hva.out.mono ?_
    rintro e w1 ⟨rfl, hb1⟩
    go_wp2_with fail
    go_ret2
    exact ⟨hb1, .inl ⟨hg, rfl⟩⟩
  · rw [hg] at hva
    have Hva := Lib.hid hva
    clear hva
    obtain ⟨n, rfl, g1, g2, g3⟩ := gvld_parts hg
    have Hg := Lib.hid hg
    have Hcs := Lib.hid g3
    have hK : K ≤ 3000 := by have := h.1; omega
    clear g3 hg
    obtain ⟨r0, hr, hrz0, hrz1, hrz2⟩ := info_parts infoR
    obtain ⟨i0, hi, hz0, hz1, hz2⟩ := info_parts infoI
    obtain ⟨j0, hj, hy0, hy1, hy2⟩ := info_parts infoB
    obtain ⟨s0, hs, hs0, hs1, hs2⟩ := info_parts infoS
    go_enter Try.func11, Try.ntmps11
    go_wp2_with fail
    refine Hva.out.mono ?_
    rintro e w1 ⟨rfl, hb1⟩
    have Hbe := Lib.hid (rsolve_any n A K cap cs w1 ((h.below hb1).more hb1.size) Hcs.out g1 hK)
    go_wp2_with fail
    refine Hbe.out.mono ?_
    rintro e w2 ⟨hb2, hr2⟩
    have hb12 : Below w.heap.size w w2 := hb1.trans (hb2.mono hb1.size)
    clear Hbe Hva
    rcases hr2 with ⟨rfl, hno⟩ | ⟨u, L, rfl, hownL, hRS⟩
    · go_wp2_with fail
      go_ret2
      exact ⟨hb12, .inr ⟨Hg.out, n, rfl, .inl ⟨rfl, hno⟩⟩⟩
    · obtain ⟨AL, cL, rfl, hIL⟩ := il_own hownL
      have HSat : Hid (Sat (fun e => e ∈ esA n cs) (gx L)) := hRS.sat
      have HV : Hid (∀ e ∈ rE n cs, hol (vv L) e) := rE_iff.2 hRS.sat
      have HLb : Hid (∀ x ∈ L, -1000000000000 ≤ x ∧ x ≤ 1000000000000) := fun x hx => by have := hRS.up Hcs.out x hx; omega
      have HP : Hid (eqN (esA n cs) = eqN (rE n cs)) := eqN_congr fun y => rE_iff.symm
      have HEd := Lib.hid (redges_any n A K cap cs w2 ((h.below hb12).more hb12.size) Hcs.out g1 hK)
      have HE : Hid (∀ e ∈ rE n cs, e.f < n + 1 ∧ e.t < n + 1 ∧ -1000 ≤ e.b ∧ e.b ≤ 1000) := fun e he => rE_ok Hcs.out he
      have hEl : (rE n cs).length ≤ 30000 := by
        have h1 := rEk_len Hcs.out cs.length
        have h2 := h.1
        unfold rE
        omega
      clear hRS hownL Hcs h
      go_wp2_with fail
      refine HEd.out.mono ?_
      rintro e w3 ⟨ve, rfl, hownE, hb3⟩
      obtain ⟨Ae, ce, rfl, _, _, hRL⟩ := RL.of_own hownE
      have hIL3 : IL w3 w3.heap.size AL n L := (hIL.below hb3).more hb3.size
      have hb13 : Below w.heap.size w w3 := hb12.trans (hb3.mono hb12.size)
      clear hownE HEd hIL hb12 hb1 hb2 hb3
      generalize rE n cs = E at *
      generalize hmE : E.length = mE at *
      have hs3 := hb13.size
      go_wp2_with fail
      go_loopw [9, 10] (fun bk i wr => ∃ j : Nat, j ≤ mE ∧ i = .int .i64 j ∧ ∃ (A' : Option Addr) (n' c' : Nat), bk = .slice A' n' c' ∧ wr.ownsRow w3.heap.size 75 3 (.slice A' n' c') ((E.take j).map tE).length (flat3 ((E.take j).map tE)) ∧ Below w3.heap.size w3 wr) (fun _ i _ => mE - (intOf i).toNat)
      case atStart => exact ⟨0, Nat.zero_le _, rfl, _, _, _, rfl, by simpa [flat3] using World.ownsRow_nil _ _ _ _, Below.refl _ _⟩
      case round =>
        obtain ⟨j, hj', rfl, A', n', c', rfl, hown, hbr⟩ := hrel
        by_cases hjm : j < mE
        · obtain ⟨b, off, e, rfl, hbl, he, h0, h1, h2⟩ := (hRL.below hbr).at_ hjm
          obtain ⟨ef, et, eb0, eb1⟩ := HE.out e (List.mem_of_getElem? he)
          have Hst : Hid ((E.take (j + 1)).map tE = (E.take j).map tE ++ [tE e]) := by rw [Hid, take_snoc he]; simp
          have hql : ((E.take j).map tE).length ≤ 100000 := by rw [List.length_map, List.length_take]; omega
          generalize (E.take j).map tE = q at hown Hst hql
          have hneg : IntKind.i64.wrap (-e.b) = -e.b := by rw [IntKind.wrap_i64]; omega
          have hbw : b < wr.heap.size := by have := hbr.size; omega
          have hsz3 : w3.heap.size ≤ wr.heap.size := hbr.size
          clear he
          go_wp2_with fail
          go_region_law (refine step_append_own rfl (.tmp 39) (.tmp 57) 72 rfl w3.heap.size 75 r0 (.agg #[.int .i64 0, .int .i64 0, .int .i64 0]) 3 24 Try.underlying72 hr hrz0 hrz1 hrz2 rfl (by decide) (.slice A' n' c') q.length (flat3 q) rfl (by first | exact hown.drew.alloc _ | exact (hown.alloc _).drew | exact hown.alloc _) ⟨wr.heap.size, 0, none⟩ 1 1 [.int .i64 e.t, .int .i64 e.f, .int .i64 (-e.b)] rfl rfl (news3 (by simp)) news3_one (by unfold maxLen; omega) (by omega) (by simp; omega) ?_; intro v' w5 hown5 hgrow)
          all_goals
            have hb5 : Below w3.heap.size wr w5 := ((Below.refl _ wr).drew.alloc (by simpa using hsz3) _).grown hgrow (by simp; omega) (fun j hj => (hown.lt j hj).1)
            have hown6 : w5.ownsRow w3.heap.size 75 3 v' (q ++ [tE e]).length (flat3 (q ++ [tE e])) := by
              rw [List.length_append, flat3_app, flat3_one]
              exact hown5
            obtain ⟨A7, n7, c7, rfl⟩ : ∃ A n c, v' = Value.slice A n c := by
              obtain ⟨A, c, h, _⟩ := RL.of_own hown6
              exact ⟨_, _, _, h⟩
            go_wp2_with fail
            go_roundw
            case rel => exact ⟨j + 1, by omega, by go_num, A7, n7, c7, rfl, by rw [Hst.out]; exact hown6, hbr.trans hb5⟩
            case measure => simp [intOf]; omega
        · have hfull : E.take j = E := List.take_of_length_le (by omega)
          rw [hfull] at hown
          obtain ⟨Ab, cb, hbe, _, _, hRLb⟩ := RL.of_own hown
          obtain ⟨rfl, rfl, rfl⟩ : A' = Ab ∧ n' = (E.map tE).length ∧ c' = cb := by simpa using hbe
          have hRL4 := (hRL.below hbr).more hbr.size
          have hIL4 := (hIL3.below hbr).more hbr.size
          have hbl : (E.map tE).length = mE := by rw [List.length_map]; exact hmE
          rw [hbl] at hRLb ⊢
          have HE2 : Hid (∀ e ∈ E.map tE, e.f < n + 1 ∧ e.t < n + 1 ∧ -1000 ≤ e.b ∧ e.b ≤ 1000) := fun e he => by
            obtain ⟨e', he', rfl⟩ := List.mem_map.1 he
            have := HE.out e' he'
            simp only [tE]
            omega
          have hb14 : Below w.heap.size w wr := hb13.trans (hbr.mono hs3)
          clear hfull hbe hown hRL hIL3 hbr hb13
          have hjj : ¬ (j : Int) < (mE : Int) := by omega
          generalize hE2 : E.map tE = E2 at *
          go_wp2_with (refine wpList_make_full _ rfl (.tmp 59) (.tmp 59) 62 rfl wr.heap.size 4 j0 (.bool false) 1 Try.underlying62 hj hy0 hy1 .i64 .i64 _ _ n rfl rfl (by omega) (by omega) (by rw [hy2]; omega) (by unfold maxLen; omega) (Nat.le_refl _) ?_)
          intro w5 hown5 hgrow5
          have hb5 : Below wr.heap.size wr w5 := (Below.refl _ wr).grown hgrow5 (Nat.le_refl _) (fun j hj => by cases hj)
          have hmk := made_false n
          simp only [Value.cells, Nat.mul_one] at hmk
          rw [hmk] at hown5
          have hD0 : DnI (eqN E) n 0 (List.replicate n false) := ⟨by simp, fun x hx => by
            unfold sset
            rw [List.getElem?_replicate, if_pos hx]
            constructor
            · intro h; simp at h
            · rintro ⟨z, hz, _⟩; omega⟩
          generalize List.replicate n false = d0 at hown5 hD0
          clear hmk hgrow5
          generalize hD : wr.heap.size = D at *
          obtain ⟨wo, hwo⟩ : ∃ wo, wo = wr := ⟨_, rfl⟩
          subst hwo
          go_wp2_with fail
          go_loopw [12, 13] (fun s i wx => ∃ k : Nat, k ≤ n ∧ i = .int .i64 k ∧ ∃ (xs : List Value) (ds : List Bool), wx.ownsRow D 42 1 s xs.length xs ∧ KS wx xs (cls (eqN E) n k) ∧ DnI (eqN E) n k ds ∧ wx.ownsRow D 4 1 (.slice (some ⟨D, 0, none⟩) n n) n (bool1 ds) ∧ Below D wo wx) (fun _ i _ => n - (intOf i).toNat)
          case atStart => exact ⟨0, Nat.zero_le _, rfl, [], d0, World.ownsRow_nil _ _ _ _, ⟨rfl, fun j l x h => by simp [cls] at h⟩, hD0, hown5, hb5⟩
          case round =>
            clear hown5 hD0 hb5
            obtain ⟨k, hk, rfl, xs, ds, hownS, hKS, hDn, hownD, hbr⟩ := hrel
            by_cases hkn : k < n
            · have hdl : ds.length = n := hDn.1
              obtain ⟨dk, hdk⟩ : ∃ x, ds[k]? = some x := ⟨_, List.getElem?_eq_getElem (by omega)⟩
              obtain ⟨q1, _⟩ := own_cellB hownD hdk
              cases dk
              · have hnd : ¬ sset ds k := by unfold sset; rw [hdk]; simp
                have hf := hDn.fst hkn hnd
                have hszr : D ≤ wr.heap.size := by have := hbr.size; omega
                obtain ⟨hDr1, hDr2⟩ := own_lt hownD
                have hki : (k : Int) < (n : Int) := by omega
                have HRa := Lib.hid (reached_any n k Ae mE ce E AL cL L wr ((hRL4.below hbr).more hszr) ((hIL4.below hbr).more hszr) HE.out HLb.out g1 (by omega) (by omega))
                have HRb := Lib.hid (fun W (hW : Below wr.heap.size wr W) => reached_any n k A' mE c' E2 AL cL L W ((((hRLb.below hbr).more hszr).below hW).more hW.size) ((((hIL4.below hbr).more hszr).below hW).more hW.size) HE2.out HLb.out g1 (by omega) (by omega))
                have Hf := Lib.hid hf
                have HDn := Lib.hid hDn
                obtain ⟨bL, offL, rfl, hbL, hLc⟩ := hIL4.2 (by omega)
                have HLc : Hid (∀ x, x < n → wr.cell? ⟨bL, offL + x, none⟩ = some (.int .i64 (vv L x))) := fun x hx => (hbr.cell (p := ⟨bL, offL + x, none⟩) hbL).trans (hLc x _ (by
                  have hl := hIL4.1
                  unfold vv
                  rw [List.getD_eq_getElem?_getD, List.getElem?_eq_getElem (show x < L.length by omega)]; rfl))
                clear hLc hdk hnd hf hDn
                go_wp2_with fail
                refine HRa.out.mono ?_
                rintro e w6 ⟨ga, ba, rfl, hownA, hla, hra, hb6⟩
                have Hra := Lib.hid hra
                clear hra
                go_wp2_with fail
                refine (HRb.out w6 hb6).mono ?_
                rintro e w7 ⟨gb, bb, rfl, hownB, hlb, hrb, hb7⟩
                have hb67 : Below wr.heap.size wr w7 := hb6.trans (hb7.mono hb6.size)
                have HPk : Hid (∀ x, eqN E k x = true ↔ (sset ba x ∧ sset bb x) ∧ vv L x = vv L k) := fun x => by
                  rw [eqN_iff, eqS_iff HV.out, Hra.out x, hrb x, ← hE2, rch_turn]
                have hA7 := own_below hownA hb7
                obtain ⟨ga1, ga2⟩ := own_lt hA7
                obtain ⟨gb1, gb2⟩ := own_lt hownB
                have hsz6 := hb6.size
                have hsz7 := hb7.size
                have hS7 := own_below hownS hb67
                have hD7 := own_below hownD hb67
                have hKS7 := hKS.keep (KI.below hb67)
                have hSD := own_ne hS7 (row_ty hD7) (by decide)
                have HA7 : Hid (∀ W, BB w7.heap.size D w7 W → ∀ x b, ba[x]? = some b → W.cell? ⟨ga, x, none⟩ = some (.bool b)) := fun W hW x b hx => (hW.cell (p := ⟨ga, x, none⟩) ga2 (show ga ≠ D by omega)).trans (own_cellB hA7 hx).1
                have HB7 : Hid (∀ W, BB w7.heap.size D w7 W → ∀ x b, bb[x]? = some b → W.cell? ⟨gb, x, none⟩ = some (.bool b)) := fun W hW x b hx => (hW.cell (p := ⟨gb, x, none⟩) gb2 (show gb ≠ D by omega)).trans (own_cellB hownB hx).1
                have HL7 : Hid (∀ W, BB w7.heap.size D w7 W → ∀ x, x < n → W.cell? ⟨bL, offL + x, none⟩ = some (.int .i64 (vv L x))) := fun W hW x hx => (hW.cell (p := ⟨bL, offL + x, none⟩) (show bL < w7.heap.size by omega) (show bL ≠ D by omega)).trans ((hb67.cell (p := ⟨bL, offL + x, none⟩) (show bL < wr.heap.size by omega)).trans (HLc.out x hx))
                have hbb0 : BB w7.heap.size D w7 w7 := BB.of (Below.refl _ _)
                have HJ0 := Lib.hid (DnJ.begin HDn.out.1 Hf.out)
                have hM0 := mem1_first Hf.out
                have hS0 : w7.ownsRow w7.heap.size 3 1 (.slice none 0 0) (mem1 (eqN E) k k).length (int1 (castN (mem1 (eqN E) k k))) := by rw [hM0]; exact World.ownsRow_nil _ _ _ _
                have hDlt : D < w7.heap.size := by omega
                have hbr7 : Below D wo w7 := hbr.trans (hb67.mono hszr)
                clear hRL4 hIL4 hRLb HRa HRb hownA hownB hA7 hrb Hra hb6 hb7 hM0 HLc hownS hownD hKS q1 hbr
                obtain ⟨wq, hwq⟩ : ∃ wq, wq = wr := ⟨_, rfl⟩
                subst hwq
                go_wp2_with fail
                go_loopw [16, 17] (fun u i wy => ∃ j : Nat, k ≤ j ∧ j ≤ n ∧ i = .int .i64 j ∧ ∃ dj : List Bool, wy.ownsRow w7.heap.size 3 1 u (mem1 (eqN E) k j).length (int1 (castN (mem1 (eqN E) k j))) ∧ DnJ (eqN E) n k j ds dj ∧ wy.ownsRow D 4 1 (.slice (some ⟨D, 0, none⟩) n n) n (bool1 dj) ∧ BB w7.heap.size D w7 wy) (fun _ i _ => n - (intOf i).toNat)
                case atStart => exact ⟨k, Nat.le_refl _, hk, rfl, ds, hS0, HJ0.out, hD7, hbb0⟩
                case round =>
                  clear hS0 HJ0 hbb0
                  obtain ⟨j, hkj, hjn, rfl, dj, hownU, hDj, hownD, hbb⟩ := hrel
                  have hml := mem1_len (eqN E) k j
                  by_cases hjm : j < n
                  · have hji : (j : Int) < (n : Int) := by omega
                    have hji1 : (j : Int) < (n : Int) + 1 := by omega
                    obtain ⟨x1, hx1⟩ : ∃ x, ba[j]? = some x := ⟨_, List.getElem?_eq_getElem (by omega)⟩
                    obtain ⟨x2, hx2⟩ : ∃ x, bb[j]? = some x := ⟨_, List.getElem?_eq_getElem (by omega)⟩
                    obtain ⟨x3, hx3⟩ : ∃ x, dj[j]? = some x := ⟨_, List.getElem?_eq_getElem (by have := hDj.1; omega)⟩
                    have c1 := HA7.out wr hbb j x1 hx1
                    have c2 := HB7.out wr hbb j x2 hx2
                    have c3 := HL7.out wr hbb j hjm
                    have c4 := HL7.out wr hbb k hkn
                    obtain ⟨c5, c6⟩ := own_cellB hownD hx3
                    have hszq : w7.heap.size ≤ wr.heap.size := hbb.size
                    cases hP : eqN E k j
                    · have HDj := Lib.hid (hDj.no hP)
                      have Hm : Hid (mem1 (eqN E) k (j + 1) = mem1 (eqN E) k j) := by rw [Hid, mem1_succ, if_neg (by rw [hP]; simp)]
                      have hnot : ¬ ((sset ba j ∧ sset bb j) ∧ vv L j = vv L k) := fun h9 => by rw [(HPk.out j).2 h9] at hP; cases hP
                      have Hnot : Hid (x1 = true → x2 = true → vv L j = vv L k → False) := fun h1 h2 h3 => hnot ⟨⟨by subst h1; exact hx1, by subst h2; exact hx2⟩, h3⟩
                      generalize vv L j = lj at *
                      generalize vv L k = lk at *
                      clear hDj hP hnot hx1 hx2 hx3
                      cases x1
                      · go_wp2_with fail
                        go_quiet (fail)
                        go_wp2_with fail
                        go_roundw
                        case rel => exact ⟨j + 1, by omega, by omega, by go_num, dj, by rw [Hm.out]; exact own_below hownU (below_drewN (Below.refl _ _) _), HDj.out, own_below hownD (below_drewN (Below.refl _ _) _), hbb.drewN _⟩
                        case measure => simp [intOf]; omega
                      · cases x2
                        · go_wp2_with fail
                          go_quiet (fail)
                          go_wp2_with fail
                          go_roundw
                          case rel => exact ⟨j + 1, by omega, by omega, by go_num, dj, by rw [Hm.out]; exact own_below hownU (below_drewN (Below.refl _ _) _), HDj.out, own_below hownD (below_drewN (Below.refl _ _) _), hbb.drewN _⟩
                          case measure => simp [intOf]; omega
                        · have hne : ¬ lj = lk := Hnot.out rfl rfl
                          go_wp2_with fail
                          go_quiet (fail)
                          go_wp2_with fail
                          go_roundw
                          case rel => exact ⟨j + 1, by omega, by omega, by go_num, dj, by rw [Hm.out]; exact own_below hownU (below_drewN (Below.refl _ _) _), HDj.out, own_below hownD (below_drewN (Below.refl _ _) _), hbb.drewN _⟩
                          case measure => simp [intOf]; omega
                    · have HDj := Lib.hid (hDj.yes hjm hP)
                      have Hm : Hid (mem1 (eqN E) k (j + 1) = mem1 (eqN E) k j ++ [j]) := by rw [Hid, mem1_succ, if_pos hP]
                      obtain ⟨⟨hs1', hs2'⟩, hs3⟩ := (HPk.out j).1 hP
                      have hfr := hDj.free HDn.out Hf.out hjm hP
                      obtain rfl : x1 = true := by unfold sset at hs1'; rw [hx1] at hs1'; exact Option.some.inj hs1'
                      obtain rfl : x2 = true := by unfold sset at hs2'; rw [hx2] at hs2'; exact Option.some.inj hs2'
                      obtain rfl : x3 = false := by rw [hx3] at hfr; exact Option.some.inj hfr
                      rw [hs3] at c3
                      clear hP hDj hs1' hs2' hs3 hfr hx1 hx2 hx3
                      generalize vv L k = lk at *
                      go_wp2_with fail
                      go_quiet (fail)
                      have hbd : Below wr.heap.size wr (wr.drewN nq) := below_drewN (Below.refl _ _) _
                      have hU3 := own_below hownU hbd
                      have hD3 := own_below hownD hbd
                      have hbb3 := hbb.drewN nq
                      have hsz3' : w7.heap.size ≤ (wr.drewN nq).heap.size := hbb3.size
                      generalize wr.drewN nq = W3 at hU3 hD3 hbb3 hsz3' ⊢
                      clear hbd c1 c2 c3 c4 c5 c6 hownU hownD hbb hszq
                      have hXX : Below W3.heap.size W3 (W3.alloc (.cells #[.int .i64 j] 3)) := (Below.refl _ W3).alloc (Nat.le_refl _) _
                      have hU4 := own_below hU3 hXX
                      have hD4 := own_below hD3 hXX
                      generalize hmm : mem1 (eqN E) k j = mj at *
                      clear hU3
                      go_wp2_with (at_builtin; refine wpList_append_own _ rfl _ _ 42 rfl w7.heap.size 3 i0 (.int .i64 0) 1 8 Try.underlying42 hi hz0 hz1 hz2 rfl (by decide) _ mj.length (int1 (castN mj)) rfl hU4 ⟨W3.heap.size, 0, none⟩ 1 1 [.int .i64 j] rfl rfl (newI rfl) newI_one (by unfold maxLen; omega) (by omega) (by simp; omega) ?_)
                      intro v8 w8 hU8 hgr8 _
                      have hbb8 : BB w7.heap.size D w7 w8 := (hbb3.then hXX hsz3').grown hgr8 (by simp; omega) fun j hj => (hU4.lt j hj).1
                      have hD8 : w8.ownsRow D 4 1 (.slice (some ⟨D, 0, none⟩) n n) n (bool1 dj) := own_grown hD4 hgr8 fun q hq => by
                        have h8 : w7.heap.size ≤ q := (hU4.lt q hq).1
                        show some D ≠ some q
                        intro h9
                        injection h9 with h9
                        omega
                      have hU9 : w8.ownsRow w7.heap.size 3 1 v8 (mj ++ [j]).length (int1 (castN (mj ++ [j]))) := by
                        rw [castN_app, int1_app, List.length_append]
                        exact hU8
                      have hdl8 : dj.length = n := by have := HDj.out.1; rw [List.length_set] at this; exact this
                      obtain ⟨z1, z2⟩ := own_cellB hD8 (List.getElem?_eq_getElem (show j < dj.length by omega))
                      have hD9 := own_storeB hD8 j true
                      have hvD : v8.ownBlock ≠ some D := fun e => by have := (hU9.lt D e).1; omega
                      have hU10 := own_other hU9 hvD j (.bool true)
                      have hbb9 := hbb8.setT j (.bool true)
                      clear hU8 hgr8 hU4 hD4 hXX hD8 hU9 hbb8 hvD
                      go_wp2_with fail
                      go_roundw
                      case rel => exact ⟨j + 1, by omega, by omega, by go_num, _, by rw [Hm.out]; exact hU10, HDj.out, hD9, hbb9⟩
                      case measure => simp [intOf]; omega
                  · obtain rfl : j = n := by omega
                    have hji : ¬ (j : Int) < (j : Int) := by omega
                    have HDd := Lib.hid (hDj.done HDn.out)
                    have hKSr := hKS7.keep (KI.bb hbb hD7)
                    have hSr := own_bb hS7 hbb hSD
                    have hbrr : Below D wo wr := hbr7.trans ⟨hbb.os, hbb.tape, hbb.output, hbb.size, fun q hq => hbb.block q (by omega) (by omega)⟩
                    have Hcl := Lib.hid (cls_succ (eqN E) j k)
                    have hxl : xs.length ≤ k := by rw [hKS7.1]; exact cls_len _ _ _
                    obtain ⟨Au, cu, rfl, _⟩ := il_own hownU
                    have hszq : D ≤ wr.heap.size := by have := hbb.size; omega
                    by_cases hM : 1 < (mem1 (eqN E) k j).length
                    · have hKR := KR.of_own hownU (by omega)
                      have Hcl2 : Hid (cls (eqN E) j (k + 1) = cls (eqN E) j k ++ [mem1 (eqN E) k j]) := by rw [Hid, Hcl.out, if_pos ⟨Hf.out, hM⟩]
                      have hKS8 := hKSr.snoc hKR
                      rw [← Hcl2.out] at hKS8
                      have hMi : (1 : Int) < ((mem1 (eqN E) k j).length : Int) := by omega
                      generalize hmm : mem1 (eqN E) k j = M at *
                      have hXX : Below wr.heap.size wr (wr.alloc (.cells #[.slice Au M.length cu] 42)) := (Below.refl _ wr).alloc (Nat.le_refl _) _
                      have hS4 := own_below hSr hXX
                      have hD4 := own_below hownD hXX
                      have hKS9 := hKS8.keep (KI.below hXX)
                      clear hownU hKR hDj hSr hownD hKSr hKS8 hS7 hD7 hKS7 HA7 HB7 HL7
                      go_wp2_with (at_builtin; refine wpList_append_own _ rfl _ _ 25 rfl D 42 s0 (.slice none 0 0) 1 24 Try.underlying25 hs hs0 hs1 hs2 rfl (by decide) _ xs.length xs rfl hS4 ⟨wr.heap.size, 0, none⟩ 1 1 [.slice Au M.length cu] rfl rfl (newI rfl) one_slice (by unfold maxLen; omega) (by omega) (by simp; omega) ?_)
                      intro v8 w8 hS8 hgr8 _
                      have hKS10 := hKS9.keep (KI.grown hS4 hgr8)
                      have hD8 : w8.ownsRow D 4 1 (.slice (some ⟨D, 0, none⟩) j j) j (bool1 dj) := own_grown hD4 hgr8 fun q hq e => by
                        have h9 := own_ne hS4 (row_ty hD4) (by decide)
                        rw [← e] at hq
                        exact h9 hq
                      have hbr8 : Below D wo w8 := (hbrr.trans (hXX.mono hszq)).grown hgr8 (by simp; omega) fun q hq => (hS4.lt q hq).1
                      have hS9 : w8.ownsRow D 42 1 v8 (xs ++ [Value.slice Au M.length cu]).length (xs ++ [Value.slice Au M.length cu]) := by
                        rw [List.length_append]
                        exact hS8
                      clear hS8 hgr8 hS4 hD4 hXX hKS9 hbrr
                      go_wp2_with fail
                      go_roundw
                      case rel => exact ⟨k + 1, by omega, by go_num, _, dj, hS9, hKS10, HDd.out, hD8, hbr8⟩
                      case measure => simp [intOf]; omega
                    · have Hcl2 : Hid (cls (eqN E) j (k + 1) = cls (eqN E) j k) := by rw [Hid, Hcl.out, if_neg (fun h => hM h.2)]
                      have hMi : ¬ (1 : Int) < ((mem1 (eqN E) k j).length : Int) := by omega
                      clear hDj
                      go_wp2_with fail
                      go_roundw
                      case rel => exact ⟨k + 1, by omega, by go_num, xs, dj, hSr, by rw [Hcl2.out]; exact hKSr, HDd.out, hownD, hbrr⟩
                      case measure => simp [intOf]; omega
              · obtain ⟨hD2, hf⟩ := hDn.skip hkn hdk
                have Hcl : Hid (cls (eqN E) n (k + 1) = cls (eqN E) n k) := by rw [Hid, cls_succ, if_neg (by rw [hf]; simp)]
                have HD2 := Lib.hid hD2
                clear hdk hD2 hf
                go_wp2_with fail
                go_roundw
                case rel => exact ⟨k + 1, by omega, by go_num, xs, ds, hownS, by rw [Hcl.out]; exact hKS, HD2.out, hownD, hbr⟩
                case measure => simp [intOf]; omega
            · obtain rfl : k = n := by omega
              have hkk : ¬ (k : Int) < (k : Int) := by omega
              go_wp2_with fail
              go_ret2
              exact ⟨hb14.trans (hbr.mono (by have := hb14.size; omega)), .inr ⟨Hg.out, k, rfl, .inr ⟨_, xs, rfl, own_lower hownS (by have := hb14.size; omega), by rw [HP.out]; exact hKS, _, HSat.out⟩⟩⟩
end Go.Proofs.Ytfaebmpdianniaa
