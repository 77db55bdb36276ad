/-
  What the reference's reader makes of a text, as plain functions; the text of a canonical level is read as that level.
-/
import Derived.Test.YtgbbmcfhakliiaaGreatDoorTxtP
namespace Go.Proofs.YtgbbmcfhakliiaaGreatDoor
open Go Go.RowKit

/-- at most so many digits: the number behind them, the rest, and how many they are -/
def takeD : Nat → Int → List UInt8 → Int × List UInt8 × Nat
  | 0, n, l => (n, l, 0)
  | _ + 1, n, [] => (n, [], 0)
  | f + 1, n, b :: l =>
    if 48 ≤ b.toNat ∧ b.toNat ≤ 57 then ((takeD f (10 * n + ((b.toNat : Int) - 48)) l).1, (takeD f (10 * n + ((b.toNat : Int) - 48)) l).2.1, (takeD f (10 * n + ((b.toNat : Int) - 48)) l).2.2 + 1)
    else (n, b :: l, 0)
/-- a number of at most six digits, and the rest -/
def numR (l : List UInt8) : Int × List UInt8 × Bool := ((takeD 7 0 l).1, (takeD 7 0 l).2.1, decide (0 < (takeD 7 0 l).2.2 ∧ (takeD 7 0 l).2.2 < 7))
def valD (n : Int) (l : List UInt8) : Int := l.foldl (fun a b => 10 * a + ((b.toNat : Int) - 48)) n
/-- the rest does not begin with a digit -/
def Stop (r : List UInt8) : Prop := ∀ b t, r = b :: t → ¬ (48 ≤ b.toNat ∧ b.toNat ≤ 57)
theorem takeD_app {r : List UInt8} (hr : Stop r) : ∀ (l : List UInt8) (f : Nat) (n : Int), (∀ b ∈ l, 48 ≤ b.toNat ∧ b.toNat ≤ 57) → l.length < f → takeD f n (l ++ r) = (valD n l, r, l.length)
  | [], f, n, _, hf => by
    cases f with
    | zero => simp at hf
    | succ f =>
      cases r with
      | nil => rfl
      | cons b t =>
        rw [List.nil_append, takeD, if_neg (hr b t rfl)]
        rfl
  | b :: l, f, n, hd, hf => by
    cases f with
    | zero => simp at hf
    | succ f =>
      have ih := takeD_app hr l f (10 * n + ((b.toNat : Int) - 48)) (fun x hx => hd x (List.mem_cons_of_mem _ hx)) (by simpa using hf)
      rw [List.cons_append, takeD, if_pos (hd b (by simp)), ih]
      rfl
theorem valD_dec (u : Nat) : valD 0 (Lib.decDigits u) = u := by
  induction u using Nat.strongRecOn with
  | ind u ih =>
    rw [Lib.decDigits]
    split
    · rename_i h
      simp only [valD, List.foldl_cons, List.foldl_nil, dig_toNat h]
      omega
    · rename_i h
      have := ih (u / 10) (by omega)
      rw [valD, List.foldl_append]
      rw [valD] at this
      rw [this]
      simp only [List.foldl_cons, List.foldl_nil, dig_toNat (show u % 10 < 10 by omega)]
      omega
theorem nDigits_le (u : Nat) (h : u < 1000000) : Lib.nDigits u ≤ 6 := by
  by_cases h0 : u < 10
  · rw [Lib.nDigits_small h0]; omega
  · by_cases h1 : u < 100
    · rw [Lib.nDigits_unique 1 u (by omega) (by omega)]; omega
    · by_cases h2 : u < 1000
      · rw [Lib.nDigits_unique 2 u (by omega) (by omega)]; omega
      · by_cases h3 : u < 10000
        · rw [Lib.nDigits_unique 3 u (by omega) (by omega)]; omega
        · by_cases h4 : u < 100000
          · rw [Lib.nDigits_unique 4 u (by omega) (by omega)]; omega
          · rw [Lib.nDigits_unique 5 u (by omega) (by omega)]; omega
theorem numR_itoa {n : Int} (h0 : 0 ≤ n) (h1 : n < 1000000) {r : List UInt8} (hr : Stop r) : numR (Lib.itoa n ++ r) = (n, r, true) := by
  obtain ⟨hne, hd⟩ := itoa_digs h0
  have hl : (Lib.itoa n).length ≤ 6 := by
    rw [Lib.itoa, if_neg (by omega), Lib.decDigits_length]
    exact nDigits_le _ (by omega)
  have hl0 : 0 < (Lib.itoa n).length := List.length_pos_iff.2 hne
  have hv : valD 0 (Lib.itoa n) = n := by
    rw [Lib.itoa, if_neg (by omega), valD_dec]
    omega
  rw [numR, takeD_app hr _ 7 0 hd (by omega), hv]
  simp only [Prod.mk.injEq, decide_eq_true_eq, true_and]
  omega

/-- a part: the level with it, the rest, and whether it is one -/
def partR (c : Int) (l : List (Int × Int)) : List UInt8 → (Int × List (Int × Int)) × List UInt8 × Bool
  | [] => ((max c (numR []).1, l), (numR []).2.1, (numR []).2.2)
  | b :: t =>
    if b = 117 then
      if (numR t).2.2 = true ∧ (numR t).2.1.head? = some 43 then ((c, l ++ [((numR t).1, (numR (numR t).2.1.tail).1)]), (numR (numR t).2.1.tail).2.1, (numR (numR t).2.1.tail).2.2)
      else ((c, l ++ [((numR t).1, 0)]), (numR t).2.1, (numR t).2.2)
    else ((max c (numR (b :: t)).1, l), (numR (b :: t)).2.1, (numR (b :: t)).2.2)
/-- parts in brackets: none if it is no such text -/
def loopR : Nat → Int → List (Int × Int) → List UInt8 → Option ((Int × List (Int × Int)) × List UInt8)
  | 0, _, _, _ => none
  | f + 1, c, l, t =>
    if (partR c l t).2.2 = true then
      match (partR c l t).2.1 with
      | [] => none
      | b :: r => if b = 41 then some ((partR c l t).1, r) else if b = 44 then loopR f (partR c l t).1.1 (partR c l t).1.2 r else none
    else none
def readR (s : List UInt8) : Option ((Int × List (Int × Int)) × List UInt8) :=
  if Lib.hasPrefix s [109, 97, 120, 40] = true then loopR 9 0 [] (s.drop 4)
  else if (partR 0 [] s).2.2 = true then some ((partR 0 [] s).1, (partR 0 [] s).2.1) else none

/-- the rest is nothing, or begins with ',' or ')' -/
def Stop2 (r : List UInt8) : Prop := r = [] ∨ (∃ t, r = 44 :: t) ∨ ∃ t, r = 41 :: t
theorem Stop2.stop {r : List UInt8} (h : Stop2 r) : Stop r := by
  intro b t e
  rcases h with h | ⟨t', h⟩ | ⟨t', h⟩
  · rw [h] at e; cases e
  · rw [h] at e; injection e with e _; subst e; decide
  · rw [h] at e; injection e with e _; subst e; decide
theorem stop_plus (t : List UInt8) : Stop (43 :: t) := by
  intro b t' e
  injection e with e _
  subst e; decide
theorem partR_var {x : Int × Int} (h0 : 0 ≤ x.1 ∧ x.1 < 1000000) (h1 : 0 ≤ x.2 ∧ x.2 < 1000000) {r : List UInt8} (hr : Stop2 r) (c : Int) (l : List (Int × Int)) : partR c l (partB x ++ r) = ((c, l ++ [x]), r, true) := by
  have ht : partB x ++ r = 117 :: (Lib.itoa x.1 ++ ((if x.2 = 0 then [] else [43] ++ Lib.itoa x.2) ++ r)) := by simp [partB]
  rw [ht, partR, if_pos rfl]
  by_cases h : x.2 = 0
  · rw [if_pos h, List.nil_append, numR_itoa h0.1 h0.2 hr.stop]
    have hh : r.head? ≠ some 43 := by
      rcases hr with h | ⟨t', h⟩ | ⟨t', h⟩ <;> rw [h] <;> simp
    rw [if_neg (fun e => hh e.2)]
    simp only [Prod.mk.injEq, true_and, and_true]
    rw [← h]
  · rw [if_neg h]
    have e : (([43] ++ Lib.itoa x.2) ++ r) = 43 :: (Lib.itoa x.2 ++ r) := by simp
    rw [e, numR_itoa h0.1 h0.2 (stop_plus _), if_pos ⟨rfl, rfl⟩]
    simp only [List.tail_cons]
    rw [numR_itoa h1.1 h1.2 hr.stop]
theorem partR_const {n : Int} (h0 : 0 ≤ n) (h1 : n < 1000000) {r : List UInt8} (hr : Stop2 r) (c : Int) (l : List (Int × Int)) : partR c l (Lib.itoa n ++ r) = ((max c n, l), r, true) := by
  obtain ⟨hne, hd⟩ := itoa_digs h0
  have hN := numR_itoa h0 h1 hr.stop
  cases hl : Lib.itoa n with
  | nil => exact absurd hl hne
  | cons b t =>
    rw [hl] at hN hd
    have hb := hd b (by simp)
    rw [List.cons_append] at hN ⊢
    rw [partR, if_neg (by rintro rfl; simp at hb), hN]

/-- a part as it is written, and what it adds -/
def itemT : (Int × Int) ⊕ Int → List UInt8
  | .inl x => partB x
  | .inr n => Lib.itoa n
def addI (a : Int × List (Int × Int)) : (Int × Int) ⊕ Int → Int × List (Int × Int)
  | .inl x => (a.1, a.2 ++ [x])
  | .inr n => (max a.1 n, a.2)
def OkI : (Int × Int) ⊕ Int → Prop
  | .inl x => (0 ≤ x.1 ∧ x.1 < 1000000) ∧ 0 ≤ x.2 ∧ x.2 < 1000000
  | .inr n => 0 ≤ n ∧ n < 1000000
theorem partR_item {i : (Int × Int) ⊕ Int} (h : OkI i) {r : List UInt8} (hr : Stop2 r) (a : Int × List (Int × Int)) : partR a.1 a.2 (itemT i ++ r) = (addI a i, r, true) := by
  cases i with
  | inl x => exact partR_var h.1 h.2 hr a.1 a.2
  | inr n => exact partR_const h.1 h.2 hr a.1 a.2
theorem loopR_items : ∀ (is : List ((Int × Int) ⊕ Int)) (f : Nat) (a : Int × List (Int × Int)), is ≠ [] → (∀ i ∈ is, OkI i) → is.length ≤ f → loopR f a.1 a.2 (Lib.join (is.map itemT) [44] ++ [41]) = some (is.foldl addI a, [])
  | [], _, _, h, _, _ => absurd rfl h
  | [i], f, a, _, hok, hf => by
    cases f with
    | zero => simp at hf
    | succ f =>
      rw [List.map_cons, List.map_nil, join_one, loopR, partR_item (hok i (by simp)) (.inr (.inr ⟨[], rfl⟩)) a]
      simp
  | i :: j :: r, f, a, _, hok, hf => by
    cases f with
    | zero => simp at hf
    | succ f =>
      have ih := loopR_items (j :: r) f (addI a i) (by simp) (fun x hx => hok x (List.mem_cons_of_mem _ hx)) (by simpa using hf)
      rw [List.map_cons] at ih
      rw [List.map_cons, List.map_cons, join_two, List.append_assoc, List.cons_append, loopR, partR_item (hok i (by simp)) (.inr (.inl ⟨_, rfl⟩)) a]
      simp only [if_true]
      rw [if_neg (by decide), ih]
      rfl
def itemsOf (c : Int) (l : List (Int × Int)) : List ((Int × Int) ⊕ Int) := l.map .inl ++ (if c = 0 ∧ l ≠ [] then [] else [.inr c])
theorem itemsOf_text (c : Int) (l : List (Int × Int)) : (itemsOf c l).map itemT = partsB c l := by
  unfold itemsOf partsB
  rw [List.map_append, List.map_map]
  congr 1
  split <;> rfl
theorem itemsOf_fold (c : Int) (h0 : 0 ≤ c) (l : List (Int × Int)) : (itemsOf c l).foldl addI (0, []) = (c, l) := by
  have key : ∀ (l pre : List (Int × Int)) (d : Int), (l.map Sum.inl).foldl addI (d, pre) = (d, pre ++ l) := by
    intro l
    induction l with
    | nil => intro pre d; simp
    | cons x r ih =>
      intro pre d
      rw [List.map_cons, List.foldl_cons]
      show (r.map Sum.inl).foldl addI (d, pre ++ [x]) = _
      rw [ih, List.append_assoc]; rfl
  unfold itemsOf
  rw [List.foldl_append, key]
  by_cases hc : c = 0 ∧ l ≠ []
  · rw [if_pos hc, hc.1]; simp
  · rw [if_neg hc]
    simp only [List.foldl_cons, List.foldl_nil, addI, List.nil_append, Prod.mk.injEq, and_true]
    omega
theorem itemsOf_ok {c : Int} {l : List (Int × Int)} (hl : ∀ x ∈ l, (0 ≤ x.1 ∧ x.1 < 1000000) ∧ 0 ≤ x.2 ∧ x.2 < 1000000) (h0 : 0 ≤ c) (h1 : c ≤ 1000) : ∀ i ∈ itemsOf c l, OkI i := by
  intro i hi
  rcases List.mem_append.1 hi with hi | hi
  · obtain ⟨x, hx, rfl⟩ := List.mem_map.1 hi
    exact hl x hx
  · split at hi
    · cases hi
    · rw [List.mem_singleton.1 hi]
      exact ⟨h0, by omega⟩
/-- the text of a canonical level is read as it, to its end -/
theorem readR_text {s : List UInt8} {c : Int} {l : List (Int × Int)} (h : IsText s c l) : readR s = some ((c, l), []) := by
  obtain ⟨h1, h2, h3, rfl⟩ := h
  obtain ⟨g1, g2, g3, g4⟩ := nvars_small h1
  have hv : vld c l = true := by
    cases hv : vld c l with
    | true => rfl
    | false => rw [nErr, hv] at h1; simp at h1
  have hx : ∀ x ∈ l, (0 ≤ x.1 ∧ x.1 < 1000000) ∧ 0 ≤ x.2 ∧ x.2 < 1000000 := fun x hx => by
    have := vld_mem hv hx
    omega
  rw [h2] at g3 g4
  rw [h3] at g1 g2
  have hok := itemsOf_ok hx g3 g4
  have hfold := itemsOf_fold c g3 l
  have hlen : (itemsOf c l).length ≤ 9 := by
    have := partsB_len c l
    rw [← itemsOf_text, List.length_map] at this
    omega
  have hne : itemsOf c l ≠ [] := fun e => by
    have := partsB_ne c l
    rw [← itemsOf_text, e] at this
    exact this rfl
  have hno := partsF_whole g1 g2 g3
  rw [fText, if_pos h1, h2, h3, ← itemsOf_text]
  rw [← itemsOf_text] at hno
  generalize itemsOf c l = is at *
  match is, hne with
  | [i], _ =>
    have hi := partR_item (hok i (by simp)) (r := []) (.inl rfl) (0, [])
    rw [List.append_nil] at hi
    have hw : wholeB ([i].map itemT) = itemT i := rfl
    have hpre : Lib.hasPrefix (itemT i) [109, 97, 120, 40] = false := by
      cases i with
      | inl x => simp [itemT, Lib.hasPrefix, partB, List.isPrefixOf]
      | inr n => exact itoa_prefix (hok (.inr n) (by simp)).1 109 _ (by decide)
    rw [hw, readR, if_neg (by rw [hpre]; decide), hi, if_pos rfl]
    simp only [List.foldl_cons, List.foldl_nil] at hfold
    rw [hfold]
  | i :: j :: r, _ =>
    have hl := loopR_items (i :: j :: r) 9 (0, []) (by simp) hok hlen
    have hw : wholeB ((i :: j :: r).map itemT) = [109, 97, 120, 40] ++ Lib.join ((i :: j :: r).map itemT) [44] ++ [41] := rfl
    have hpre : Lib.hasPrefix ([109, 97, 120, 40] ++ Lib.join ((i :: j :: r).map itemT) [44] ++ [41]) [109, 97, 120, 40] = true := by simp [Lib.hasPrefix, List.isPrefixOf]
    have hdrop : ([109, 97, 120, 40] ++ Lib.join ((i :: j :: r).map itemT) [44] ++ [41]).drop 4 = Lib.join ((i :: j :: r).map itemT) [44] ++ [41] := by simp
    rw [hw, readR, if_pos hpre, hdrop, hl, hfold]

/-- what the reference's Parse makes of a text -/
noncomputable def refParseF (s : List UInt8) : Option (Int × List (Int × Int)) :=
  match readR s with
  | some (a, []) => if nErr a.1 a.2 = 0 ∧ fText (nConst a.1 a.2) (nVars a.1 a.2) = s then some (nConst a.1 a.2, nVars a.1 a.2) else none
  | _ => none
theorem refParse_iff {s : List UInt8} {c : Int} {l : List (Int × Int)} : refParseF s = some (c, l) ↔ IsText s c l := by
  constructor
  · intro h
    unfold refParseF at h
    split at h
    · rename_i a _
      by_cases he : nErr a.1 a.2 = 0 ∧ fText (nConst a.1 a.2) (nVars a.1 a.2) = s
      · rw [if_pos he] at h
        simp only [Option.some.injEq, Prod.mk.injEq] at h
        obtain ⟨rfl, rfl⟩ := h
        have := isText_of he.1
        rw [he.2] at this
        exact this
      · rw [if_neg he] at h; cases h
    · cases h
  · intro h
    have hr := readR_text h
    obtain ⟨h1, h2, h3, h4⟩ := h
    rw [refParseF, hr]
    simp only
    rw [h2, h3, if_pos ⟨h1, h4.symm⟩]
/-- both read the same level, of every text -/
theorem parse_same (s : List UInt8) : refParseF s = parseF s := by
  refine Option.ext fun a => ?_
  obtain ⟨c, l⟩ := a
  exact refParse_iff.trans parse_iff.symm
end Go.Proofs.YtgbbmcfhakliiaaGreatDoor
