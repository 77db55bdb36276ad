/-
  What package level's reader makes of a text, as plain functions; the text of a canonical level is read as that level.
-/
import Derived.Test.YtgbbmcfhakliiaaGreatDoorTxtM
import Derived.Lib.Strings
namespace Go.Proofs.YtgbbmcfhakliiaaGreatDoor
open Go Go.RowKit

/-- a part behind its u -/
def readVarF (t : List UInt8) : Option (Int × Int) :=
  match Lib.atoiAll (Lib.cut t [43]).1, Lib.atoiAll (if (Lib.cut t [43]).2.2 = true then (Lib.cut t [43]).2.1 else [48]) with
  | .ok v, .ok n => some (v, n)
  | _, _ => none
/-- the parts, one after another -/
def readF : List (List UInt8) → Int → List (Int × Int) → Option (Int × List (Int × Int))
  | [], c, l => some (c, l)
  | p :: ps, c, l =>
    if Lib.hasPrefix p [117] = true then
      match readVarF (Lib.trimPrefix p [117]) with
      | some x => readF ps c (l ++ [x])
      | none => none
    else
      match Lib.atoiAll p with
      | .ok n => readF ps n l
      | _ => none
/-- the texts of the parts -/
def partsF (s : List UInt8) : List (List UInt8) :=
  if Lib.hasPrefix s [109, 97, 120, 40] = true then Lib.splitN (Lib.trimSuffix (Lib.trimPrefix s [109, 97, 120, 40]) [41]) [44] 9 else [s]

theorem digs_not {l : List UInt8} (h : Digs l) {b : UInt8} (hb : b.toNat < 48 ∨ 57 < b.toNat) : b ∉ l := fun hm => by
  have := h.2 b hm
  omega
theorem atoi_zero : Lib.atoiAll [48] = .ok 0 := by decide +kernel
theorem readVar_part {x : Int × Int} (h0 : 0 ≤ x.1 ∧ x.1 ≤ 1000000) (h1 : 0 ≤ x.2 ∧ x.2 ≤ 1000000) : Lib.hasPrefix (partB x) [117] = true ∧ readVarF (Lib.trimPrefix (partB x) [117]) = some x := by
  have hp : Lib.hasPrefix (partB x) [117] = true := by simp [Lib.hasPrefix, partB, List.isPrefixOf]
  have ht : Lib.trimPrefix (partB x) [117] = Lib.itoa x.1 ++ (if x.2 = 0 then [] else [43] ++ Lib.itoa x.2) := by
    rw [Lib.trimPrefix, if_pos hp]
    simp [partB]
  have hn : (43 : UInt8) ∉ Lib.itoa x.1 := digs_not (itoa_digs h0.1) (by decide)
  refine ⟨hp, ?_⟩
  rw [ht]
  by_cases h : x.2 = 0
  · rw [if_pos h, List.append_nil, readVarF, cut_no hn]
    simp only [Bool.false_eq_true, if_false]
    rw [atoi_itoa h0.1 (by omega), atoi_zero]
    simp only [Option.some.injEq]
    rw [← h]
  · rw [if_neg h, readVarF, List.singleton_append, cut_at hn]
    simp only [if_true]
    rw [atoi_itoa h0.1 (by omega), atoi_itoa h1.1 (by omega)]
theorem readF_parts : ∀ (l : List (Int × Int)) (ps : List (List UInt8)) (c : Int) (pre : List (Int × Int)), Small l → readF (l.map partB ++ ps) c pre = readF ps c (pre ++ l)
  | [], ps, c, pre, _ => by simp
  | x :: l, ps, c, pre, h => by
    obtain ⟨h1, h2⟩ := h x (by simp)
    obtain ⟨e1, e2⟩ := readVar_part h1 h2
    rw [List.map_cons, List.cons_append, readF, if_pos e1, e2]
    show readF (l.map partB ++ ps) c (pre ++ [x]) = _
    rw [readF_parts l ps c (pre ++ [x]) (fun y hy => h y (List.mem_cons_of_mem _ hy)), List.append_assoc]
    rfl
theorem itoa_prefix {n : Int} (h : 0 ≤ n) (b : UInt8) (r : List UInt8) (hb : b.toNat < 48 ∨ 57 < b.toNat) : Lib.hasPrefix (Lib.itoa n) (b :: r) = false := by
  have hd := itoa_digs h
  cases hl : Lib.itoa n with
  | nil => rfl
  | cons x l =>
    rw [hl] at hd
    have hx := hd.2 x (by simp)
    have : (b == x) = false := by
      rw [beq_eq_false_iff_ne]
      rintro rfl
      omega
    simp [Lib.hasPrefix, List.isPrefixOf, this]
/-- the parts of a canonical level are read as it -/
theorem readF_partsB {c : Int} {l : List (Int × Int)} (h : Small l) (h0 : 0 ≤ c) (h1 : c ≤ 1000) : readF (partsB c l) 0 [] = some (c, l) := by
  rw [partsB, readF_parts l _ 0 [] h, List.nil_append]
  by_cases hc : c = 0 ∧ l ≠ []
  · rw [if_pos hc, readF, hc.1]
  · rw [if_neg hc, readF, if_neg (by rw [itoa_prefix h0 117 [] (by decide)]; decide), atoi_itoa h0 (by omega)]
    rfl

theorem partB_no {x : Int × Int} (h0 : 0 ≤ x.1) (h1 : 0 ≤ x.2) : (44 : UInt8) ∉ partB x := by
  have e1 : (44 : UInt8) ∉ Lib.itoa x.1 := digs_not (itoa_digs h0) (by decide)
  have e2 : (44 : UInt8) ∉ Lib.itoa x.2 := digs_not (itoa_digs h1) (by decide)
  unfold partB
  split <;> simp [e1, e2]
theorem partsB_no {c : Int} {l : List (Int × Int)} (h : Small l) (h0 : 0 ≤ c) : ∀ p ∈ partsB c l, (44 : UInt8) ∉ p := by
  intro p hp
  rcases List.mem_append.1 hp with hp | hp
  · obtain ⟨x, hx, rfl⟩ := List.mem_map.1 hp
    obtain ⟨h1, h2⟩ := h x hx
    exact partB_no h1.1 h2.1
  · split at hp
    · cases hp
    · rw [List.mem_singleton.1 hp]
      exact digs_not (itoa_digs h0) (by decide)
theorem partsB_ne (c : Int) (l : List (Int × Int)) : partsB c l ≠ [] := by
  unfold partsB
  cases l with
  | nil => simp
  | cons x r => simp
theorem partsB_len (c : Int) (l : List (Int × Int)) : (partsB c l).length ≤ l.length + 1 := by
  unfold partsB
  split <;> simp
theorem partsF_one {p : List UInt8} (h : Lib.hasPrefix p [109, 97, 120, 40] = false) : partsF p = [p] := by
  rw [partsF, if_neg (by rw [h]; decide)]
theorem partsF_more {ps : List (List UInt8)} (hne : ps ≠ []) (h9 : ps.length ≤ 9) (hno : ∀ p ∈ ps, (44 : UInt8) ∉ p) : partsF ([109, 97, 120, 40] ++ Lib.join ps [44] ++ [41]) = ps := by
  have hp : Lib.hasPrefix ([109, 97, 120, 40] ++ Lib.join ps [44] ++ [41]) [109, 97, 120, 40] = true := by simp [Lib.hasPrefix, List.isPrefixOf]
  have ht : Lib.trimPrefix ([109, 97, 120, 40] ++ Lib.join ps [44] ++ [41]) [109, 97, 120, 40] = Lib.join ps [44] ++ [41] := by
    rw [Lib.trimPrefix, if_pos hp]
    simp
  have hs : Lib.trimSuffix (Lib.join ps [44] ++ [41]) [41] = Lib.join ps [44] := by
    have : Lib.hasSuffix (Lib.join ps [44] ++ [41]) [41] = true := by
      rw [Lib.hasSuffix, List.isSuffixOf_iff_suffix]
      exact List.suffix_append _ _
    rw [Lib.trimSuffix, if_pos this]
    simp
  have hl := join_pieces ps
  rw [partsF, if_pos hp, ht, hs, Lib.splitN]
  exact split_join ps _ hne hno (by omega)
/-- the text of a canonical level falls into its parts -/
theorem partsF_whole {c : Int} {l : List (Int × Int)} (h : Small l) (h8 : l.length ≤ 8) (h0 : 0 ≤ c) : partsF (wholeB (partsB c l)) = partsB c l := by
  have hno := partsB_no h h0
  have hne := partsB_ne c l
  have hlen := partsB_len c l
  have hpre : ∀ p, partsB c l = [p] → Lib.hasPrefix p [109, 97, 120, 40] = false := by
    intro p hp
    have hm : p ∈ partsB c l := by rw [hp]; simp
    rcases List.mem_append.1 hm with hm | hm
    · obtain ⟨x, _, rfl⟩ := List.mem_map.1 hm
      simp [Lib.hasPrefix, partB, List.isPrefixOf]
    · split at hm
      · cases hm
      · rw [List.mem_singleton.1 hm]
        exact itoa_prefix h0 109 _ (by decide)
  generalize partsB c l = ps at *
  match ps, hne with
  | [p], _ => exact partsF_one (hpre p rfl)
  | p :: q :: r, _ => exact partsF_more (by simp) (by omega) hno
end Go.Proofs.YtgbbmcfhakliiaaGreatDoor
