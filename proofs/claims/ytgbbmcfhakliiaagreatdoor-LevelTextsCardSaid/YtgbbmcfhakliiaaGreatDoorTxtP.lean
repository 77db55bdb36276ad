/-
  Which texts are those of levels, and which level each one is of: plain lemmas.
-/
import Derived.Test.YtgbbmcfhakliiaaGreatDoorTxtR
import Derived.Test.YtgbbmcfhakliiaaGreatDoorCanM
namespace Go.Proofs.YtgbbmcfhakliiaaGreatDoor
open Go Go.RowKit

/-- s is the text of the canonical level (c, l) -/
def IsText (s : List UInt8) (c : Int) (l : List (Int × Int)) : Prop := nErr c l = 0 ∧ nConst c l = c ∧ nVars c l = l ∧ s = fText c l
/-- what package level's Parse makes of a text -/
noncomputable def parseF (s : List UInt8) : Option (Int × List (Int × Int)) :=
  match readF (partsF s) 0 [] with
  | none => none
  | some a => if nErr a.1 a.2 = 0 ∧ fText (nConst a.1 a.2) (nVars a.1 a.2) = s then some (nConst a.1 a.2, nVars a.1 a.2) else none
theorem isText_of {c : Int} {l : List (Int × Int)} (h : nErr c l = 0) : IsText (fText (nConst c l) (nVars c l)) (nConst c l) (nVars c l) := by
  obtain ⟨h1, h2, h3⟩ := norm_self h
  exact ⟨h1, h2, h3, rfl⟩
theorem fText_norm {c : Int} {l : List (Int × Int)} (h : nErr c l = 0) : fText (nConst c l) (nVars c l) = fText c l := by
  obtain ⟨h1, h2, h3⟩ := norm_self h
  rw [fText, fText, if_pos h1, if_pos h, h2, h3]
theorem read_text {s : List UInt8} {c : Int} {l : List (Int × Int)} (h : IsText s c l) : readF (partsF s) 0 [] = some (c, l) := by
  obtain ⟨h1, h2, h3, rfl⟩ := h
  obtain ⟨g1, g2, g3, g4⟩ := nvars_small h1
  rw [h2] at g3 g4
  rw [h3] at g1 g2
  rw [fText, if_pos h1, h2, h3, partsF_whole g1 g2 g3, readF_partsB g1 g3 g4]
theorem parse_iff {s : List UInt8} {c : Int} {l : List (Int × Int)} : parseF s = some (c, l) ↔ IsText s c l := by
  constructor
  · intro h
    unfold parseF at h
    split at h
    · cases h
    · rename_i a _
      by_cases he : nErr a.1 a.2 = 0 ∧ fText (nConst a.1 a.2) (nVars a.1 a.2) = s
      · rw [if_pos he] at h
        simp only [Option.some.injEq, Prod.mk.injEq] at h
        obtain ⟨rfl, rfl⟩ := h
        have := isText_of he.1
        rw [he.2] at this
        exact this
      · rw [if_neg he] at h; cases h
  · intro h
    have hr := read_text h
    obtain ⟨h1, h2, h3, h4⟩ := h
    rw [parseF, hr]
    simp only
    rw [h2, h3, if_pos ⟨h1, h4.symm⟩]
/-- a text is of one level at most -/
theorem isText_one {s : List UInt8} {c c' : Int} {l l' : List (Int × Int)} (h : IsText s c l) (h' : IsText s c' l') : c = c' ∧ l = l' := by
  have := (parse_iff.2 h).symm.trans (parse_iff.2 h')
  simpa using this
/-- the text of a level is read as its canonical form -/
theorem parse_text {c : Int} {l : List (Int × Int)} (h : nErr c l = 0) : parseF (fText c l) = some (nConst c l, nVars c l) := by
  rw [← fText_norm h]
  exact parse_iff.2 (isText_of h)
end Go.Proofs.YtgbbmcfhakliiaaGreatDoor
