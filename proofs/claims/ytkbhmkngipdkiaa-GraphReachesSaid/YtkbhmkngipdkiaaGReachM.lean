/-
  A system with one more constraint: that a variable is at least a number. No walk in this text.
-/
import Derived.Test.YtkbhmkngipdkiaaGBnd
import Derived.Test.YtkbhmkngipdkiaaGRExt
import Derived.Test.YtkbhmkngipdkiaaGMinM
namespace Go.Proofs.Ytkbhmkngipdkiaa
open Go Go.RowKit

/-- a number is at most a variable -/
def lk (c : Int) (s : Nat) : LCn := ((c, []), (0, [((s : Int), 0)]))
theorem lk_conB {n s : Nat} {c : Int} (hn : n ≤ 1200) (hs : s < n) (hc : 0 ≤ c ∧ c ≤ 1000) : conB n (lk c s) = true := by
  have v1 : vld c [] = true := vld_iff.2 ⟨hc.1, hc.2, by simp, fun i x h => by simp at h⟩
  have v2 : vld 0 [((s : Int), (0 : Int))] = true := vld_iff.2 ⟨by omega, by omega, by simp, fun i x h hx => by
    have hi : i = 0 := by simpa using h
    subst hi
    simp at hx
    subst hx
    exact ⟨⟨by dsimp only; omega, by dsimp only; omega⟩, ⟨by dsimp only; omega, by dsimp only; omega⟩, rfl⟩⟩
  have g2 : gev [((s : Int), (0 : Int))] n = false := by simp [gev]; omega
  unfold conB belowB rightB lk
  rw [v1, v2, g2]
  rfl
theorem lk_gvld {n s : Nat} {c : Int} {cs : List LCn} (hg : gvld n cs = true) (hl : cs.length ≤ 60) (hs : s < n) (hc : 0 ≤ c ∧ c ≤ 1000) : gvld n (cs ++ [lk c s]) = true := by
  unfold gvld at hg ⊢
  rw [Bool.and_eq_true, decide_eq_true_eq] at hg ⊢
  obtain ⟨⟨h1, h2, _⟩, h4⟩ := hg
  refine ⟨⟨h1, h2, by simp; omega⟩, ?_⟩
  rw [fitB_snoc, h4, lk_conB (by omega) hs hc]
  rfl
theorem lk_sat {n s : Nat} {c : Int} {cs : List LCn} {y : Nat → Int} : Sat (fun e => e ∈ esA n (cs ++ [lk c s])) y ↔ Sat (fun e => e ∈ esA n cs) y ∧ y n + c ≤ y s := by
  rw [sat_es, sat_es]
  have key : (∀ e ∈ edgC n (lk c s) 0, hol y e) ↔ y n + c ≤ y s := by
    unfold edgC lk toC lessC hol
    simp
  constructor
  · rintro ⟨h1, h2⟩
    exact ⟨⟨h1, fun d hd => h2 d (List.mem_append_left _ hd)⟩, key.1 (h2 _ (by simp))⟩
  · rintro ⟨⟨h1, h2⟩, h3⟩
    refine ⟨h1, fun d hd => ?_⟩
    rcases List.mem_append.1 hd with hd | hd
    · exact h2 d hd
    · rw [List.mem_singleton.1 hd]; exact key.2 h3
/-- a bound is reached, and a number below it too -/
theorem bnd_yes {n s : Nat} {cs : List LCn} {b : Option Int} (h : BndOf n cs s b) {c : Int} (hc : ∀ d, b = some d → c ≤ -d) : ∃ y, Sat (fun e => e ∈ esA n (cs ++ [lk c s])) y := by
  refine Classical.byContradiction fun hno => ?_
  have h1 : ∀ y, Sat (fun e => e ∈ esA n cs) y → y s + (1 - c) ≤ y n := fun y hy => Classical.byContradiction fun h2 => hno ⟨y, lk_sat.2 ⟨hy, by omega⟩⟩
  obtain ⟨d, h2, h3⟩ := (h _).1 h1
  have := hc d h2
  omega
theorem bnd_no {n s : Nat} {cs : List LCn} {d : Int} (h : BndOf n cs s (some d)) (y : Nat → Int) (hy : Sat (fun e => e ∈ esA n (cs ++ [lk (-d + 1) s])) y) : False := by
  obtain ⟨h1, h2⟩ := lk_sat.1 hy
  have := (h d).2 ⟨d, rfl, Int.le_refl _⟩ y h1
  omega
theorem bnd_nn {n s : Nat} {cs : List LCn} {d : Int} (h : BndOf n cs s (some d)) (hs : s < n) (hsat : ∃ y, Sat (fun e => e ∈ esA n cs) y) : 0 ≤ -d := by
  obtain ⟨y, hy⟩ := hsat
  have h1 := (h d).2 ⟨d, rfl, Int.le_refl _⟩ y hy
  have h2 := (sat_es.1 hy).1 s hs
  omega
end Go.Proofs.Ytkbhmkngipdkiaa
