/-
  Two lists of sets compared: 'eqClasses' of the law.
-/
import Derived.Test.YtapajkfnpkekdaaGRCls
import Derived.Test.YtapajkfnpkekdaaGAwk
import Derived.Test.YtapajkfnpkekdaaBel
namespace Go.Proofs.Ytapajkfnpkekdaa
open Go Go.RowKit

/-- this value reads as these sets -/
def LL (w : World) (v : Value) (ls : List (List Nat)) : Prop := ∃ A c, v = .slice A ls.length c ∧ (0 < ls.length → ∃ b, A = some ⟨b, 0, none⟩ ∧ b < w.heap.size ∧ ∀ (j : Nat) (l : List Nat), ls[j]? = some l → ∃ x, w.cell? ⟨b, j, none⟩ = some x ∧ KR w x l)
theorem LL.below {w w' : World} {v : Value} {ls : List (List Nat)} (h : LL w v ls) (hb : Below w.heap.size w w') : LL w' v ls := by
  obtain ⟨A, c, h1, h2⟩ := h
  refine ⟨A, c, h1, fun h0 => ?_⟩
  obtain ⟨b, h3, h4, h5⟩ := h2 h0
  refine ⟨b, h3, Nat.lt_of_lt_of_le h4 hb.size, fun j l hl => ?_⟩
  obtain ⟨x, h6, h7⟩ := h5 j l hl
  exact ⟨x, (hb.cell (p := ⟨b, j, none⟩) h4).trans h6, h7.keep (KI.below hb)⟩
theorem LL.nil (w : World) : LL w (.slice none 0 0) [] := ⟨none, 0, rfl, fun h => absurd h (by simp)⟩
theorem LL.of_own {w : World} {base : Nat} {v : Value} {xs : List Value} {ls : List (List Nat)} (h : w.ownsRow base 33 1 v xs.length xs) (k : KS w xs ls) : LL w v ls := by
  have h0 := h
  have hl := k.1
  rcases h.2 with ⟨rfl, hn⟩ | ⟨g, cap, cur, rfl, hb, hg, hc, hm, hs, ht⟩
  · have : ls = [] := List.eq_nil_of_length_eq_zero (by omega)
    subst this
    exact LL.nil w
  · refine ⟨some ⟨g, 0, none⟩, cap, by rw [hl], fun _ => ⟨g, rfl, (Array.getElem?_eq_some_iff.1 hg).1, fun j l hj => ?_⟩⟩
    have hjl : j < ls.length := (List.getElem?_eq_some_iff.1 hj).1
    obtain ⟨x, hx⟩ : ∃ x, xs[j]? = some x := ⟨_, List.getElem?_eq_getElem (by omega)⟩
    exact ⟨x, (h0.cellAt j (by omega)).trans hx, k.2 j l x hj hx⟩
theorem KR.il {w : World} {x : Value} {l : List Nat} (h : KR w x l) : ∃ b c, x = .slice (some ⟨b, 0, none⟩) l.length c ∧ b < w.heap.size ∧ IL w w.heap.size (some ⟨b, 0, none⟩) l.length (castN l) := by
  obtain ⟨b, c, cs, fr, h1, h2, h3⟩ := h
  have hb := (Array.getElem?_eq_some_iff.1 h2).1
  refine ⟨b, c, h1, hb, castN_len l, fun _ => ⟨b, 0, rfl, hb, fun j y hy => ?_⟩⟩
  unfold castN at hy
  rw [List.getElem?_map] at hy
  cases hz : l[j]? with
  | none => rw [hz] at hy; cases hy
  | some z =>
    rw [hz] at hy
    obtain rfl : (z : Int) = y := Option.some.inj hy
    have := h3 j z hz
    simp [World.cell?, h2, this]

end Go.Proofs.Ytapajkfnpkekdaa
