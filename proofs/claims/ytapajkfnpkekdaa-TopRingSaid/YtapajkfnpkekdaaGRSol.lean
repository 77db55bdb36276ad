/-
  'solve' and 'Solve' of the reference of package graph; the law GraphSolves.
-/
import Derived.Test.YtapajkfnpkekdaaGRLon
import Derived.Test.YtapajkfnpkekdaaGMean
import Derived.Test.YtapajkfnpkekdaaGHeavy
namespace Go.Proofs.Ytapajkfnpkekdaa
open Go Go.RowKit

/-- these numbers solve the system, and no others are less -/
structure RS (n : Nat) (cs : List LCn) (L : List Int) : Prop where
  len : L.length = n
  sat : Sat (fun e => e ∈ esA n cs) (gx L)
  nn : ∀ v, 0 ≤ gx L v
  least : ∀ y, Sat (fun e => e ∈ esA n cs) y → ∀ v, v < n → gx L v ≤ y v - y n
def lonL (n : Nat) (st : List (Option Int)) : List Int := (List.range n).map fun v => numW (gw st v)
theorem lonL_len (n : Nat) (st : List (Option Int)) : (lonL n st).length = n := by simp [lonL]
theorem lonL_at {n v : Nat} (st : List (Option Int)) (h : v < n) : (lonL n st)[v]? = some (numW (gw st v)) := by simp [lonL, h]
theorem lon_at0 {n : Nat} {E : List Edg} {st : List (Option Int)} (h : LonE n E n st) : ∃ a, gw st n = some a ∧ 0 ≤ a := h.at0
theorem lon_no {n : Nat} {cs : List LCn} {st : List (Option Int)} {a : Int} (h : LonE n (rE n cs) n st) (ha : gw st n = some a) (hp : 0 < a) (y : Nat → Int) (hy : Sat (fun e => e ∈ esA n cs) y) : False := by
  have := h.up y (rE_iff.2 hy) n a ha
  omega
theorem lon_rs {n : Nat} {cs : List LCn} {st : List (Option Int)} (hcs : ∀ c ∈ cs, Con n c) (h : LonE n (rE n cs) n st) (ha : gw st n = some 0) : RS n cs (lonL n st) := by
  have hv : ∀ v, v < n → ∃ c, gw st v = some c ∧ 0 ≤ c := fun v hv => by
    have he : (⟨n, v, 0, 0⟩ : Edg) ∈ rE n cs := List.mem_append_left _ (List.mem_map.2 ⟨v, List.mem_range.2 hv, rfl⟩)
    obtain ⟨c, h1, h2⟩ := h.rest _ he 0 ha
    exact ⟨c, h1, by have h2 : (0 : Int) + 0 ≤ c := h2; omega⟩
  have hg : ∀ v c, v < n → gw st v = some c → gx (lonL n st) v = c := fun v c h1 h2 => by
    rw [gx_at (lonL_at st h1), h2]; rfl
  have h0 : ∀ v, n ≤ v → gx (lonL n st) v = 0 := fun v hv => gx_out (lonL_len n st) hv
  refine ⟨lonL_len n st, rE_iff.1 fun e he => ?_, fun v => ?_, fun y hy v hvn => ?_⟩
  · obtain ⟨h1, h2, _⟩ := rE_ok hcs he
    have hf : ∃ a, gw st e.f = some a ∧ gx (lonL n st) e.f = a := by
      by_cases hn : e.f < n
      · obtain ⟨c, h3, _⟩ := hv e.f hn; exact ⟨c, h3, hg _ _ hn h3⟩
      · have : e.f = n := by omega
        rw [this]; exact ⟨0, ha, h0 n (Nat.le_refl _)⟩
    obtain ⟨a, h3, h4⟩ := hf
    obtain ⟨c, h5, h6⟩ := h.rest e he a h3
    have ht : gx (lonL n st) e.t = c := by
      by_cases hn : e.t < n
      · exact hg _ _ hn h5
      · have : e.t = n := by omega
        rw [this] at h5 ⊢
        rw [ha] at h5
        cases h5
        exact h0 n (Nat.le_refl _)
    unfold hol
    rw [h4, ht]
    exact h6
  · by_cases hn : v < n
    · obtain ⟨c, h1, h2⟩ := hv v hn; rw [hg _ _ hn h1]; exact h2
    · rw [h0 v (by omega)]; exact Int.le_refl _
  · obtain ⟨c, h1, _⟩ := hv v hvn
    rw [hg _ _ hvn h1]
    exact h.up y (rE_iff.2 hy) v c h1
/-- there is one such list -/
theorem RS.sol {n : Nat} {cs : List LCn} {L xs : List Int} (hcs : ∀ c ∈ cs, Con n c) (h : RS n cs L) (hx : Lst (fun e => e ∈ esA n cs) (gx xs)) : solL n xs = L := by
  have h0 := lst_zero_node hcs hx
  refine List.ext_getElem? fun v => ?_
  by_cases hv : v < n
  · rw [solL_at xs hv, gx_some (xs := L) (v := v) (by rw [h.len]; exact hv)]
    have h1 := h.least _ hx.sat v hv
    have h2 := hx.least _ h.sat h.nn v
    congr 1
    omega
  · rw [List.getElem?_eq_none (by rw [solL_len]; omega), List.getElem?_eq_none (by rw [h.len]; omega)]

/-- what solve of the reference says -/
def RSolPost (n : Nat) (cs : List LCn) (w : World) (e : Ending) (w' : World) : Prop :=
  Below w.heap.size w w' ∧ (e = .returned (.tuple #[.slice none 0 0, .bool false]) ∧ (∀ y, Sat (fun e => e ∈ esA n cs) y → False) ∨
    ∃ u L, e = .returned (.tuple #[u, .bool true]) ∧ w'.ownsRow w.heap.size 3 1 u n (int1 L) ∧ RS n cs L)
theorem numW_at0 (n k : Nat) (st : List (Option Int)) (hk : k < n) : (lonL n st).take (k + 1) = (lonL n st).take k ++ [numW (gw st k)] := take_snoc (lonL_at st hk)
theorem il_own {w : World} {base n : Nat} {u : Value} {l : List Int} (h : w.ownsRow base 3 1 u n (int1 l)) : ∃ A c, u = .slice A n c ∧ IL w w.heap.size A n l := by
  have h0 := h
  have hl := h.1
  rw [int1_len, Nat.mul_one] at hl
  rcases h.2 with ⟨rfl, hn⟩ | ⟨g, cap, cur, rfl, hb, hg, hc, hm, hs, ht⟩
  · subst hn
    exact ⟨none, 0, rfl, hl, fun h => by omega⟩
  · exact ⟨_, _, rfl, own_il h0 (Array.getElem?_eq_some_iff.1 hg).1⟩

/-- what Solve of the reference says -/
def RSolvePost (v : Int) (cs : List LCn) (w : World) (e : Ending) (w' : World) : Prop :=
  Below w.heap.size w w' ∧ (gvld v cs = false ∧ e = .returned (.tuple #[.slice none 0 0, .int .i64 4]) ∨
    gvld v cs = true ∧ ∃ n : Nat, v = n ∧ (∀ c ∈ cs, Con n c) ∧ (e = .returned (.tuple #[.slice none 0 0, .int .i64 20]) ∧ (∀ y, Sat (fun e => e ∈ esA n cs) y → False) ∨
      ∃ u L, e = .returned (.tuple #[u, .int .i64 0]) ∧ w'.ownsRow w.heap.size 3 1 u n (int1 L) ∧ RS n cs L))
theorem gvld_parts {v : Int} {cs : List LCn} (hg : gvld v cs = true) : ∃ n : Nat, v = n ∧ n ≤ 1200 ∧ cs.length ≤ 3000 ∧ ∀ c ∈ cs, Con n c := by
  unfold gvld at hg
  rw [Bool.and_eq_true, decide_eq_true_eq] at hg
  obtain ⟨⟨g0, g1, g2⟩, g3⟩ := hg
  exact ⟨v.toNat, by omega, by omega, by omega, fun c hc => con_of (by
    have := List.all_eq_true.1 g3 c hc
    rw [show ((v.toNat : Nat) : Int) = v by omega]
    exact this)⟩

theorem SolvePost.shape {v : Int} {cs : List LCn} {w w1 : World} {e : Ending} (h : SolvePost v cs w e w1) : ∃ A n c er, e = .returned (.tuple #[.slice A n c, .int .i64 er]) := by
  obtain ⟨_, h⟩ := h
  rcases h with ⟨_, rfl⟩ | ⟨_, n, _, ⟨rfl, _⟩ | ⟨u, xs, rfl, h3, _⟩⟩
  · exact ⟨_, _, _, _, rfl⟩
  · exact ⟨_, _, _, _, rfl⟩
  · obtain ⟨A, c, rfl, _⟩ := il_own h3
    exact ⟨_, _, _, _, rfl⟩
/-- both solutions are the same -/
theorem SolvePost.same {v : Int} {cs : List LCn} {w w1 w2 : World} {e d : Ending} (h : SolvePost v cs w e w1) (g : RSolvePost v cs w1 d w2) :
    ∃ A n cA B cB er l, e = .returned (.tuple #[.slice A n cA, .int .i64 er]) ∧ d = .returned (.tuple #[.slice B n cB, .int .i64 er]) ∧ IL w2 w2.heap.size A n l ∧ IL w2 w2.heap.size B n l ∧ n ≤ 1000000 := by
  obtain ⟨hb1, h⟩ := h
  obtain ⟨hb2, g⟩ := g
  have hnil : IL w2 w2.heap.size none 0 [] := ⟨rfl, fun h => by omega⟩
  rcases h with ⟨h1, rfl⟩ | ⟨h1, n, rfl, h2⟩ <;> rcases g with ⟨g1, rfl⟩ | ⟨g1, m, gm, hcs, g2⟩
  · exact ⟨_, _, _, _, _, _, _, rfl, rfl, hnil, hnil, by omega⟩
  · rw [h1] at g1; cases g1
  · rw [h1] at g1; cases g1
  · obtain rfl : n = m := by omega
    rcases h2 with ⟨rfl, h3⟩ | ⟨u, xs, rfl, h3, h4⟩ <;> rcases g2 with ⟨rfl, g3⟩ | ⟨u', L, rfl, g3, g4⟩
    · exact ⟨_, _, _, _, _, _, _, rfl, rfl, hnil, hnil, by omega⟩
    · exact (h3 _ g4.sat).elim
    · exact (g3 _ h4.sat).elim
    · obtain ⟨n', e1, e2, _⟩ := gvld_parts h1
      rw [g4.sol hcs h4] at h3
      obtain ⟨A, cA, rfl, hA⟩ := il_own h3
      obtain ⟨B, cB, rfl, hB⟩ := il_own g3
      exact ⟨_, _, _, _, _, _, _, rfl, rfl, (hA.below hb2).more hb2.size, hB, by omega⟩

end Go.Proofs.Ytapajkfnpkekdaa
