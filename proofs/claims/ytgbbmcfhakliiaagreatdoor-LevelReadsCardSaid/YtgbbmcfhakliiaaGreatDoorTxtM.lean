/-
  What is read of the texts of numbers and parts: plain lemmas.
-/
import Derived.Test.YtgbbmcfhakliiaaGreatDoorFormat
import Derived.Lib.AtoiAllCases
import Derived.Lib.Split
import Derived.Lib.IndexMore
namespace Go.Proofs.YtgbbmcfhakliiaaGreatDoor
open Go Go.RowKit

/-- one digit or more, and nothing else -/
def Digs (l : List UInt8) : Prop := l ≠ [] ∧ ∀ b ∈ l, 48 ≤ b.toNat ∧ b.toNat ≤ 57
theorem dig_toNat {u : Nat} (h : u < 10) : (UInt8.ofNat (48 + u)).toNat = 48 + u := by
  rw [UInt8.toNat_ofNat']
  omega
theorem decDigits_digs (u : Nat) : Digs (Lib.decDigits u) := by
  induction u using Nat.strongRecOn with
  | ind u ih =>
    rw [Lib.decDigits]
    split
    · rename_i h
      refine ⟨by simp, fun b hb => ?_⟩
      rw [List.mem_singleton.1 hb, dig_toNat h]
      omega
    · rename_i h
      obtain ⟨h1, h2⟩ := ih (u / 10) (by omega)
      refine ⟨by simp, fun b hb => ?_⟩
      rcases List.mem_append.1 hb with hb | hb
      · exact h2 b hb
      · rw [List.mem_singleton.1 hb, dig_toNat (by omega)]
        omega
theorem itoa_digs {n : Int} (h : 0 ≤ n) : Digs (Lib.itoa n) := by
  rw [Lib.itoa, if_neg (by omega)]
  exact decDigits_digs _
theorem parse_app : ∀ (l r : List UInt8) (acc m : Nat), Lib.parseUint10 acc l = .ok m → Lib.parseUint10 acc (l ++ r) = Lib.parseUint10 m r
  | [], r, acc, m, h => by
    simp only [Lib.parseUint10, Lib.NumEnd.ok.injEq] at h
    rw [h]; rfl
  | c :: l, r, acc, m, h => by
    simp only [List.cons_append, Lib.parseUint10] at h ⊢
    by_cases h1 : 48 ≤ c.toNat ∧ c.toNat ≤ 57
    · rw [if_pos h1] at h ⊢
      by_cases h2 : 1844674407370955162 ≤ acc
      · rw [if_pos h2] at h; cases h
      · rw [if_neg h2] at h ⊢
        by_cases h3 : 18446744073709551616 ≤ acc * 10 + (c.toNat - 48)
        · rw [if_pos h3] at h; cases h
        · rw [if_neg h3] at h ⊢
          exact parse_app l r _ m h
    · rw [if_neg h1] at h; cases h
theorem parse_dec (u : Nat) (hu : u < 1000000000000000000) : Lib.parseUint10 0 (Lib.decDigits u) = .ok u := by
  induction u using Nat.strongRecOn with
  | ind u ih =>
    rw [Lib.decDigits]
    split
    · rename_i h
      simp only [Lib.parseUint10, dig_toNat h]
      rw [if_pos (by omega), if_neg (by decide), if_neg (by omega)]
      congr 1
      omega
    · rename_i h
      rw [parse_app _ _ 0 (u / 10) (ih (u / 10) (by omega) (by omega))]
      simp only [Lib.parseUint10, dig_toNat (show u % 10 < 10 by omega)]
      rw [if_pos (by omega), if_neg (by omega), if_neg (by omega)]
      congr 1
      omega
/-- a number's text is read as the number -/
theorem atoi_itoa {n : Int} (h0 : 0 ≤ n) (h1 : n < 1000000000000000000) : Lib.atoiAll (Lib.itoa n) = .ok n := by
  obtain ⟨hne, hd⟩ := itoa_digs h0
  have hp : Lib.parseMag (Lib.itoa n) = .ok n.toNat := by
    rw [Lib.parseMag, if_neg hne, Lib.itoa, if_neg (by omega)]
    exact parse_dec _ (by omega)
  cases hl : Lib.itoa n with
  | nil => exact absurd hl hne
  | cons c r =>
    rw [hl] at hp hd
    have hc := hd c (by simp)
    rw [Lib.atoiAll_plain c r (by omega) (by omega), hp]
    simp only [Lib.signless]
    rw [if_neg (by omega)]
    congr 1
    omega

theorem index_at {b : UInt8} {r : List UInt8} : ∀ {l : List UInt8}, b ∉ l → Lib.index (l ++ b :: r) [b] = l.length
  | [], _ => by simp [Lib.index, List.isPrefixOf]
  | x :: l, h => by
    have hx : (b == x) = false := by
      simp only [List.mem_cons, not_or] at h
      simpa using h.1
    have ih := index_at (r := r) (l := l) (fun e => h (List.mem_cons_of_mem _ e))
    simp only [List.cons_append, Lib.index, List.isPrefixOf, hx, Bool.false_and]
    rw [ih]
    have : ((l.length : Int) == -1) = false := by simp
    rw [this]
    simp
theorem index_no {b : UInt8} : ∀ {l : List UInt8}, b ∉ l → Lib.index l [b] = -1
  | [], _ => by simp [Lib.index]
  | x :: l, h => by
    have hx : (b == x) = false := by
      simp only [List.mem_cons, not_or] at h
      simpa using h.1
    have ih := index_no (l := l) (fun e => h (List.mem_cons_of_mem _ e))
    simp only [Lib.index, List.isPrefixOf, hx, Bool.false_and]
    rw [ih]
    simp
theorem cut_at {b : UInt8} {l r : List UInt8} (h : b ∉ l) : Lib.cut (l ++ b :: r) [b] = (l, r, true) := by
  rw [Lib.cut, index_at h, if_pos (by omega)]
  simp
theorem cut_no {b : UInt8} {l : List UInt8} (h : b ∉ l) : Lib.cut l [b] = (l, [], false) := by
  rw [Lib.cut, index_no h, if_neg (by omega)]

theorem join_two (p q : List UInt8) (r : List (List UInt8)) : Lib.join (p :: q :: r) [44] = p ++ 44 :: Lib.join (q :: r) [44] := by
  simp [Lib.join, List.intercalate, List.intersperse]
theorem join_one (p : List UInt8) : Lib.join [p] [44] = p := by simp [Lib.join, List.intercalate, List.intersperse]
theorem join_pieces : ∀ (ps : List (List UInt8)), ps.length ≤ (Lib.join ps [44]).length + 1
  | [] => by simp
  | [p] => by simp
  | p :: q :: r => by
    have := join_pieces (q :: r)
    rw [join_two]
    simp only [List.length_cons, List.length_append] at this ⊢
    omega
theorem split_join : ∀ (ps : List (List UInt8)) (k : Nat), ps ≠ [] → (∀ p ∈ ps, (44 : UInt8) ∉ p) → ps.length ≤ k + 1 → Lib.splitK [44] 0 k (Lib.join ps [44]) = ps
  | [], _, h, _, _ => absurd rfl h
  | [p], k, _, h, _ => by
    rw [join_one]
    cases k with
    | zero => rfl
    | succ k =>
      rw [Lib.splitK, index_no (h p (by simp))]
      simp
  | p :: q :: r, k, _, h, hk => by
    cases k with
    | zero => simp at hk
    | succ k =>
      have ih := split_join (q :: r) k (by simp) (fun x hx => h x (List.mem_cons_of_mem _ hx)) (by simpa using hk)
      rw [join_two, Lib.splitK, index_at (h p (by simp))]
      have : ((p.length : Int) == -1) = false := by simp
      rw [this]
      simp [ih]
end Go.Proofs.YtgbbmcfhakliiaaGreatDoor
