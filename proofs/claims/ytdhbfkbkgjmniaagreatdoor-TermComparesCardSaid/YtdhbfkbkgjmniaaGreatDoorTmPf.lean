/-
  Which parts of a node are proofs, by both sides.
-/
import Derived.Test.YtdhbfkbkgjmniaaGreatDoorTmNo
namespace Go.Proofs.YtdhbfkbkgjmniaaGreatDoor
open Go Go.RowKit

set_option maxRecDepth 100000 in
set_option maxHeartbeats 4000000 in
theorem isPart_any (op n : Int) (s : ByteArray) (U L : Option Addr) (nu cu nl cl k : Nat) (w : World) (hk : k < nl) :
    Calls Tryz.prog 85 #[.agg #[.int .i64 op, .int .i64 n, .string s, .slice U nu cu, .slice L nl cl], .int .i64 k] w fun e w' => e = .returned (.bool true) ∧ Below w.heap.size w w' := by
  have hbx : Below w.heap.size w (w.alloc (.cells #[.int .i64 op, .int .i64 n, .string s, .slice U nu cu, .slice L nl cl] 25)) := (Below.refl _ _).alloc (Nat.le_refl _) _
  have h1 : (k : Int) < (nl : Int) := by omega
  have h0 : (0 : Int) ≤ (k : Int) := by omega
  go_enter Tryz.func85, Tryz.ntmps85
  go_wp2_with fail
  go_ret
  exact ⟨rfl, hbx⟩

/-- is the part i a proof? -/
def pfB (op n : Int) (i : Nat) : Bool :=
  if op = 7 then (i == 1) && (n == 1)
  else if op = 9 then ((i == 2) && (bits BinOp.and .i64 n 1 != 0)) || ((i == 3) && (bits BinOp.and .i64 n 2 != 0))
  else if op = 17 ∨ op = 22 then i == 1
  else if op = 21 then i == 2
  else if op = 23 then decide (2 ≤ i ∧ i ≤ 4)
  else if op = 25 then i == 3
  else if op = 20 then (i == 4) || (i == 5)
  else false
/-- the cases that a walk is made for -/
inductive PfC (op n : Int) (i : Nat) : Prop
  | no (h7 : (op == 7) = false) (h9 : (op == 9) = false) (h17 : (op == 17) = false) (h22 : (op == 22) = false) (h21 : (op == 21) = false) (h23 : (op == 23) = false) (h25 : (op == 25) = false) (h20 : (op == 20) = false)
  | app (h : op = 7) (h1 : i = 1) (h2 : n = 1)
  | app2 (h : op = 7) (h1 : i = 1) (h2 : (n == 1) = false)
  | app3 (h : op = 7) (h1 : ((i : Int) == 1) = false)
  | pa (h : op = 9) (h1 : i = 2) (h2 : (bits BinOp.and .i64 n 1 != 0) = true)
  | pa2 (h : op = 9) (h1 : i = 2) (h2 : (bits BinOp.and .i64 n 1 != 0) = false)
  | pa3 (h : op = 9) (h1 : i = 3) (h2 : (bits BinOp.and .i64 n 2 != 0) = true)
  | pa4 (h : op = 9) (h1 : i = 3) (h2 : (bits BinOp.and .i64 n 2 != 0) = false)
  | pa5 (h : op = 9) (h1 : ((i : Int) == 2) = false) (h2 : ((i : Int) == 3) = false)
  | ab (h : op = 17 ∨ op = 22) (h1 : i = 1)
  | ab2 (h : op = 17 ∨ op = 22) (h1 : ((i : Int) == 1) = false)
  | ca (h : op = 21) (h1 : i = 2)
  | ca2 (h : op = 21) (h1 : ((i : Int) == 2) = false)
  | qu (h : op = 23) (h1 : (2 : Int) ≤ (i : Int)) (h2 : (i : Int) ≤ 4)
  | qu2 (h : op = 23) (h1 : ¬ (2 : Int) ≤ (i : Int))
  | qu3 (h : op = 23) (h1 : (2 : Int) ≤ (i : Int)) (h2 : ¬ (i : Int) ≤ 4)
  | ou (h : op = 25) (h1 : i = 3)
  | ou2 (h : op = 25) (h1 : ((i : Int) == 3) = false)
  | su (h : op = 20) (h1 : i = 4)
  | su2 (h : op = 20) (h1 : i = 5)
  | su3 (h : op = 20) (h1 : ((i : Int) == 4) = false) (h2 : ((i : Int) == 5) = false)
theorem bne_of {i k : Nat} (h : i ≠ k) : ((i : Int) == (k : Int)) = false := beq_eq_false_iff_ne.2 (by omega)
theorem pfC (op n : Int) (i : Nat) : PfC op n i := by
  by_cases h7 : op = 7
  · by_cases h1 : i = 1
    · by_cases h2 : n = 1
      · exact .app h7 h1 h2
      · exact .app2 h7 h1 (beq_eq_false_iff_ne.2 h2)
    · exact .app3 h7 (bne_of h1)
  by_cases h9 : op = 9
  · by_cases h1 : i = 2
    · cases h2 : (bits BinOp.and .i64 n 1 != 0)
      · exact .pa2 h9 h1 h2
      · exact .pa h9 h1 h2
    · by_cases h3 : i = 3
      · cases h2 : (bits BinOp.and .i64 n 2 != 0)
        · exact .pa4 h9 h3 h2
        · exact .pa3 h9 h3 h2
      · exact .pa5 h9 (bne_of h1) (bne_of h3)
  by_cases h17 : op = 17 ∨ op = 22
  · by_cases h1 : i = 1
    · exact .ab h17 h1
    · exact .ab2 h17 (bne_of h1)
  by_cases h21 : op = 21
  · by_cases h1 : i = 2
    · exact .ca h21 h1
    · exact .ca2 h21 (bne_of h1)
  by_cases h23 : op = 23
  · by_cases h1 : (2 : Int) ≤ (i : Int)
    · by_cases h2 : (i : Int) ≤ 4
      · exact .qu h23 h1 h2
      · exact .qu3 h23 h1 h2
    · exact .qu2 h23 h1
  by_cases h25 : op = 25
  · by_cases h1 : i = 3
    · exact .ou h25 h1
    · exact .ou2 h25 (bne_of h1)
  by_cases h20 : op = 20
  · by_cases h1 : i = 4
    · exact .su h20 h1
    · by_cases h2 : i = 5
      · exact .su2 h20 h2
      · exact .su3 h20 (bne_of h1) (bne_of h2)
  exact .no (beq_eq_false_iff_ne.2 h7) (beq_eq_false_iff_ne.2 h9) (beq_eq_false_iff_ne.2 fun e => h17 (.inl e)) (beq_eq_false_iff_ne.2 fun e => h17 (.inr e)) (beq_eq_false_iff_ne.2 h21) (beq_eq_false_iff_ne.2 h23) (beq_eq_false_iff_ne.2 h25) (beq_eq_false_iff_ne.2 h20)

set_option maxRecDepth 100000 in
set_option maxHeartbeats 8000000 in
theorem isProofP_any (op n : Int) (s : ByteArray) (U L : Option Addr) (nu cu nl cl i : Nat) (w : World) (hk : i < nl) :
    Calls Tryz.prog 58 #[.agg #[.int .i64 op, .int .i64 n, .string s, .slice U nu cu, .slice L nl cl], .int .i64 i] w fun e w' => e = .returned (.bool (pfB op n i)) ∧ Below w.heap.size w w' := by
  have hbx : Below w.heap.size w (w.alloc (.cells #[.int .i64 op, .int .i64 n, .string s, .slice U nu cu, .slice L nl cl] 25)) := (Below.refl _ _).alloc (Nat.le_refl _) _
  have hk0 := heap_alloc_new w (.cells #[.int .i64 op, .int .i64 n, .string s, .slice U nu cu, .slice L nl cl] 25)
  have X := Lib.hid (And.intro hbx hk0)
  have hC := pfC op n i
  have hb0 : ¬ (i : Int) < 0 := by omega
  have hbk : ¬ (nl : Int) ≤ (i : Int) := by omega
  have HQ : Hid (∃ q, q = pfB op n i) := Lib.hid ⟨_, rfl⟩
  generalize hq : pfB op n i = q
  have Hq := Lib.hid hq
  clear hbx hk0 hq HQ
  have HI := Lib.hid (fun W => isPart_any op n s U L nu cu nl cl i W hk)
  go_enter Tryz.func58, Tryz.ntmps58
  go_upto_region 1 with fail
  generalize w.alloc (.cells #[.int .i64 op, .int .i64 n, .string s, .slice U nu cu, .slice L nl cl] 25) = W1 at X ⊢
  obtain ⟨hb1, k1⟩ := X.out
  clear X
  obtain ⟨x0, x1, x2, x3, x4⟩ := cells5 k1
  go_wp2_with fail
  refine (HI.out _).mono ?_
  rintro e w1 ⟨rfl, hb2⟩
  have k2 := (hb2.block _ (Array.getElem?_eq_some_iff.1 k1).1).trans k1
  clear x0 x1 x2 x3 x4 HI
  obtain ⟨x0, x1, x2, x3, x4⟩ := cells5 k2
  have hbw := hb1.trans (hb2.mono (Nat.le_of_lt (Array.getElem?_eq_some_iff.1 k1).1))
  clear k1 k2
  go_upto_region 3 with fail
  cases hC with
  | no h7 h9 h17 h22 h21 h23 h25 h20 =>
    obtain rfl : q = false := by
      rw [← Hq.out]
      unfold pfB
      rw [if_neg (beq_eq_false_iff_ne.1 h7), if_neg (beq_eq_false_iff_ne.1 h9), if_neg (fun e => e.elim (beq_eq_false_iff_ne.1 h17) (beq_eq_false_iff_ne.1 h22)), if_neg (beq_eq_false_iff_ne.1 h21), if_neg (beq_eq_false_iff_ne.1 h23), if_neg (beq_eq_false_iff_ne.1 h25), if_neg (beq_eq_false_iff_ne.1 h20)]
    go_wp2_with fail
    go_ret
    first | exact ⟨rfl, hbw⟩ | exact ⟨ret_bool (by assumption), hbw⟩ | exact ⟨ret_bool (by simp_all), hbw⟩
  | app h h1 h2 =>
    obtain rfl : q = true := by
      rw [← Hq.out]
      subst h
      first
        | (subst h1; simp [pfB]; done)
        | (subst h1; simpa [pfB] using h2)
        | (have := beq_eq_false_iff_ne.1 h1; simp [pfB]; omega)
        | (have := beq_eq_false_iff_ne.1 h1; have := beq_eq_false_iff_ne.1 h2; simp [pfB]; omega)
        | (simp [pfB]; omega)
    subst h
    subst h1
    subst h2
    go_wp2_with fail
    go_ret
    first | exact ⟨rfl, hbw⟩ | exact ⟨ret_bool (by assumption), hbw⟩ | exact ⟨ret_bool (by simp_all), hbw⟩
  | app2 h h1 h2 =>
    obtain rfl : q = false := by
      rw [← Hq.out]
      subst h
      first
        | (subst h1; simp [pfB]; done)
        | (subst h1; simpa [pfB] using h2)
        | (have := beq_eq_false_iff_ne.1 h1; simp [pfB]; omega)
        | (have := beq_eq_false_iff_ne.1 h1; have := beq_eq_false_iff_ne.1 h2; simp [pfB]; omega)
        | (simp [pfB]; omega)
    subst h
    subst h1
    go_wp2_with fail
    go_ret
    first | exact ⟨rfl, hbw⟩ | exact ⟨ret_bool (by assumption), hbw⟩ | exact ⟨ret_bool (by simp_all), hbw⟩
  | app3 h h1 =>
    obtain rfl : q = false := by
      rw [← Hq.out]
      subst h
      first
        | (subst h1; simp [pfB]; done)
        | (subst h1; simpa [pfB] using h2)
        | (have := beq_eq_false_iff_ne.1 h1; simp [pfB]; omega)
        | (have := beq_eq_false_iff_ne.1 h1; have := beq_eq_false_iff_ne.1 h2; simp [pfB]; omega)
        | (simp [pfB]; omega)
    subst h
    go_wp2_with fail
    go_ret
    first | exact ⟨rfl, hbw⟩ | exact ⟨ret_bool (by assumption), hbw⟩ | exact ⟨ret_bool (by simp_all), hbw⟩
  | pa h h1 h2 =>
    obtain rfl : q = true := by
      rw [← Hq.out]
      subst h
      first
        | (subst h1; simp [pfB]; done)
        | (subst h1; simpa [pfB] using h2)
        | (have := beq_eq_false_iff_ne.1 h1; simp [pfB]; omega)
        | (have := beq_eq_false_iff_ne.1 h1; have := beq_eq_false_iff_ne.1 h2; simp [pfB]; omega)
        | (simp [pfB]; omega)
    subst h
    subst h1
    go_wp2_with fail
    go_ret
    first | exact ⟨rfl, hbw⟩ | exact ⟨ret_bool (by assumption), hbw⟩ | exact ⟨ret_bool (by simp_all), hbw⟩
  | pa2 h h1 h2 =>
    obtain rfl : q = false := by
      rw [← Hq.out]
      subst h
      first
        | (subst h1; simp [pfB]; done)
        | (subst h1; simpa [pfB] using h2)
        | (have := beq_eq_false_iff_ne.1 h1; simp [pfB]; omega)
        | (have := beq_eq_false_iff_ne.1 h1; have := beq_eq_false_iff_ne.1 h2; simp [pfB]; omega)
        | (simp [pfB]; omega)
    subst h
    subst h1
    go_wp2_with fail
    go_ret
    first | exact ⟨rfl, hbw⟩ | exact ⟨ret_bool (by assumption), hbw⟩ | exact ⟨ret_bool (by simp_all), hbw⟩
  | pa3 h h1 h2 =>
    obtain rfl : q = true := by
      rw [← Hq.out]
      subst h
      first
        | (subst h1; simp [pfB]; done)
        | (subst h1; simpa [pfB] using h2)
        | (have := beq_eq_false_iff_ne.1 h1; simp [pfB]; omega)
        | (have := beq_eq_false_iff_ne.1 h1; have := beq_eq_false_iff_ne.1 h2; simp [pfB]; omega)
        | (simp [pfB]; omega)
    subst h
    subst h1
    go_wp2_with fail
    go_ret
    first | exact ⟨rfl, hbw⟩ | exact ⟨ret_bool (by assumption), hbw⟩ | exact ⟨ret_bool (by simp_all), hbw⟩
  | pa4 h h1 h2 =>
    obtain rfl : q = false := by
      rw [← Hq.out]
      subst h
      first
        | (subst h1; simp [pfB]; done)
        | (subst h1; simpa [pfB] using h2)
        | (have := beq_eq_false_iff_ne.1 h1; simp [pfB]; omega)
        | (have := beq_eq_false_iff_ne.1 h1; have := beq_eq_false_iff_ne.1 h2; simp [pfB]; omega)
        | (simp [pfB]; omega)
    subst h
    subst h1
    go_wp2_with fail
    go_ret
    first | exact ⟨rfl, hbw⟩ | exact ⟨ret_bool (by assumption), hbw⟩ | exact ⟨ret_bool (by simp_all), hbw⟩
  | pa5 h h1 h2 =>
    obtain rfl : q = false := by
      rw [← Hq.out]
      subst h
      first
        | (subst h1; simp [pfB]; done)
        | (subst h1; simpa [pfB] using h2)
        | (have := beq_eq_false_iff_ne.1 h1; simp [pfB]; omega)
        | (have := beq_eq_false_iff_ne.1 h1; have := beq_eq_false_iff_ne.1 h2; simp [pfB]; omega)
        | (simp [pfB]; omega)
    subst h
    go_wp2_with fail
    go_ret
    first | exact ⟨rfl, hbw⟩ | exact ⟨ret_bool (by assumption), hbw⟩ | exact ⟨ret_bool (by simp_all), hbw⟩
  | ab h h1 =>
    rcases h with h | h
    all_goals
      obtain rfl : q = true := by
        rw [← Hq.out]
        subst h
        first
          | (subst h1; simp [pfB]; done)
          | (subst h1; simpa [pfB] using h2)
          | (have := beq_eq_false_iff_ne.1 h1; simp [pfB]; omega)
          | (have := beq_eq_false_iff_ne.1 h1; have := beq_eq_false_iff_ne.1 h2; simp [pfB]; omega)
          | (simp [pfB]; omega)
      subst h
      subst h1
      go_wp2_with fail
      go_ret
      first | exact ⟨rfl, hbw⟩ | exact ⟨ret_bool (by assumption), hbw⟩ | exact ⟨ret_bool (by simp_all), hbw⟩
  | ab2 h h1 =>
    rcases h with h | h
    all_goals
      obtain rfl : q = false := by
        rw [← Hq.out]
        subst h
        first
          | (subst h1; simp [pfB]; done)
          | (subst h1; simpa [pfB] using h2)
          | (have := beq_eq_false_iff_ne.1 h1; simp [pfB]; omega)
          | (have := beq_eq_false_iff_ne.1 h1; have := beq_eq_false_iff_ne.1 h2; simp [pfB]; omega)
          | (simp [pfB]; omega)
      subst h
      go_wp2_with fail
      go_ret
      first | exact ⟨rfl, hbw⟩ | exact ⟨ret_bool (by assumption), hbw⟩ | exact ⟨ret_bool (by simp_all), hbw⟩
  | ca h h1 =>
    obtain rfl : q = true := by
      rw [← Hq.out]
      subst h
      first
        | (subst h1; simp [pfB]; done)
        | (subst h1; simpa [pfB] using h2)
        | (have := beq_eq_false_iff_ne.1 h1; simp [pfB]; omega)
        | (have := beq_eq_false_iff_ne.1 h1; have := beq_eq_false_iff_ne.1 h2; simp [pfB]; omega)
        | (simp [pfB]; omega)
    subst h
    subst h1
    go_wp2_with fail
    go_ret
    first | exact ⟨rfl, hbw⟩ | exact ⟨ret_bool (by assumption), hbw⟩ | exact ⟨ret_bool (by simp_all), hbw⟩
  | ca2 h h1 =>
    obtain rfl : q = false := by
      rw [← Hq.out]
      subst h
      first
        | (subst h1; simp [pfB]; done)
        | (subst h1; simpa [pfB] using h2)
        | (have := beq_eq_false_iff_ne.1 h1; simp [pfB]; omega)
        | (have := beq_eq_false_iff_ne.1 h1; have := beq_eq_false_iff_ne.1 h2; simp [pfB]; omega)
        | (simp [pfB]; omega)
    subst h
    go_wp2_with fail
    go_ret
    first | exact ⟨rfl, hbw⟩ | exact ⟨ret_bool (by assumption), hbw⟩ | exact ⟨ret_bool (by simp_all), hbw⟩
  | qu h h1 h2 =>
    obtain rfl : q = true := by
      rw [← Hq.out]
      subst h
      first
        | (subst h1; simp [pfB]; done)
        | (subst h1; simpa [pfB] using h2)
        | (have := beq_eq_false_iff_ne.1 h1; simp [pfB]; omega)
        | (have := beq_eq_false_iff_ne.1 h1; have := beq_eq_false_iff_ne.1 h2; simp [pfB]; omega)
        | (simp [pfB]; omega)
    subst h
    go_wp2_with fail
    go_ret
    first | exact ⟨rfl, hbw⟩ | exact ⟨ret_bool (by assumption), hbw⟩ | exact ⟨ret_bool (by simp_all), hbw⟩
  | qu2 h h1 =>
    obtain rfl : q = false := by
      rw [← Hq.out]
      subst h
      first
        | (subst h1; simp [pfB]; done)
        | (subst h1; simpa [pfB] using h2)
        | (have := beq_eq_false_iff_ne.1 h1; simp [pfB]; omega)
        | (have := beq_eq_false_iff_ne.1 h1; have := beq_eq_false_iff_ne.1 h2; simp [pfB]; omega)
        | (simp [pfB]; omega)
    subst h
    go_wp2_with fail
    go_ret
    first | exact ⟨rfl, hbw⟩ | exact ⟨ret_bool (by assumption), hbw⟩ | exact ⟨ret_bool (by simp_all), hbw⟩
  | qu3 h h1 h2 =>
    obtain rfl : q = false := by
      rw [← Hq.out]
      subst h
      first
        | (subst h1; simp [pfB]; done)
        | (subst h1; simpa [pfB] using h2)
        | (have := beq_eq_false_iff_ne.1 h1; simp [pfB]; omega)
        | (have := beq_eq_false_iff_ne.1 h1; have := beq_eq_false_iff_ne.1 h2; simp [pfB]; omega)
        | (simp [pfB]; omega)
    subst h
    go_wp2_with fail
    go_ret
    first | exact ⟨rfl, hbw⟩ | exact ⟨ret_bool (by assumption), hbw⟩ | exact ⟨ret_bool (by simp_all), hbw⟩
  | ou h h1 =>
    obtain rfl : q = true := by
      rw [← Hq.out]
      subst h
      first
        | (subst h1; simp [pfB]; done)
        | (subst h1; simpa [pfB] using h2)
        | (have := beq_eq_false_iff_ne.1 h1; simp [pfB]; omega)
        | (have := beq_eq_false_iff_ne.1 h1; have := beq_eq_false_iff_ne.1 h2; simp [pfB]; omega)
        | (simp [pfB]; omega)
    subst h
    subst h1
    go_wp2_with fail
    go_ret
    first | exact ⟨rfl, hbw⟩ | exact ⟨ret_bool (by assumption), hbw⟩ | exact ⟨ret_bool (by simp_all), hbw⟩
  | ou2 h h1 =>
    obtain rfl : q = false := by
      rw [← Hq.out]
      subst h
      first
        | (subst h1; simp [pfB]; done)
        | (subst h1; simpa [pfB] using h2)
        | (have := beq_eq_false_iff_ne.1 h1; simp [pfB]; omega)
        | (have := beq_eq_false_iff_ne.1 h1; have := beq_eq_false_iff_ne.1 h2; simp [pfB]; omega)
        | (simp [pfB]; omega)
    subst h
    go_wp2_with fail
    go_ret
    first | exact ⟨rfl, hbw⟩ | exact ⟨ret_bool (by assumption), hbw⟩ | exact ⟨ret_bool (by simp_all), hbw⟩
  | su h h1 =>
    obtain rfl : q = true := by
      rw [← Hq.out]
      subst h
      first
        | (subst h1; simp [pfB]; done)
        | (subst h1; simpa [pfB] using h2)
        | (have := beq_eq_false_iff_ne.1 h1; simp [pfB]; omega)
        | (have := beq_eq_false_iff_ne.1 h1; have := beq_eq_false_iff_ne.1 h2; simp [pfB]; omega)
        | (simp [pfB]; omega)
    subst h
    subst h1
    go_wp2_with fail
    go_ret
    first | exact ⟨rfl, hbw⟩ | exact ⟨ret_bool (by assumption), hbw⟩ | exact ⟨ret_bool (by simp_all), hbw⟩
  | su2 h h1 =>
    obtain rfl : q = true := by
      rw [← Hq.out]
      subst h
      first
        | (subst h1; simp [pfB]; done)
        | (subst h1; simpa [pfB] using h2)
        | (have := beq_eq_false_iff_ne.1 h1; simp [pfB]; omega)
        | (have := beq_eq_false_iff_ne.1 h1; have := beq_eq_false_iff_ne.1 h2; simp [pfB]; omega)
        | (simp [pfB]; omega)
    subst h
    subst h1
    go_wp2_with fail
    go_ret
    first | exact ⟨rfl, hbw⟩ | exact ⟨ret_bool (by assumption), hbw⟩ | exact ⟨ret_bool (by simp_all), hbw⟩
  | su3 h h1 h2 =>
    obtain rfl : q = false := by
      rw [← Hq.out]
      subst h
      first
        | (subst h1; simp [pfB]; done)
        | (subst h1; simpa [pfB] using h2)
        | (have := beq_eq_false_iff_ne.1 h1; simp [pfB]; omega)
        | (have := beq_eq_false_iff_ne.1 h1; have := beq_eq_false_iff_ne.1 h2; simp [pfB]; omega)
        | (simp [pfB]; omega)
    subst h
    go_wp2_with fail
    go_ret
    first | exact ⟨rfl, hbw⟩ | exact ⟨ret_bool (by assumption), hbw⟩ | exact ⟨ret_bool (by simp_all), hbw⟩

set_option maxRecDepth 100000 in
set_option maxHeartbeats 8000000 in
theorem isProofR_any (op n : Int) (s : ByteArray) (U L : Option Addr) (nu cu nl cl i : Nat) (w : World) (hk : i < nl) :
    Calls Tryz.prog 59 #[.agg #[.int .i64 op, .int .i64 n, .string s, .slice U nu cu, .slice L nl cl], .int .i64 i] w fun e w' => e = .returned (.bool (pfB op n i)) ∧ Below w.heap.size w w' := by
  have hbx : Below w.heap.size w (w.alloc (.cells #[.int .i64 op, .int .i64 n, .string s, .slice U nu cu, .slice L nl cl] 25)) := (Below.refl _ _).alloc (Nat.le_refl _) _
  have hk0 := heap_alloc_new w (.cells #[.int .i64 op, .int .i64 n, .string s, .slice U nu cu, .slice L nl cl] 25)
  have X := Lib.hid (And.intro hbx hk0)
  have hC := pfC op n i
  have hb0 : ¬ (i : Int) < 0 := by omega
  have hbk : ¬ (nl : Int) ≤ (i : Int) := by omega
  have HQ : Hid (∃ q, q = pfB op n i) := Lib.hid ⟨_, rfl⟩
  generalize hq : pfB op n i = q
  have Hq := Lib.hid hq
  clear hbx hk0 hq HQ
  go_enter Tryz.func59, Tryz.ntmps59
  go_upto_region 1 with fail
  generalize w.alloc (.cells #[.int .i64 op, .int .i64 n, .string s, .slice U nu cu, .slice L nl cl] 25) = W1 at X ⊢
  obtain ⟨hb1, k1⟩ := X.out
  clear X
  obtain ⟨x0, x1, x2, x3, x4⟩ := cells5 k1
  have hbw := hb1
  clear k1
  go_upto_region 3 with fail
  cases hC with
  | no h7 h9 h17 h22 h21 h23 h25 h20 =>
    obtain rfl : q = false := by
      rw [← Hq.out]
      unfold pfB
      rw [if_neg (beq_eq_false_iff_ne.1 h7), if_neg (beq_eq_false_iff_ne.1 h9), if_neg (fun e => e.elim (beq_eq_false_iff_ne.1 h17) (beq_eq_false_iff_ne.1 h22)), if_neg (beq_eq_false_iff_ne.1 h21), if_neg (beq_eq_false_iff_ne.1 h23), if_neg (beq_eq_false_iff_ne.1 h25), if_neg (beq_eq_false_iff_ne.1 h20)]
    go_wp2_with fail
    go_ret
    first | exact ⟨rfl, hbw⟩ | exact ⟨ret_bool (by assumption), hbw⟩ | exact ⟨ret_bool (by simp_all), hbw⟩
  | app h h1 h2 =>
    obtain rfl : q = true := by
      rw [← Hq.out]
      subst h
      first
        | (subst h1; simp [pfB]; done)
        | (subst h1; simpa [pfB] using h2)
        | (have := beq_eq_false_iff_ne.1 h1; simp [pfB]; omega)
        | (have := beq_eq_false_iff_ne.1 h1; have := beq_eq_false_iff_ne.1 h2; simp [pfB]; omega)
        | (simp [pfB]; omega)
    subst h
    subst h1
    subst h2
    go_wp2_with fail
    go_ret
    first | exact ⟨rfl, hbw⟩ | exact ⟨ret_bool (by assumption), hbw⟩ | exact ⟨ret_bool (by simp_all), hbw⟩
  | app2 h h1 h2 =>
    obtain rfl : q = false := by
      rw [← Hq.out]
      subst h
      first
        | (subst h1; simp [pfB]; done)
        | (subst h1; simpa [pfB] using h2)
        | (have := beq_eq_false_iff_ne.1 h1; simp [pfB]; omega)
        | (have := beq_eq_false_iff_ne.1 h1; have := beq_eq_false_iff_ne.1 h2; simp [pfB]; omega)
        | (simp [pfB]; omega)
    subst h
    subst h1
    go_wp2_with fail
    go_ret
    first | exact ⟨rfl, hbw⟩ | exact ⟨ret_bool (by assumption), hbw⟩ | exact ⟨ret_bool (by simp_all), hbw⟩
  | app3 h h1 =>
    obtain rfl : q = false := by
      rw [← Hq.out]
      subst h
      first
        | (subst h1; simp [pfB]; done)
        | (subst h1; simpa [pfB] using h2)
        | (have := beq_eq_false_iff_ne.1 h1; simp [pfB]; omega)
        | (have := beq_eq_false_iff_ne.1 h1; have := beq_eq_false_iff_ne.1 h2; simp [pfB]; omega)
        | (simp [pfB]; omega)
    subst h
    go_wp2_with fail
    go_ret
    first | exact ⟨rfl, hbw⟩ | exact ⟨ret_bool (by assumption), hbw⟩ | exact ⟨ret_bool (by simp_all), hbw⟩
  | pa h h1 h2 =>
    obtain rfl : q = true := by
      rw [← Hq.out]
      subst h
      first
        | (subst h1; simp [pfB]; done)
        | (subst h1; simpa [pfB] using h2)
        | (have := beq_eq_false_iff_ne.1 h1; simp [pfB]; omega)
        | (have := beq_eq_false_iff_ne.1 h1; have := beq_eq_false_iff_ne.1 h2; simp [pfB]; omega)
        | (simp [pfB]; omega)
    subst h
    subst h1
    go_wp2_with fail
    go_ret
    first | exact ⟨rfl, hbw⟩ | exact ⟨ret_bool (by assumption), hbw⟩ | exact ⟨ret_bool (by simp_all), hbw⟩
  | pa2 h h1 h2 =>
    obtain rfl : q = false := by
      rw [← Hq.out]
      subst h
      first
        | (subst h1; simp [pfB]; done)
        | (subst h1; simpa [pfB] using h2)
        | (have := beq_eq_false_iff_ne.1 h1; simp [pfB]; omega)
        | (have := beq_eq_false_iff_ne.1 h1; have := beq_eq_false_iff_ne.1 h2; simp [pfB]; omega)
        | (simp [pfB]; omega)
    subst h
    subst h1
    go_wp2_with fail
    go_ret
    first | exact ⟨rfl, hbw⟩ | exact ⟨ret_bool (by assumption), hbw⟩ | exact ⟨ret_bool (by simp_all), hbw⟩
  | pa3 h h1 h2 =>
    obtain rfl : q = true := by
      rw [← Hq.out]
      subst h
      first
        | (subst h1; simp [pfB]; done)
        | (subst h1; simpa [pfB] using h2)
        | (have := beq_eq_false_iff_ne.1 h1; simp [pfB]; omega)
        | (have := beq_eq_false_iff_ne.1 h1; have := beq_eq_false_iff_ne.1 h2; simp [pfB]; omega)
        | (simp [pfB]; omega)
    subst h
    subst h1
    go_wp2_with fail
    go_ret
    first | exact ⟨rfl, hbw⟩ | exact ⟨ret_bool (by assumption), hbw⟩ | exact ⟨ret_bool (by simp_all), hbw⟩
  | pa4 h h1 h2 =>
    obtain rfl : q = false := by
      rw [← Hq.out]
      subst h
      first
        | (subst h1; simp [pfB]; done)
        | (subst h1; simpa [pfB] using h2)
        | (have := beq_eq_false_iff_ne.1 h1; simp [pfB]; omega)
        | (have := beq_eq_false_iff_ne.1 h1; have := beq_eq_false_iff_ne.1 h2; simp [pfB]; omega)
        | (simp [pfB]; omega)
    subst h
    subst h1
    go_wp2_with fail
    go_ret
    first | exact ⟨rfl, hbw⟩ | exact ⟨ret_bool (by assumption), hbw⟩ | exact ⟨ret_bool (by simp_all), hbw⟩
  | pa5 h h1 h2 =>
    obtain rfl : q = false := by
      rw [← Hq.out]
      subst h
      first
        | (subst h1; simp [pfB]; done)
        | (subst h1; simpa [pfB] using h2)
        | (have := beq_eq_false_iff_ne.1 h1; simp [pfB]; omega)
        | (have := beq_eq_false_iff_ne.1 h1; have := beq_eq_false_iff_ne.1 h2; simp [pfB]; omega)
        | (simp [pfB]; omega)
    subst h
    go_wp2_with fail
    go_ret
    first | exact ⟨rfl, hbw⟩ | exact ⟨ret_bool (by assumption), hbw⟩ | exact ⟨ret_bool (by simp_all), hbw⟩
  | ab h h1 =>
    rcases h with h | h
    all_goals
      obtain rfl : q = true := by
        rw [← Hq.out]
        subst h
        first
          | (subst h1; simp [pfB]; done)
          | (subst h1; simpa [pfB] using h2)
          | (have := beq_eq_false_iff_ne.1 h1; simp [pfB]; omega)
          | (have := beq_eq_false_iff_ne.1 h1; have := beq_eq_false_iff_ne.1 h2; simp [pfB]; omega)
          | (simp [pfB]; omega)
      subst h
      subst h1
      go_wp2_with fail
      go_ret
      first | exact ⟨rfl, hbw⟩ | exact ⟨ret_bool (by assumption), hbw⟩ | exact ⟨ret_bool (by simp_all), hbw⟩
  | ab2 h h1 =>
    rcases h with h | h
    all_goals
      obtain rfl : q = false := by
        rw [← Hq.out]
        subst h
        first
          | (subst h1; simp [pfB]; done)
          | (subst h1; simpa [pfB] using h2)
          | (have := beq_eq_false_iff_ne.1 h1; simp [pfB]; omega)
          | (have := beq_eq_false_iff_ne.1 h1; have := beq_eq_false_iff_ne.1 h2; simp [pfB]; omega)
          | (simp [pfB]; omega)
      subst h
      go_wp2_with fail
      go_ret
      first | exact ⟨rfl, hbw⟩ | exact ⟨ret_bool (by assumption), hbw⟩ | exact ⟨ret_bool (by simp_all), hbw⟩
  | ca h h1 =>
    obtain rfl : q = true := by
      rw [← Hq.out]
      subst h
      first
        | (subst h1; simp [pfB]; done)
        | (subst h1; simpa [pfB] using h2)
        | (have := beq_eq_false_iff_ne.1 h1; simp [pfB]; omega)
        | (have := beq_eq_false_iff_ne.1 h1; have := beq_eq_false_iff_ne.1 h2; simp [pfB]; omega)
        | (simp [pfB]; omega)
    subst h
    subst h1
    go_wp2_with fail
    go_ret
    first | exact ⟨rfl, hbw⟩ | exact ⟨ret_bool (by assumption), hbw⟩ | exact ⟨ret_bool (by simp_all), hbw⟩
  | ca2 h h1 =>
    obtain rfl : q = false := by
      rw [← Hq.out]
      subst h
      first
        | (subst h1; simp [pfB]; done)
        | (subst h1; simpa [pfB] using h2)
        | (have := beq_eq_false_iff_ne.1 h1; simp [pfB]; omega)
        | (have := beq_eq_false_iff_ne.1 h1; have := beq_eq_false_iff_ne.1 h2; simp [pfB]; omega)
        | (simp [pfB]; omega)
    subst h
    go_wp2_with fail
    go_ret
    first | exact ⟨rfl, hbw⟩ | exact ⟨ret_bool (by assumption), hbw⟩ | exact ⟨ret_bool (by simp_all), hbw⟩
  | qu h h1 h2 =>
    obtain rfl : q = true := by
      rw [← Hq.out]
      subst h
      first
        | (subst h1; simp [pfB]; done)
        | (subst h1; simpa [pfB] using h2)
        | (have := beq_eq_false_iff_ne.1 h1; simp [pfB]; omega)
        | (have := beq_eq_false_iff_ne.1 h1; have := beq_eq_false_iff_ne.1 h2; simp [pfB]; omega)
        | (simp [pfB]; omega)
    subst h
    go_wp2_with fail
    go_ret
    first | exact ⟨rfl, hbw⟩ | exact ⟨ret_bool (by assumption), hbw⟩ | exact ⟨ret_bool (by simp_all), hbw⟩
  | qu2 h h1 =>
    obtain rfl : q = false := by
      rw [← Hq.out]
      subst h
      first
        | (subst h1; simp [pfB]; done)
        | (subst h1; simpa [pfB] using h2)
        | (have := beq_eq_false_iff_ne.1 h1; simp [pfB]; omega)
        | (have := beq_eq_false_iff_ne.1 h1; have := beq_eq_false_iff_ne.1 h2; simp [pfB]; omega)
        | (simp [pfB]; omega)
    subst h
    go_wp2_with fail
    go_ret
    first | exact ⟨rfl, hbw⟩ | exact ⟨ret_bool (by assumption), hbw⟩ | exact ⟨ret_bool (by simp_all), hbw⟩
  | qu3 h h1 h2 =>
    obtain rfl : q = false := by
      rw [← Hq.out]
      subst h
      first
        | (subst h1; simp [pfB]; done)
        | (subst h1; simpa [pfB] using h2)
        | (have := beq_eq_false_iff_ne.1 h1; simp [pfB]; omega)
        | (have := beq_eq_false_iff_ne.1 h1; have := beq_eq_false_iff_ne.1 h2; simp [pfB]; omega)
        | (simp [pfB]; omega)
    subst h
    go_wp2_with fail
    go_ret
    first | exact ⟨rfl, hbw⟩ | exact ⟨ret_bool (by assumption), hbw⟩ | exact ⟨ret_bool (by simp_all), hbw⟩
  | ou h h1 =>
    obtain rfl : q = true := by
      rw [← Hq.out]
      subst h
      first
        | (subst h1; simp [pfB]; done)
        | (subst h1; simpa [pfB] using h2)
        | (have := beq_eq_false_iff_ne.1 h1; simp [pfB]; omega)
        | (have := beq_eq_false_iff_ne.1 h1; have := beq_eq_false_iff_ne.1 h2; simp [pfB]; omega)
        | (simp [pfB]; omega)
    subst h
    subst h1
    go_wp2_with fail
    go_ret
    first | exact ⟨rfl, hbw⟩ | exact ⟨ret_bool (by assumption), hbw⟩ | exact ⟨ret_bool (by simp_all), hbw⟩
  | ou2 h h1 =>
    obtain rfl : q = false := by
      rw [← Hq.out]
      subst h
      first
        | (subst h1; simp [pfB]; done)
        | (subst h1; simpa [pfB] using h2)
        | (have := beq_eq_false_iff_ne.1 h1; simp [pfB]; omega)
        | (have := beq_eq_false_iff_ne.1 h1; have := beq_eq_false_iff_ne.1 h2; simp [pfB]; omega)
        | (simp [pfB]; omega)
    subst h
    go_wp2_with fail
    go_ret
    first | exact ⟨rfl, hbw⟩ | exact ⟨ret_bool (by assumption), hbw⟩ | exact ⟨ret_bool (by simp_all), hbw⟩
  | su h h1 =>
    obtain rfl : q = true := by
      rw [← Hq.out]
      subst h
      first
        | (subst h1; simp [pfB]; done)
        | (subst h1; simpa [pfB] using h2)
        | (have := beq_eq_false_iff_ne.1 h1; simp [pfB]; omega)
        | (have := beq_eq_false_iff_ne.1 h1; have := beq_eq_false_iff_ne.1 h2; simp [pfB]; omega)
        | (simp [pfB]; omega)
    subst h
    subst h1
    go_wp2_with fail
    go_ret
    first | exact ⟨rfl, hbw⟩ | exact ⟨ret_bool (by assumption), hbw⟩ | exact ⟨ret_bool (by simp_all), hbw⟩
  | su2 h h1 =>
    obtain rfl : q = true := by
      rw [← Hq.out]
      subst h
      first
        | (subst h1; simp [pfB]; done)
        | (subst h1; simpa [pfB] using h2)
        | (have := beq_eq_false_iff_ne.1 h1; simp [pfB]; omega)
        | (have := beq_eq_false_iff_ne.1 h1; have := beq_eq_false_iff_ne.1 h2; simp [pfB]; omega)
        | (simp [pfB]; omega)
    subst h
    subst h1
    go_wp2_with fail
    go_ret
    first | exact ⟨rfl, hbw⟩ | exact ⟨ret_bool (by assumption), hbw⟩ | exact ⟨ret_bool (by simp_all), hbw⟩
  | su3 h h1 h2 =>
    obtain rfl : q = false := by
      rw [← Hq.out]
      subst h
      first
        | (subst h1; simp [pfB]; done)
        | (subst h1; simpa [pfB] using h2)
        | (have := beq_eq_false_iff_ne.1 h1; simp [pfB]; omega)
        | (have := beq_eq_false_iff_ne.1 h1; have := beq_eq_false_iff_ne.1 h2; simp [pfB]; omega)
        | (simp [pfB]; omega)
    subst h
    go_wp2_with fail
    go_ret
    first | exact ⟨rfl, hbw⟩ | exact ⟨ret_bool (by assumption), hbw⟩ | exact ⟨ret_bool (by simp_all), hbw⟩
end Go.Proofs.YtdhbfkbkgjmniaaGreatDoor
