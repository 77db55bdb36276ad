/-
  'number' of the reference: what it reads at any place of any text.
-/
import Derived.Test.YtgbbmcfhakliiaaGreatDoorTxtQ
namespace Go.Proofs.YtgbbmcfhakliiaaGreatDoor
open Go Go.RowKit

theorem takeD_nil (f : Nat) (n : Int) : takeD f n [] = (n, [], 0) := by cases f <;> rfl
theorem takeD_stop (f : Nat) (n : Int) {b : UInt8} {l : List UInt8} (h : ¬ (48 ≤ b.toNat ∧ b.toNat ≤ 57)) : takeD f n (b :: l) = (n, b :: l, 0) := by
  cases f with
  | zero => rfl
  | succ f => rw [takeD, if_neg h]

theorem getElem_data {s : ByteArray} {i : Nat} (h : i < s.size) : s.data.toList[i]? = some s[i] := by
  have : i < s.data.toList.length := by rw [← Lib.size_eq]; exact h
  rw [List.getElem?_eq_getElem this]
  rfl
theorem drop_at {s : ByteArray} {i : Nat} (h : i < s.size) : s.data.toList.drop i = s[i] :: s.data.toList.drop (i + 1) := by
  have hl : i < s.data.toList.length := by rw [← Lib.size_eq]; exact h
  rw [List.drop_eq_getElem_cons hl]
  rfl
theorem num_end {l r : List UInt8} {j : Nat} {v : Int} (h : takeD 7 0 l = (v, r, j)) : numR l = (v, r, decide (0 < j ∧ j < 7)) := by rw [numR, h]

set_option maxRecDepth 100000 in
set_option maxHeartbeats 2000000 in
theorem number_any (s : ByteArray) (a : Nat) (w : World) (hs : s.size ≤ 1000000) (_ha : a ≤ s.size) (N : Int × List UInt8 × Bool) (hN : numR (s.data.toList.drop a) = N) :
    Calls Tryz.prog 52 #[.string s, .int .i64 a] w fun e w' => ∃ k : Nat, a ≤ k ∧ k ≤ s.size ∧ N.2.1 = s.data.toList.drop k ∧ e = .returned (.tuple #[.int .i64 N.1, .int .i64 k, .bool N.2.2]) ∧ w' = w := by
  have hsz : s.size ≤ 9223372036854775807 := by omega
  have HN := Lib.hid hN
  clear hN
  go_enter Tryz.func52, Tryz.ntmps52
  go_wp2
  go_loop [7, 8] (fun n i => ∃ j : Nat, ∃ v : Int, j ≤ 7 ∧ a + j ≤ s.size ∧ n = .int .i64 v ∧ i = .int .i64 ((a + j : Nat) : Int) ∧ 0 ≤ v ∧ v < 10 ^ j ∧ takeD 7 0 (s.data.toList.drop a) = ((takeD (7 - j) v (s.data.toList.drop (a + j))).1, (takeD (7 - j) v (s.data.toList.drop (a + j))).2.1, (takeD (7 - j) v (s.data.toList.drop (a + j))).2.2 + j)) (fun _ i => s.size - (intOf i).toNat)
  case atStart => exact ⟨0, 0, by omega, by omega, rfl, rfl, by omega, by decide, rfl⟩
  case round =>
    obtain ⟨j, v, hj, haj, rfl, rfl, hv0, hv1, htk⟩ := hrel
    have Htk := Lib.hid htk
    have Hv1 := Lib.hid hv1
    clear htk hv1
    have Hfin : Hid (takeD (7 - j) v (s.data.toList.drop (a + j)) = (v, s.data.toList.drop (a + j), 0) → N = (v, s.data.toList.drop (a + j), decide (0 < j ∧ j < 7))) := fun h => by
      have h2 := Htk.out
      rw [h] at h2
      rw [← HN.out, num_end h2, Nat.zero_add]
    by_cases hk : a + j < s.size
    · have Hdr := Lib.hid (drop_at hk)
      have hb := s[a + j].toNat_lt
      by_cases h7 : (a : Int) + j - a < 7
      · by_cases hd : 48 ≤ s[a + j].toNat ∧ s[a + j].toNat ≤ 57
        · have hp : (10 : Int) ^ j ≤ 1000000 := by
            have : ∀ i : Fin 7, (10 : Int) ^ i.val ≤ 1000000 := by decide
            exact this ⟨j, by omega⟩
          have hv2 := Hv1.out
          have Hnx : Hid (takeD (7 - j) v (s.data.toList.drop (a + j)) = ((takeD (7 - (j + 1)) (10 * v + ((s[a + j].toNat : Int) - 48)) (s.data.toList.drop (a + (j + 1)))).1, (takeD (7 - (j + 1)) (10 * v + ((s[a + j].toNat : Int) - 48)) (s.data.toList.drop (a + (j + 1)))).2.1, (takeD (7 - (j + 1)) (10 * v + ((s[a + j].toNat : Int) - 48)) (s.data.toList.drop (a + (j + 1)))).2.2 + 1)) := by
            rw [Hid, Hdr.out, show 7 - j = (7 - (j + 1)) + 1 by omega, takeD, if_pos hd]
            rfl
          have Hpw : Hid ((10 : Int) ^ (j + 1) = 10 ^ j * 10) := Int.pow_succ 10 j
          obtain ⟨hd1, hd2⟩ := hd
          go_wp2
          refine ⟨⟨j + 1, 10 * v + ((s[a + j].toNat : Int) - 48), by omega, by omega, rfl, by congr 1, by omega, by rw [Hpw.out]; omega, ?_⟩, by simp [intOf]; omega⟩
          have := Htk.out
          rw [Hnx.out] at this
          rw [this]
          simp only [Prod.mk.injEq, true_and]
          omega
        · have Hend := Lib.hid (Hfin.out (by rw [Hdr.out]; exact takeD_stop _ _ hd))
          by_cases hd1 : 48 ≤ s[a + j].toNat
          · have hd2 : ¬ s[a + j].toNat ≤ 57 := fun h => hd ⟨hd1, h⟩
            go_wp2
            all_goals
              have hN' := Hend.out
              refine bodyPost_ret (v := .tuple #[.int .i64 N.1, .int .i64 ((a + j : Nat) : Int), .bool N.2.2]) ?_ rfl ?_
              · rw [hN']
                simp [results, Tryz.results52, go_sem]
                first | done | omega | (rw [Bool.eq_iff_iff]; simp only [Bool.and_eq_true, decide_eq_true_eq]; omega)
              · exact ⟨a + j, by omega, haj, by rw [hN'], rfl, rfl⟩
          · go_wp2
            all_goals
              have hN' := Hend.out
              refine bodyPost_ret (v := .tuple #[.int .i64 N.1, .int .i64 ((a + j : Nat) : Int), .bool N.2.2]) ?_ rfl ?_
              · rw [hN']
                simp [results, Tryz.results52, go_sem]
                first | done | omega | (rw [Bool.eq_iff_iff]; simp only [Bool.and_eq_true, decide_eq_true_eq]; omega)
              · exact ⟨a + j, by omega, haj, by rw [hN'], rfl, rfl⟩
      · have hj7 : 7 - j = 0 := by omega
        have Hend := Lib.hid (Hfin.out (by rw [hj7]; rfl))
        go_wp2
        all_goals
          have hN' := Hend.out
          refine bodyPost_ret (v := .tuple #[.int .i64 N.1, .int .i64 ((a + j : Nat) : Int), .bool N.2.2]) ?_ rfl ?_
          · rw [hN']
            simp [results, Tryz.results52, go_sem]
            first | done | omega | (rw [Bool.eq_iff_iff]; simp only [Bool.and_eq_true, decide_eq_true_eq]; omega)
          · exact ⟨a + j, by omega, haj, by rw [hN'], rfl, rfl⟩
    · have Hend := Lib.hid (Hfin.out (by rw [List.drop_eq_nil_of_le (by rw [← Lib.size_eq]; omega)]; exact takeD_nil _ _))
      go_wp2
      all_goals
        have hN' := Hend.out
        refine bodyPost_ret (v := .tuple #[.int .i64 N.1, .int .i64 ((a + j : Nat) : Int), .bool N.2.2]) ?_ rfl ?_
        · rw [hN']
          simp [results, Tryz.results52, go_sem]
          first | done | omega | (rw [Bool.eq_iff_iff]; simp only [Bool.and_eq_true, decide_eq_true_eq]; omega)
        · exact ⟨a + j, by omega, haj, by rw [hN'], rfl, rfl⟩
end Go.Proofs.YtgbbmcfhakliiaaGreatDoor
