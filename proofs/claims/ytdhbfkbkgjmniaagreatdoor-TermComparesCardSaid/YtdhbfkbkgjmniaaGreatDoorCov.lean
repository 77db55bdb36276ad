/-
  'covers' of package level, 'least' of its reference: what they return for every input.
-/
import Derived.Test.YtdhbfkbkgjmniaaGreatDoorVld
namespace Go.Proofs.YtdhbfkbkgjmniaaGreatDoor
open Go Go.RowKit

/-- some pair of l is at least x -/
def cov (l : List (Int × Int)) (x : Int × Int) : Bool := l.any fun y => y.1 == x.1 && decide (x.2 ≤ y.2)
theorem cov_snoc (l : List (Int × Int)) (x y : Int × Int) : cov (l ++ [y]) x = (cov l x || (y.1 == x.1 && decide (x.2 ≤ y.2))) := by simp [cov]
theorem cov_of {l : List (Int × Int)} {x y : Int × Int} {k : Nat} (hy : l[k]? = some y) (h : (y.1 == x.1 && decide (x.2 ≤ y.2)) = true) : cov l x = true := by
  obtain ⟨q, rfl⟩ := List.getElem?_eq_some_iff.1 hy
  exact List.any_eq_true.2 ⟨_, List.getElem_mem q, h⟩

set_option maxRecDepth 100000 in
set_option maxHeartbeats 1000000 in
theorem covers_any (A : Option Addr) (n c : Nat) (l : List (Int × Int)) (x : Int × Int) (w : World) (h : PL w w.heap.size A n l) (hn : n ≤ 9223372036854775807) :
    Calls Tryz.prog 216 #[.slice A n c, .agg #[.int .i64 x.1, .int .i64 x.2]] w fun e w' => e = .returned (.bool (cov l x)) ∧ Below w.heap.size w w' := by
  go_enter Tryz.func216, Tryz.ntmps216
  go_wp2
  go_loopw [9] (fun i wr => ∃ k : Nat, k ≤ n ∧ i = .int .i64 k ∧ cov (l.take k) x = false ∧ Below (w.heap.size + 1) (w.alloc (.cells #[.int .i64 x.1, .int .i64 x.2] 66)) wr) (fun i _ => n - (intOf i).toNat)
  case atStart => exact ⟨0, Nat.zero_le _, rfl, rfl, Below.refl _ _⟩
  case round =>
    obtain ⟨k, hk, rfl, hno, hb⟩ := hrel
    have Hno := Lib.hid hno; clear hno
    have hx0 : wr.cell? ⟨w.heap.size, 0, none⟩ = some (.int .i64 x.1) := (hb.cell (p := ⟨w.heap.size, 0, none⟩) (by simp)).trans (by simp)
    have hx1 : wr.cell? ⟨w.heap.size, 1, none⟩ = some (.int .i64 x.2) := (hb.cell (p := ⟨w.heap.size, 1, none⟩) (by simp)).trans (by simp)
    have hsz : w.heap.size + 1 ≤ wr.heap.size := by simpa using hb.size
    have hne : w.heap.size ≠ wr.heap.size := by omega
    have hlt0 : w.heap.size < wr.heap.size := by omega
    have h' : PL wr w.heap.size A n l := h.keep fun p hp => (hb.cell (p := p) (by omega)).trans (World.cell?_alloc_lt w _ p hp)
    by_cases hlt : k < n
    · obtain ⟨b, off, y, rfl, hbl, hy, hy0, hy1⟩ := h'.at_ hlt
      by_cases he : y.1 = x.1
      · have hd : (y.1 == x.1) = true := by simp [he]
        by_cases hg : x.2 ≤ y.2
        · have Hf : Hid (cov l x = true) := cov_of hy (by simp [hd, hg])
          clear he
          go_wp2
          go_ret
          exact ⟨ret_bool Hf.out.symm, back hb _⟩
        · have Hs : Hid (cov (l.take (k + 1)) x = false) := by rw [Hid, take_snoc hy, cov_snoc, Hno.out]; simp [hg]
          clear he
          go_wp2
          go_roundw
          case rel => exact ⟨k + 1, by omega, by go_num, Hs.out, hb.alloc hsz _⟩
          case measure => simp [intOf]; omega
      · have hd : (y.1 == x.1) = false := by simp [he]
        have Hs : Hid (cov (l.take (k + 1)) x = false) := by rw [Hid, take_snoc hy, cov_snoc, Hno.out, hd]; rfl
        clear he
        go_wp2
        go_roundw
        case rel => exact ⟨k + 1, by omega, by go_num, Hs.out, hb.alloc hsz _⟩
        case measure => simp [intOf]; omega
    · have Hf : Hid (cov l x = false) := by
        have : l.take k = l := List.take_of_length_le (by have := h.1; omega)
        rw [← this]; exact Hno.out
      go_wp2
      go_ret
      exact ⟨ret_bool Hf.out.symm, back0 hb⟩

/-- the value of a level at 0 -/
def lst (c : Int) (l : List (Int × Int)) : Int := l.foldl (fun t x => if t < x.2 then x.2 else t) c
theorem lst_snoc (c : Int) (l : List (Int × Int)) (x : Int × Int) : lst c (l ++ [x]) = if lst c l < x.2 then x.2 else lst c l := by unfold lst; rw [List.foldl_append]; rfl

set_option maxHeartbeats 400000 in
theorem least_any (c : Int) (A : Option Addr) (n cap : Nat) (l : List (Int × Int)) (w : World) (h : PL w w.heap.size A n l) (hn : n ≤ 9223372036854775807) :
    Calls Tryz.prog 217 #[.agg #[.int .i64 c, .slice A n cap]] w fun e w' => e = .returned (.int .i64 (lst c l)) ∧ Below w.heap.size w w' := by
  go_enter Tryz.func217, Tryz.ntmps217
  go_wp2
  have hw0 : (w.alloc (.cells #[.int .i64 c, .slice A n cap] 34)).cell? ⟨w.heap.size, 1, none⟩ = some (.slice A n cap) := by simp
  have h0 : PL (w.alloc (.cells #[.int .i64 c, .slice A n cap] 34)) w.heap.size A n l := h.keep fun p hp => World.cell?_alloc_lt w _ p hp
  have hb0 : Below w.heap.size w (w.alloc (.cells #[.int .i64 c, .slice A n cap] 34)) := (Below.refl _ _).alloc (Nat.le_refl _) _
  generalize w.alloc (.cells #[.int .i64 c, .slice A n cap] 34) = W at *
  go_loop [3, 4] (fun t i => ∃ k : Nat, k ≤ n ∧ i = .int .i64 k ∧ t = .int .i64 (lst c (l.take k))) (fun _ i => n - (intOf i).toNat)
  case atStart => exact ⟨0, Nat.zero_le _, rfl, rfl⟩
  case round =>
    obtain ⟨k, hk, rfl, rfl⟩ := hrel
    by_cases hlt : k < n
    · obtain ⟨b, off, x, rfl, hbl, hx, hx0, hx1⟩ := h0.at_ hlt
      go_wp2
      go_round
      case rel => exact ⟨k + 1, by omega, by go_num, by rw [take_snoc hx, lst_snoc]⟩
      case measure => simp [intOf]; omega
    · have : l.take k = l := List.take_of_length_le (by have := h.1; omega)
      go_wp2
      go_ret
      exact ⟨rfl, hb0⟩
end Go.Proofs.YtdhbfkbkgjmniaaGreatDoor
