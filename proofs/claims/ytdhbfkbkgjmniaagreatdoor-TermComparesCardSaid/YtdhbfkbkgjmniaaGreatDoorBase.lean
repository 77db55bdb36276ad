/-
  Lists of level parts as they lie in memory, and the leaf functions of package level and of its reference that only read: what they return for every input.
  My own words; no package text.
-/
import Derived.Test.YtdhbfkbkgjmniaaGreatDoorProg
import Derived.WalkKit
import Derived.WalkLawsBesides
import Derived.LoopTactic
import Derived.OwnWalk
import Derived.Outline
import Derived.Lib.Hide
import Derived.Deep.QuietTactic
import Derived.BigQuiet
namespace Go.Proofs.YtdhbfkbkgjmniaaGreatDoor
open Go Go.RowKit

/-- The slice value v reads, below block B of world w, as the list of pairs l (two cells an element). -/
def PL (w : World) (B : Nat) (A : Option Addr) (n : Nat) (l : List (Int × Int)) : Prop :=
  l.length = n ∧ (0 < n → ∃ b off, A = some ⟨b, off, none⟩ ∧ b < B ∧ ∀ j x, l[j]? = some x → w.cell? ⟨b, off + j * 2, none⟩ = some (.int .i64 x.1) ∧ w.cell? ⟨b, off + j * 2 + 1, none⟩ = some (.int .i64 x.2))

section
variable {w w' : World} {B B' n : Nat} {A : Option Addr} {l : List (Int × Int)}
theorem PL.nil_ (A : Option Addr) : PL w B A 0 [] := ⟨rfl, fun h => absurd h (by omega)⟩
theorem PL.at_ {k : Nat} (h : PL w B A n l) (hk : k < n) : ∃ b off x, A = some ⟨b, off, none⟩ ∧ b < B ∧ l[k]? = some x ∧ w.cell? ⟨b, off + k * 2, none⟩ = some (.int .i64 x.1) ∧ w.cell? ⟨b, off + k * 2 + 1, none⟩ = some (.int .i64 x.2) := by
  obtain ⟨b, off, e, hb, hc⟩ := h.2 (by omega)
  have hl : k < l.length := by have := h.1; omega
  exact ⟨b, off, l[k], e, hb, List.getElem?_eq_getElem hl, hc k _ (List.getElem?_eq_getElem hl)⟩
theorem PL.keep (h : PL w B A n l) (hk : ∀ p : Addr, p.block < B → w'.cell? p = w.cell? p) : PL w' B A n l :=
  ⟨h.1, fun hn => by
    obtain ⟨b, off, e, hb, hc⟩ := h.2 hn
    exact ⟨b, off, e, hb, fun j x hx => ⟨(hk ⟨b, off + j * 2, none⟩ hb).trans (hc j x hx).1, (hk ⟨b, off + j * 2 + 1, none⟩ hb).trans (hc j x hx).2⟩⟩⟩
theorem PL.more (h : PL w B A n l) (hB : B ≤ B') : PL w B' A n l :=
  ⟨h.1, fun hn => by
    obtain ⟨b, off, e, hb, hc⟩ := h.2 hn
    exact ⟨b, off, e, by omega, hc⟩⟩
theorem PL.below (h : PL w B A n l) (hb : Below B w w') : PL w' B A n l := h.keep fun _ hp => hb.cell hp
end

theorem ret_int {k : IntKind} {a b : Int} (h : a = b) : Ending.returned (.int k a) = .returned (.int k b) := by rw [h]
theorem ret_bool {a b : Bool} (h : a = b) : Ending.returned (.bool a) = .returned (.bool b) := by rw [h]
theorem take_snoc {α : Type} {l : List α} {k : Nat} {x : α} (h : l[k]? = some x) : l.take (k + 1) = l.take k ++ [x] := by
  obtain ⟨hl, rfl⟩ := List.getElem?_eq_some_iff.1 h
  exact List.take_succ_eq_append_getElem hl

/-- the greatest second number, from 0 on -/
def gplus (l : List (Int × Int)) : Int := l.foldl (fun t x => if t < x.2 then x.2 else t) 0
theorem gplus_snoc (l : List (Int × Int)) (x : Int × Int) : gplus (l ++ [x]) = if gplus l < x.2 then x.2 else gplus l := by unfold gplus; rw [List.foldl_append]; rfl

set_option maxHeartbeats 400000 in
theorem greatestPlus_any (A : Option Addr) (n c : Nat) (l : List (Int × Int)) (w : World) (h : PL w w.heap.size A n l) (hn : n ≤ 9223372036854775807) :
    Calls Tryz.prog 159 #[.slice A n c] w fun e w' => e = .returned (.int .i64 (gplus l)) ∧ Below w.heap.size w w' := by
  go_enter Tryz.func159, Tryz.ntmps159
  go_wp2
  go_loopw [3, 8] (fun t i wr => ∃ k : Nat, k ≤ n ∧ i = .int .i64 k ∧ t = .int .i64 (gplus (l.take k)) ∧ Below w.heap.size w wr) (fun _ i _ => n - (intOf i).toNat)
  case atStart => exact ⟨0, Nat.zero_le _, rfl, rfl, Below.refl _ _⟩
  case round =>
    obtain ⟨k, hk, rfl, rfl, hb⟩ := hrel
    by_cases hlt : k < n
    · obtain ⟨b, off, x, rfl, hbl, hx, h0, h1⟩ := (h.below hb).at_ hlt
      go_wp2
      go_roundw
      case rel => exact ⟨k + 1, by omega, by go_num, by rw [take_snoc hx, gplus_snoc], hb.alloc hb.size _⟩
      case measure => simp [intOf]; omega
    · go_wp2
      have : l.take k = l := List.take_of_length_le (by have := h.1; omega)
      go_ret
      exact ⟨ret_int (by rw [this]), hb⟩

/-- 'within', in one word -/
def wi (n g : Int) : Bool := decide (0 ≤ n ∧ n ≤ g)
theorem within_any (n g : Int) (w : World) : Calls Tryz.prog 153 #[.int .i64 n, .int .i64 g] w fun e w' => e = .returned (.bool (wi n g)) ∧ w = w' := by
  by_cases h0 : 0 ≤ n <;> by_cases h1 : n ≤ g
  all_goals
    have hw : wi n g = decide (0 ≤ n ∧ n ≤ g) := rfl
    generalize wi n g = r at hw ⊢
    go_enter Tryz.func153, Tryz.ntmps153
    go_wp2
    go_ret
    exact ⟨ret_bool (by simp_all), rfl⟩

/-- has some pair the first number v? -/
def hasv (l : List (Int × Int)) (v : Int) : Bool := l.any fun x => x.1 == v

theorem hasv_snoc (l : List (Int × Int)) (x : Int × Int) (v : Int) : hasv (l ++ [x]) v = (hasv l v || x.1 == v) := by simp [hasv]
/-- the place of the first pair with the first number v, or -1 -/
def idxv (l : List (Int × Int)) (v : Int) : Int := if hasv l v then (l.findIdx fun x => x.1 == v : Nat) else -1
theorem idxv_pos (l : List (Int × Int)) (v : Int) : decide (0 ≤ idxv l v) = hasv l v := by
  unfold idxv; cases hasv l v <;> simp
theorem idxv_none {l : List (Int × Int)} {v : Int} (h : hasv l v = false) : idxv l v = -1 := by simp [idxv, h]
theorem idxv_some {l : List (Int × Int)} {v : Int} {k : Nat} {x : Int × Int} (h0 : hasv (l.take k) v = false) (hx : l[k]? = some x) (h : (x.1 == v) = true) : idxv l v = k := by
  obtain ⟨hk, rfl⟩ := List.getElem?_eq_some_iff.1 hx
  have h1 : hasv l v = true := by simp only [hasv, List.any_eq_true]; exact ⟨l[k], List.getElem_mem hk, h⟩
  have h2 : (l.findIdx fun x => x.1 == v) = k := by
    rw [List.findIdx_eq hk]
    refine ⟨h, fun j hj => ?_⟩
    have := List.any_eq_false.1 h0 (l[j]'(by omega)) (by rw [List.mem_take_iff_getElem]; exact ⟨j, by omega, rfl⟩)
    simpa using this
  rw [idxv, if_pos h1, h2]

set_option maxHeartbeats 400000 in
theorem indexFunc_any (A : Option Addr) (n c : Nat) (l : List (Int × Int)) (v : Int) (bv : Nat) (w : World) (h : PL w w.heap.size A n l) (hn : n ≤ 9223372036854775807) (hbv : bv < w.heap.size) (hv : w.cell? ⟨bv, 0, none⟩ = some (.int .i64 v)) :
    Calls Tryz.prog 218 #[.slice A n c, .func (.func 188) #[] #[.pointer (some ⟨bv, 0, none⟩)]] w fun e w' => e = .returned (.int .i64 (idxv l v)) ∧ Below w.heap.size w w' := by
  go_enter Tryz.func218, Tryz.ntmps218
  go_wp2
  go_loopw [8] (fun i wr => ∃ k : Nat, k ≤ n ∧ i = .int .i64 k ∧ hasv (l.take k) v = false ∧ Below w.heap.size w wr) (fun i _ => n - (intOf i).toNat)
  case atStart => exact ⟨0, Nat.zero_le _, rfl, rfl, Below.refl _ _⟩
  case round =>
    obtain ⟨k, hk, rfl, hno, hb⟩ := hrel
    have Hno := Lib.hid hno; clear hno
    by_cases hlt : k < n
    · obtain ⟨b, off, x, rfl, hbl, hx, h0, h1⟩ := (h.below hb).at_ hlt
      have hvr : wr.cell? ⟨bv, 0, none⟩ = some (.int .i64 v) := (hb.cell (p := ⟨bv, 0, none⟩) hbv).trans hv
      have hbw : bv < wr.heap.size := Nat.lt_of_lt_of_le hbv hb.size
      have hbn : bv ≠ wr.heap.size := by omega
      by_cases he : x.1 = v
      · have hd : (x.1 == v) = true := by simp [he]
        have Hi : Hid (idxv l v = k) := idxv_some Hno.out hx hd
        go_wp2
        go_ret
        exact ⟨ret_int Hi.out.symm, hb.alloc hb.size _⟩
      · have hd : (x.1 == v) = false := by simp [he]
        have Hi : Hid (hasv (l.take (k + 1)) v = false) := by rw [Hid, take_snoc hx, hasv_snoc, Hno.out, hd]; rfl
        go_wp2
        go_roundw
        case rel => exact ⟨k + 1, by omega, by go_num, Hi.out, hb.alloc hb.size _⟩
        case measure => simp [intOf]; omega
    · have Hi : Hid (idxv l v = -1) := idxv_none (by rw [← Hno.out, List.take_of_length_le (by have := h.1; omega)])
      go_wp2
      go_ret
      exact ⟨ret_int Hi.out.symm, hb⟩

set_option maxHeartbeats 400000 in
theorem has_any (A : Option Addr) (n c : Nat) (l : List (Int × Int)) (v : Int) (w : World) (h : PL w w.heap.size A n l) (hn : n ≤ 9223372036854775807) :
    Calls Tryz.prog 154 #[.slice A n c, .int .i64 v] w fun e w' => e = .returned (.bool (hasv l v)) ∧ Below w.heap.size w w' := by
  have hcon := indexFunc_any A n c l v w.heap.size (w.alloc (.cells #[.int .i64 v] 3)) (((h.keep (w' := w.alloc (.cells #[.int .i64 v] 3)) fun p hp => World.cell?_alloc_lt w _ p hp)).more (by simp)) hn (by simp) (by simp)
  go_enter Tryz.func154, Tryz.ntmps154
  go_wp2_with (first | (go_at_call 218; refine hcon.mono ?_; rintro e w' ⟨rfl, hb'⟩) | go_in)
  go_ret
  exact ⟨ret_bool (idxv_pos l v), ((Below.refl _ w).alloc (Nat.le_refl _) _).trans (hb'.mono (by simp))⟩
end Go.Proofs.YtdhbfkbkgjmniaaGreatDoor
