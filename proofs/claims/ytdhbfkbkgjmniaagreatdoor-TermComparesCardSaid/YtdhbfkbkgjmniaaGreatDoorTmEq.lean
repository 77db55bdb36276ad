/-
  Levels compared field by field, and as the chapter says, by both sides.
-/
import Derived.Test.YtdhbfkbkgjmniaaGreatDoorTmN
import Derived.Test.YtdhbfkbkgjmniaaGreatDoorEq
import Derived.Deep.QuietTactic
import Derived.Test.YtdhbfkbkgjmniaaGreatDoorBel
import Derived.Deep.DeepCutAuto
import Derived.Laws.Rows
namespace Go.Proofs.YtdhbfkbkgjmniaaGreatDoor
open Go Go.RowKit

section
variable {α : Type} {l r : List α} {n m k : Nat} {x y : α}
theorem qeq_take [DecidableEq α] (hl : l.length = n) (hr : r.length = n) (h : l.take k = r.take k) (hk : n ≤ k) : decide (l = r) = true := by
  rw [List.take_of_length_le (by omega), List.take_of_length_le (by omega)] at h
  exact decide_eq_true h
theorem qeq_take_succ (h : l.take k = r.take k) (hx : l[k]? = some x) (hy : r[k]? = some x) : l.take (k + 1) = r.take (k + 1) := by
  rw [take_snoc hx, take_snoc hy, h]
theorem qeq_at_ne [DecidableEq α] (hx : l[k]? = some x) (hy : r[k]? = some y) (h : x ≠ y) : decide (l = r) = false :=
  decide_eq_false fun e => h (by rw [e, hy] at hx; exact (Option.some.inj hx).symm)
theorem qeq_len_ne [DecidableEq α] (hl : l.length = n) (hr : r.length = m) (h : n ≠ m) : decide (l = r) = false :=
  decide_eq_false fun e => h (by rw [← hl, ← hr, e])
end

set_option maxRecDepth 100000 in
set_option maxHeartbeats 4000000 in
theorem equalV_any (A : Option Addr) (n capA : Nat) (B : Option Addr) (m capB : Nat) (l r : List (Int × Int)) (w : World) (ha : PL w w.heap.size A n l) (hb : PL w w.heap.size B m r) (hn : n ≤ 9223372036854775807) (hm : m ≤ 9223372036854775807) :
    Calls Tryz.prog 185 #[.slice A n capA, .slice B m capB] w fun e w' => e = .returned (.bool (decide (l = r))) ∧ Below w.heap.size w w' := by
  by_cases hnm : n = m
  · subst hnm
    go_enter Tryz.func185, Tryz.ntmps185
    go_wp2_with fail
    go_loopw [13] (fun i wr => ∃ k : Nat, k ≤ n ∧ i = .int .i64 k ∧ l.take k = r.take k ∧ Below w.heap.size w wr) (fun i _ => n - (intOf i).toNat)
    case atStart => exact ⟨0, Nat.zero_le _, rfl, by simp, Below.refl _ _⟩
    case round =>
      obtain ⟨k, hk, rfl, htk, hbr⟩ := hrel
      have Htk := Lib.hid htk
      clear htk
      by_cases hlt : k < n
      · have hki : (k : Int) < (n : Int) := by omega
        obtain ⟨b, off, x, rfl, hbl, hx, hx0, hx1⟩ := (ha.below hbr).at_ hlt
        obtain ⟨b2, off2, y, rfl, hbl2, hy, hy0, hy1⟩ := (hb.below hbr).at_ hlt
        by_cases hxy : x = y
        · subst hxy
          have Hn := Lib.hid (qeq_take_succ Htk.out hx hy)
          clear hx hy
          go_wp2_with fail
          go_quiet (fail)
          go_wp2_with fail
          go_roundw
          case rel => exact ⟨k + 1, by omega, by go_num, Hn.out, below_drewN hbr _⟩
          case measure => simp [intOf]; omega
        · have Hn := Lib.hid (qeq_at_ne hx hy hxy)
          obtain ⟨x0, x1⟩ := x
          obtain ⟨y0, y1⟩ := y
          clear hx hy
          by_cases e0 : x0 = y0
          · subst e0
            have e1 : ¬ x1 = y1 := fun e => hxy (by rw [e])
            have e2 : (x1 == y1) = false := beq_eq_false_iff_ne.2 e1
            go_wp2_with fail
            go_quiet (fail)
            go_wp2_with fail
            go_ret
            exact ⟨ret_bool Hn.out.symm, below_drewN hbr _⟩
          · have e2 : (x0 == y0) = false := beq_eq_false_iff_ne.2 e0
            go_wp2_with fail
            go_quiet (fail)
            go_wp2_with fail
            go_ret
            exact ⟨ret_bool Hn.out.symm, below_drewN hbr _⟩
      · obtain rfl : k = n := by omega
        have hkk : ¬ (k : Int) < (k : Int) := by omega
        have Hn := Lib.hid (qeq_take ha.1 hb.1 Htk.out (Nat.le_refl _))
        go_wp2_with fail
        go_ret
        exact ⟨ret_bool Hn.out.symm, hbr⟩
  · have Hn := Lib.hid (qeq_len_ne ha.1 hb.1 hnm)
    have hnm2 : ¬ (n : Int) = (m : Int) := by omega
    go_enter Tryz.func185, Tryz.ntmps185
    go_wp2_with fail
    go_ret
    exact ⟨ret_bool Hn.out.symm, Below.refl _ _⟩

/-- the cells of two boxes of levels, in every later world -/
theorem lbox {w W : World} {a0 a1 b0 b1 : Value} {ty : TypeId} (h : Below (w.heap.size + 2) ((w.alloc (.cells #[a0, a1] ty)).alloc (.cells #[b0, b1] ty)) W) :
    (W.cell? ⟨w.heap.size, 0, none⟩ = some a0 ∧ W.cell? ⟨w.heap.size, 1, none⟩ = some a1 ∧ W.cell? ⟨w.heap.size + 1, 0, none⟩ = some b0 ∧ W.cell? ⟨w.heap.size + 1, 1, none⟩ = some b1) ∧ w.heap.size + 2 ≤ W.heap.size ∧ Below w.heap.size w W := by
  have hh : ((w.alloc (.cells #[a0, a1] ty)).alloc (.cells #[b0, b1] ty)).heap[w.heap.size]? = some (.cells #[a0, a1] ty) ∧ ((w.alloc (.cells #[a0, a1] ty)).alloc (.cells #[b0, b1] ty)).heap[w.heap.size + 1]? = some (.cells #[b0, b1] ty) := by
    constructor
    · show ((w.heap.push _).push _)[w.heap.size]? = _
      rw [Array.getElem?_push_lt (by simp), Array.getElem_push_eq]
    · show ((w.heap.push _).push _)[w.heap.size + 1]? = _
      rw [show w.heap.size + 1 = (w.heap.push (.cells #[a0, a1] ty)).size by simp, Array.getElem?_push_size]
  have e1 := (h.block w.heap.size (by omega)).trans hh.1
  have e2 := (h.block (w.heap.size + 1) (by omega)).trans hh.2
  have hs := h.size
  simp at hs
  refine ⟨⟨?_, ?_, ?_, ?_⟩, hs, (((Below.refl w.heap.size w).alloc (Nat.le_refl _) _).alloc (by simp) _).trans (h.mono (by omega))⟩
  · simp only [World.cell?, e1]; rfl
  · simp only [World.cell?, e1]; rfl
  · simp only [World.cell?, e2]; rfl
  · simp only [World.cell?, e2]; rfl

/-- levels compared field by field -/
def lvD (a b : Lv) : Bool := decide (a = b)
set_option maxRecDepth 100000 in
set_option maxHeartbeats 4000000 in
theorem eqLevelB_any (ca : Int) (A : Option Addr) (n capA : Nat) (l : List (Int × Int)) (cb : Int) (B : Option Addr) (m capB : Nat) (r : List (Int × Int)) (w : World) (ha : PL w w.heap.size A n l) (hb : PL w w.heap.size B m r) (hn : n ≤ 9223372036854775807) (hm : m ≤ 9223372036854775807) :
    Calls Tryz.prog 113 #[.agg #[.int .i64 ca, .slice A n capA], .agg #[.int .i64 cb, .slice B m capB]] w fun e w' => e = .returned (.bool (lvD (ca, l) (cb, r))) ∧ Below w.heap.size w w' := by
  have hB := ((Below.refl w.heap.size w).alloc (Nat.le_refl _) (.cells #[.int .i64 ca, .slice A n capA] 34)).alloc (by simp) (.cells #[.int .i64 cb, .slice B m capB] 34)
  by_cases hc : ca = cb
  · subst hc
    by_cases hnm : n = m
    · subst hnm
      have HD : Hid (lvD (ca, l) (ca, r) = decide (l = r)) := Lib.hid (by unfold lvD; simp)
      generalize lvD (ca, l) (ca, r) = q at HD ⊢
      go_enter Tryz.func113, Tryz.ntmps113
      go_wp2_with fail
      go_loopw [5] (fun i wr => ∃ k : Nat, k ≤ n ∧ i = .int .i64 k ∧ l.take k = r.take k ∧ Below (w.heap.size + 2) ((w.alloc (.cells #[.int .i64 ca, .slice A n capA] 34)).alloc (.cells #[.int .i64 ca, .slice B n capB] 34)) wr) (fun i _ => n - (intOf i).toNat)
      case atStart => exact ⟨0, Nat.zero_le _, rfl, by simp, Below.refl _ _⟩
      case round =>
        obtain ⟨k, hk, rfl, htk, hbr⟩ := hrel
        obtain ⟨⟨g1, g2, g3, g4⟩, hsr, hbwr⟩ := lbox hbr
        have Htk := Lib.hid htk
        clear htk
        by_cases hlt : k < n
        · have hki : (k : Int) < (n : Int) := by omega
          obtain ⟨b, off, x, rfl, hbl, hx, hx0, hx1⟩ := (ha.below hbwr).at_ hlt
          obtain ⟨b2, off2, y, rfl, hbl2, hy, hy0, hy1⟩ := (hb.below hbwr).at_ hlt
          by_cases hxy : x = y
          · subst hxy
            have Hn := Lib.hid (qeq_take_succ Htk.out hx hy)
            clear hx hy
            go_wp2_with fail
            go_quiet (fail)
            go_wp2_with fail
            go_roundw
            case rel => exact ⟨k + 1, by omega, by go_num, Hn.out, below_drewN hbr _⟩
            case measure => simp [intOf]; omega
          · have Hn : Hid (q = false) := Lib.hid (by rw [HD.out]; exact qeq_at_ne hx hy hxy)
            obtain ⟨x0, x1⟩ := x
            obtain ⟨y0, y1⟩ := y
            clear hx hy
            by_cases e0 : x0 = y0
            · subst e0
              have e1 : ¬ x1 = y1 := fun e => hxy (by rw [e])
              have e2 : (x1 == y1) = false := beq_eq_false_iff_ne.2 e1
              go_wp2_with fail
              go_quiet (fail)
              go_wp2_with fail
              go_ret
              exact ⟨ret_bool Hn.out.symm, below_drewN hbwr _⟩
            · have e2 : (x0 == y0) = false := beq_eq_false_iff_ne.2 e0
              go_wp2_with fail
              go_quiet (fail)
              go_wp2_with fail
              go_ret
              exact ⟨ret_bool Hn.out.symm, below_drewN hbwr _⟩
        · obtain rfl : k = n := by omega
          have hkk : ¬ (k : Int) < (k : Int) := by omega
          have Hn : Hid (q = true) := Lib.hid (by rw [HD.out]; exact qeq_take ha.1 hb.1 Htk.out (Nat.le_refl _))
          go_wp2_with fail
          go_ret
          exact ⟨ret_bool Hn.out.symm, hbwr⟩
    · have Hn : Hid (lvD (ca, l) (ca, r) = false) := Lib.hid (decide_eq_false fun e => by cases e; exact hnm (ha.1.symm.trans hb.1))
      generalize lvD (ca, l) (ca, r) = q at Hn ⊢
      have hnm2 : ¬ (n : Int) = (m : Int) := by omega
      go_enter Tryz.func113, Tryz.ntmps113
      go_wp2_with fail
      go_ret
      exact ⟨ret_bool Hn.out.symm, hB⟩
  · have Hn : Hid (lvD (ca, l) (cb, r) = false) := Lib.hid (decide_eq_false fun e => by cases e; exact hc rfl)
    generalize lvD (ca, l) (cb, r) = q at Hn ⊢
    have e2 : (ca == cb) = false := beq_eq_false_iff_ne.2 hc
    go_enter Tryz.func113, Tryz.ntmps113
    go_wp2_with fail
    go_ret
    exact ⟨ret_bool Hn.out.symm, hB⟩

set_option maxRecDepth 100000 in
set_option maxHeartbeats 4000000 in
theorem sameFields_any (ca : Int) (A : Option Addr) (n capA : Nat) (l : List (Int × Int)) (cb : Int) (B : Option Addr) (m capB : Nat) (r : List (Int × Int)) (w : World) (ha : PL w w.heap.size A n l) (hb : PL w w.heap.size B m r) (hn : n ≤ 9223372036854775807) (hm : m ≤ 9223372036854775807) :
    Calls Tryz.prog 151 #[.agg #[.int .i64 ca, .slice A n capA], .agg #[.int .i64 cb, .slice B m capB]] w fun e w' => e = .returned (.bool (lvD (ca, l) (cb, r))) ∧ Below w.heap.size w w' := by
  have hB := ((Below.refl w.heap.size w).alloc (Nat.le_refl _) (.cells #[.int .i64 ca, .slice A n capA] 34)).alloc (by simp) (.cells #[.int .i64 cb, .slice B m capB] 34)
  by_cases hc : ca = cb
  · subst hc
    have HD : Hid (lvD (ca, l) (ca, r) = decide (l = r)) := Lib.hid (by unfold lvD; simp)
    generalize lvD (ca, l) (ca, r) = q at HD ⊢
    have HE := Lib.hid (equalV_any A n capA B m capB l r _ ((ha.below hB).more hB.size) ((hb.below hB).more hB.size) hn hm)
    go_enter Tryz.func151, Tryz.ntmps151
    go_wp2_with fail
    with_reducible refine HE.out.mono ?_
    rintro e w1 ⟨rfl, hb1⟩
    go_wp2_with fail
    go_ret
    exact ⟨ret_bool HD.out.symm, hB.trans (hb1.mono hB.size)⟩
  · have Hn : Hid (lvD (ca, l) (cb, r) = false) := Lib.hid (decide_eq_false fun e => by cases e; exact hc rfl)
    generalize lvD (ca, l) (cb, r) = q at Hn ⊢
    have e2 : (ca == cb) = false := beq_eq_false_iff_ne.2 hc
    go_enter Tryz.func151, Tryz.ntmps151
    go_wp2_with fail
    go_ret
    exact ⟨ret_bool Hn.out.symm, hB⟩

/-- levels compared as the chapter says -/
noncomputable def lvB (a b : Lv) : Bool := if vld a.1 a.2 && vld b.1 b.2 then eqv a.1 a.2 b.1 b.2 else lvD a b
set_option maxRecDepth 100000 in
set_option maxHeartbeats 4000000 in
theorem sameLevel_any (ca : Int) (A : Option Addr) (n capA : Nat) (l : List (Int × Int)) (cb : Int) (B : Option Addr) (m capB : Nat) (r : List (Int × Int)) (w : World) (ha : PL w w.heap.size A n l) (hn : n ≤ capA) (hca : capA ≤ 9223372036854775807) (hb : PL w w.heap.size B m r) (hm : m ≤ capB) (hcb : capB ≤ 9223372036854775807) :
    Calls Tryz.prog 99 #[.agg #[.int .i64 ca, .slice A n capA], .agg #[.int .i64 cb, .slice B m capB]] w fun e w' => e = .returned (.bool (lvB (ca, l) (cb, r))) ∧ Below w.heap.size w w' := by
  have hB := lbox (w := w) (a0 := .int .i64 ca) (a1 := .slice A n capA) (b0 := .int .i64 cb) (b1 := .slice B m capB) (ty := 34) (Below.refl _ _)
  have HL : Hid (∀ W, Below w.heap.size w W → PL W W.heap.size A n l ∧ PL W W.heap.size B m r) := Lib.hid fun W hW => ⟨(ha.below hW).more hW.size, (hb.below hW).more hW.size⟩
  have HD : Hid (lvB (ca, l) (cb, r) = if vld ca l && vld cb r then eqv ca l cb r else lvD (ca, l) (cb, r)) := Lib.hid rfl
  generalize lvB (ca, l) (cb, r) = q at HD ⊢
  have hb0 := hB.2.2
  have HV := Lib.hid (valid_any ca A n capA l _ (HL.out _ hb0).1 hn hca)
  clear ha hb
  have key : ∀ W, Below (w.heap.size + 2) ((w.alloc (.cells #[.int .i64 ca, .slice A n capA] 34)).alloc (.cells #[.int .i64 cb, .slice B m capB] 34)) W → (W.cell? ⟨w.heap.size, 0, none⟩ = some (.int .i64 ca) ∧ W.cell? ⟨w.heap.size, 1, none⟩ = some (.slice A n capA) ∧ W.cell? ⟨w.heap.size + 1, 0, none⟩ = some (.int .i64 cb) ∧ W.cell? ⟨w.heap.size + 1, 1, none⟩ = some (.slice B m capB)) ∧ w.heap.size + 2 ≤ W.heap.size ∧ Below w.heap.size w W := fun W hW => lbox hW
  have Key := Lib.hid key
  clear key hB
  have hsz : ((w.alloc (.cells #[.int .i64 ca, .slice A n capA] 34)).alloc (.cells #[.int .i64 cb, .slice B m capB] 34)).heap.size = w.heap.size + 2 := by simp
  have Hsz := Lib.hid hsz
  clear hsz
  go_enter Tryz.func99, Tryz.ntmps99
  go_wp2_with fail
  with_reducible refine HV.out.mono ?_
  clear HV
  rintro e w1 ⟨rfl, hb1⟩
  rw [Hsz.out] at hb1
  obtain ⟨⟨g1, g2, g3, g4⟩, hs1, hbw1⟩ := Key.out w1 hb1
  have tail : ∀ W, Below w.heap.size w W → (∃ _ : Unit, True) → Calls Tryz.prog 151 #[.agg #[.int .i64 ca, .slice A n capA], .agg #[.int .i64 cb, .slice B m capB]] W fun e w' => e = .returned (.bool (lvD (ca, l) (cb, r))) ∧ Below W.heap.size W w' := fun W hW _ => sameFields_any ca A n capA l cb B m capB r W (HL.out W hW).1 (HL.out W hW).2 (by omega) (by omega)
  have Tail := Lib.hid tail
  clear tail
  cases hva : vld ca l
  · have hq : q = lvD (ca, l) (cb, r) := by rw [HD.out, hva]; rfl
    have HF := Lib.hid (Tail.out w1 hbw1 ⟨(), trivial⟩)
    have Hq := Lib.hid hq
    clear hq
    go_wp2_with fail
    refine HF.out.mono ?_
    rintro e w2 ⟨rfl, hb2⟩
    go_wp2_with fail
    go_ret
    exact ⟨ret_bool Hq.out.symm, hbw1.trans (hb2.mono hbw1.size)⟩
  · have HV2 := Lib.hid (valid_any cb B m capB r w1 (HL.out _ hbw1).2 hm hcb)
    go_wp2_with fail
    refine HV2.out.mono ?_
    clear HV2
    rintro e w2 ⟨rfl, hb2⟩
    have hb02 := hb1.trans (hb2.mono hs1)
    obtain ⟨⟨g1, g2, g3, g4⟩, hs2, hbw2⟩ := Key.out w2 hb02
    cases hvb : vld cb r
    · have hq : q = lvD (ca, l) (cb, r) := by rw [HD.out, hva, hvb]; rfl
      have HF := Lib.hid (Tail.out w2 hbw2 ⟨(), trivial⟩)
      have Hq := Lib.hid hq
      clear hq
      go_wp2_with fail
      refine HF.out.mono ?_
      rintro e w3 ⟨rfl, hb3⟩
      go_wp2_with fail
      go_ret
      exact ⟨ret_bool Hq.out.symm, hbw2.trans (hb3.mono hbw2.size)⟩
    · have hq : q = eqv ca l cb r := by rw [HD.out, hva, hvb]; rfl
      have HF := Lib.hid (equal_any ca A n capA l cb B m capB r w2 (HL.out _ hbw2).1 hn hca (HL.out _ hbw2).2 hm hcb)
      have Hq := Lib.hid hq
      clear hq
      go_wp2_with fail
      refine HF.out.mono ?_
      rintro e w3 ⟨rfl, hb3⟩
      go_wp2_with fail
      go_ret
      exact ⟨ret_bool Hq.out.symm, hbw2.trans (hb3.mono hbw2.size)⟩

/-- lists of levels compared -/
noncomputable def usB : List Lv → List Lv → Bool
  | [], [] => true
  | a :: u, b :: v => lvB a b && usB u v
  | _, _ => false
theorem usB_len {u v : List Lv} (h : u.length ≠ v.length) : usB u v = false := by
  induction u generalizing v with
  | nil => cases v with
    | nil => exact absurd rfl h
    | cons b v => rfl
  | cons a u ih => cases v with
    | nil => rfl
    | cons b v => simp only [usB]; rw [ih (by simpa using h), Bool.and_false]
theorem usB_bad {u v : List Lv} {k : Nat} {x y : Lv} (hx : u[k]? = some x) (hy : v[k]? = some y) (h : lvB x y = false) : usB u v = false := by
  induction u generalizing v k with
  | nil => simp at hx
  | cons a u ih => cases v with
    | nil => rfl
    | cons b v =>
      cases k with
      | zero => simp at hx hy; subst hx; subst hy; simp [usB, h]
      | succ k => simp at hx hy; simp [usB, ih hx hy]
theorem usB_ok {u v : List Lv} (hl : u.length = v.length) (h : ∀ (k : Nat) x y, u[k]? = some x → v[k]? = some y → lvB x y = true) : usB u v = true := by
  induction u generalizing v with
  | nil => cases v with
    | nil => rfl
    | cons b v => simp at hl
  | cons a u ih => cases v with
    | nil => simp at hl
    | cons b v =>
      simp only [usB]
      rw [h 0 a b rfl rfl, ih (by simpa using hl) (fun k x y hx hy => h (k + 1) x y (by simpa using hx) (by simpa using hy))]
      rfl
/-- the first k levels are pairwise the same -/
def UpTo (u v : List Lv) (k : Nat) : Prop := ∀ (j : Nat) x y, j < k → u[j]? = some x → v[j]? = some y → lvB x y = true
theorem UpTo.next {u v : List Lv} {k : Nat} {x y : Lv} (h : UpTo u v k) (hx : u[k]? = some x) (hy : v[k]? = some y) (hxy : lvB x y = true) : UpTo u v (k + 1) := fun j a b hj ha hb => by
  by_cases e : j = k
  · subst e
    rw [hx] at ha
    rw [hy] at hb
    cases ha; cases hb; exact hxy
  · exact h j a b (by omega) ha hb
theorem UpTo.all {u v : List Lv} {n : Nat} (h : UpTo u v n) (hu : u.length = n) (hv : v.length = n) : usB u v = true :=
  usB_ok (by omega) fun k x y hx hy => h k x y (by have := (List.getElem?_eq_some_iff.1 hx).1; omega) hx hy

set_option maxRecDepth 100000 in
set_option maxHeartbeats 4000000 in
theorem equalFunc_any (A : Option Addr) (n capA : Nat) (B : Option Addr) (m capB : Nat) (u v : List Lv) (w : World) (ha : LvL w w.heap.size A n u) (hb : LvL w w.heap.size B m v) (hn : n ≤ 9223372036854775807) (hm : m ≤ 9223372036854775807) :
    Calls Tryz.prog 98 #[.slice A n capA, .slice B m capB, .func (.func 99) #[] #[]] w fun e w' => e = .returned (.bool (usB u v)) ∧ Below w.heap.size w w' := by
  by_cases hnm : n = m
  · subst hnm
    have Hall : Hid (UpTo u v n → usB u v = true) := Lib.hid fun h => h.all ha.1 hb.1
    have Hbad : Hid (∀ (k : Nat) x y, u[k]? = some x → v[k]? = some y → lvB x y = false → usB u v = false) := Lib.hid fun k x y hx hy h => usB_bad hx hy h
    generalize usB u v = q at Hall Hbad ⊢
    go_enter Tryz.func98, Tryz.ntmps98
    go_wp2_with fail
    go_loopw [17] (fun i wr => ∃ k : Nat, k ≤ n ∧ i = .int .i64 k ∧ UpTo u v k ∧ Below w.heap.size w wr) (fun i _ => n - (intOf i).toNat)
    case atStart => exact ⟨0, Nat.zero_le _, rfl, fun j x y hj => absurd hj (by omega), Below.refl _ _⟩
    case round =>
      obtain ⟨k, hk, rfl, hup, hbr⟩ := hrel
      have Hup := Lib.hid hup
      clear hup
      by_cases hlt : k < n
      · have hki : (k : Int) < (n : Int) := by omega
        obtain ⟨b1, o1, x, A', qa, ca, rfl, hb1, hx, x0, x1, hpx, hqa, hca, _⟩ := (ha.below hbr).at_ hlt
        obtain ⟨b2, o2, y, B', qb, cb, rfl, hb2, hy, y0, y1, hpy, hqb, hcb, _⟩ := (hb.below hbr).at_ hlt
        have hsz := hbr.size
        have Hx := Lib.hid hx
        have Hy := Lib.hid hy
        have X := Lib.hid (And.intro ((Below.refl wr.heap.size wr).alloc (Nat.le_refl _) (.cells #[.int .i64 x.1, .slice A' qa ca] 34)) (heap_alloc_new wr (.cells #[.int .i64 x.1, .slice A' qa ca] 34)))
        clear hx hy
        go_upto_region 6 with fail
        generalize wr.alloc (.cells #[.int .i64 x.1, .slice A' qa ca] 34) = W1 at X ⊢
        obtain ⟨B1, k1⟩ := X.out
        clear X x0 x1
        have hl1 := (Array.getElem?_eq_some_iff.1 k1).1
        have y0' := (B1.cell (p := ⟨b2, o2 + k * 2, none⟩) (by show b2 < _; omega)).trans y0
        have y1' := (B1.cell (p := ⟨b2, o2 + k * 2 + 1, none⟩) (by show b2 < _; omega)).trans y1
        have X := Lib.hid (And.intro ((Below.refl W1.heap.size W1).alloc (Nat.le_refl _) (.cells #[.int .i64 y.1, .slice B' qb cb] 34)) (heap_alloc_new W1 (.cells #[.int .i64 y.1, .slice B' qb cb] 34)))
        clear y0 y1
        go_upto_region 7 with fail
        generalize W1.alloc (.cells #[.int .i64 y.1, .slice B' qb cb] 34) = W2 at X ⊢
        obtain ⟨B2, k2⟩ := X.out
        clear X y0' y1'
        have k1' := (B2.block _ hl1).trans k1
        have B3 : Below wr.heap.size wr W2 := B1.trans (B2.mono (Nat.le_of_lt hl1))
        have z0 : W2.cell? ⟨wr.heap.size, 0, none⟩ = some (.int .i64 x.1) := by simp only [World.cell?, k1']; rfl
        have z1 : W2.cell? ⟨wr.heap.size, 1, none⟩ = some (.slice A' qa ca) := by simp only [World.cell?, k1']; rfl
        have z2 : W2.cell? ⟨W1.heap.size, 0, none⟩ = some (.int .i64 y.1) := by simp only [World.cell?, k2]; rfl
        have z3 : W2.cell? ⟨W1.heap.size, 1, none⟩ = some (.slice B' qb cb) := by simp only [World.cell?, k2]; rfl
        have HS := Lib.hid (sameLevel_any x.1 A' qa ca x.2 y.1 B' qb cb y.2 W2 ((hpx.more hsz).lift B3) hqa hca ((hpy.more hsz).lift B3) hqb hcb)
        have hbw := hbr.trans (B3.mono hsz)
        clear k1 k2 k1' hpx hpy
        go_wp2_with fail
        refine HS.out.mono ?_
        rintro e W3 ⟨rfl, hb3⟩
        have hb13 := hbw.trans (hb3.mono hbw.size)
        have Hxy := Lib.hid (rfl : lvB (x.1, x.2) (y.1, y.2) = lvB x y)
        rw [Hxy.out]
        cases hq : lvB x y
        · have Hn := Lib.hid (Hbad.out k x y Hx.out Hy.out hq)
          go_wp2_with fail
          go_ret
          exact ⟨ret_bool Hn.out.symm, hb13⟩
        · have Hn := Lib.hid (Hup.out.next Hx.out Hy.out hq)
          go_wp2_with fail
          go_roundw
          case rel => exact ⟨k + 1, by omega, by go_num, Hn.out, hb13⟩
          case measure => simp [intOf]; omega
      · obtain rfl : k = n := by omega
        have hkk : ¬ (k : Int) < (k : Int) := by omega
        have Hn := Lib.hid (Hall.out Hup.out)
        go_wp2_with fail
        go_ret
        exact ⟨ret_bool Hn.out.symm, hbr⟩
  · have Hn := Lib.hid (usB_len (u := u) (v := v) (by rw [ha.1, hb.1]; exact hnm))
    generalize usB u v = q at Hn ⊢
    have hnm2 : ¬ (n : Int) = (m : Int) := by omega
    go_enter Tryz.func98, Tryz.ntmps98
    go_wp2_with fail
    go_ret
    exact ⟨ret_bool Hn.out.symm, Below.refl _ _⟩

set_option maxRecDepth 100000 in
set_option maxHeartbeats 4000000 in
theorem sameLevels_any (A : Option Addr) (n capA : Nat) (B : Option Addr) (m capB : Nat) (u v : List Lv) (w : World) (ha : LvL w w.heap.size A n u) (hb : LvL w w.heap.size B m v) (hn : n ≤ 9223372036854775807) (hm : m ≤ 9223372036854775807) :
    Calls Tryz.prog 100 #[.slice A n capA, .slice B m capB] w fun e w' => e = .returned (.bool (usB u v)) ∧ Below w.heap.size w w' := by
  by_cases hnm : n = m
  · subst hnm
    have Hall : Hid (UpTo u v n → usB u v = true) := Lib.hid fun h => h.all ha.1 hb.1
    have Hbad : Hid (∀ (k : Nat) x y, u[k]? = some x → v[k]? = some y → lvB x y = false → usB u v = false) := Lib.hid fun k x y hx hy h => usB_bad hx hy h
    generalize usB u v = q at Hall Hbad ⊢
    go_enter Tryz.func100, Tryz.ntmps100
    go_wp2_with fail
    go_loopw [5] (fun i wr => ∃ k : Nat, k ≤ n ∧ i = .int .i64 k ∧ UpTo u v k ∧ Below w.heap.size w wr) (fun i _ => n - (intOf i).toNat)
    case atStart => exact ⟨0, Nat.zero_le _, rfl, fun j x y hj => absurd hj (by omega), Below.refl _ _⟩
    case round =>
      obtain ⟨k, hk, rfl, hup, hbr⟩ := hrel
      have Hup := Lib.hid hup
      clear hup
      by_cases hlt : k < n
      · have hki : (k : Int) < (n : Int) := by omega
        obtain ⟨b1, o1, x, A', qa, ca, rfl, hb1, hx, x0, x1, hpx, hqa, hca, _⟩ := (ha.below hbr).at_ hlt
        obtain ⟨b2, o2, y, B', qb, cb, rfl, hb2, hy, y0, y1, hpy, hqb, hcb, _⟩ := (hb.below hbr).at_ hlt
        have hsz := hbr.size
        have Hx := Lib.hid hx
        have Hy := Lib.hid hy
        have HX : Hid (∀ W, Below wr.heap.size wr W → W.cell? ⟨b1, o1 + k * 2, none⟩ = some (.int .i64 x.1) ∧ W.cell? ⟨b1, o1 + k * 2 + 1, none⟩ = some (.slice A' qa ca) ∧ W.cell? ⟨b2, o2 + k * 2, none⟩ = some (.int .i64 y.1) ∧ W.cell? ⟨b2, o2 + k * 2 + 1, none⟩ = some (.slice B' qb cb)) := Lib.hid fun W hW => ⟨(hW.cell (p := ⟨b1, o1 + k * 2, none⟩) (by show b1 < _; omega)).trans x0, (hW.cell (p := ⟨b1, o1 + k * 2 + 1, none⟩) (by show b1 < _; omega)).trans x1, (hW.cell (p := ⟨b2, o2 + k * 2, none⟩) (by show b2 < _; omega)).trans y0, (hW.cell (p := ⟨b2, o2 + k * 2 + 1, none⟩) (by show b2 < _; omega)).trans y1⟩
        have HP : Hid (∀ W, Below wr.heap.size wr W → PL W W.heap.size A' qa x.2 ∧ PL W W.heap.size B' qb y.2) := Lib.hid fun W hW => ⟨(hpx.more hsz).lift hW, (hpy.more hsz).lift hW⟩
        have HV := Lib.hid (refValid_any x.1 A' qa ca x.2 wr (HP.out wr (Below.refl _ _)).1 hqa hca)
        clear hx hy hpx hpy
        have fin0 : ∀ W, Below wr.heap.size wr W → Below w.heap.size w W := fun W hW => hbr.trans (hW.mono hsz)
        have Fin := Lib.hid fin0
        clear fin0
        go_wp2_with fail
        refine HV.out.mono ?_
        clear HV x0 x1 y0 y1
        rintro e W1 ⟨rfl, B1⟩
        obtain ⟨x0, x1, y0, y1⟩ := HX.out W1 B1
        have noEq : ∀ W, Below wr.heap.size wr W → ∀ p : Bel W.heap.size W, Calls Tryz.prog 113 #[.agg #[.int .i64 x.1, .slice A' qa ca], .agg #[.int .i64 y.1, .slice B' qb cb]] p.v fun e w' => e = .returned (.bool (lvD (x.1, x.2) (y.1, y.2))) ∧ Below p.v.heap.size p.v w' := fun W hW p => eqLevelB_any x.1 A' qa ca x.2 y.1 B' qb cb y.2 p.v (HP.out _ (hW.trans (p.h.mono hW.size))).1 (HP.out _ (hW.trans (p.h.mono hW.size))).2 (by omega) (by omega)
        have NoEq := Lib.hid noEq
        clear noEq
        have hlv : lvB x y = if vld x.1 x.2 && vld y.1 y.2 then eqv x.1 x.2 y.1 y.2 else lvD (x.1, x.2) (y.1, y.2) := rfl
        have Hlv := Lib.hid hlv
        clear hlv
        have yesEq : ∀ W, Below wr.heap.size wr W → ∀ p : Bel W.heap.size W, Calls Tryz.prog 152 #[.agg #[.int .i64 x.1, .slice A' qa ca], .agg #[.int .i64 y.1, .slice B' qb cb]] p.v fun e w' => e = .returned (.bool (eqv x.1 x.2 y.1 y.2)) ∧ Below p.v.heap.size p.v w' := fun W hW p => refEqual_any x.1 A' qa ca x.2 y.1 B' qb cb y.2 p.v (HP.out _ (hW.trans (p.h.mono hW.size))).1 hqa hca (HP.out _ (hW.trans (p.h.mono hW.size))).2 hqb hcb
        have YesEq := Lib.hid yesEq
        clear yesEq
        cases hvx : vld x.1 x.2
        · have HQ : Hid (lvB x y = lvD (x.1, x.2) (y.1, y.2)) := Lib.hid (by rw [Hlv.out, hvx]; rfl)
          have r0 : ∀ p : Bel W1.heap.size W1, p.v.cell? ⟨b1, o1 + k * 2, none⟩ = some (.int .i64 x.1) := fun p => (HX.out _ (B1.trans (p.h.mono B1.size))).1
          have r1 : ∀ p : Bel W1.heap.size W1, p.v.cell? ⟨b1, o1 + k * 2 + 1, none⟩ = some (.slice A' qa ca) := fun p => (HX.out _ (B1.trans (p.h.mono B1.size))).2.1
          have r2 : ∀ p : Bel W1.heap.size W1, p.v.cell? ⟨b2, o2 + k * 2, none⟩ = some (.int .i64 y.1) := fun p => (HX.out _ (B1.trans (p.h.mono B1.size))).2.2.1
          have r3 : ∀ p : Bel W1.heap.size W1, p.v.cell? ⟨b2, o2 + k * 2 + 1, none⟩ = some (.slice B' qb cb) := fun p => (HX.out _ (B1.trans (p.h.mono B1.size))).2.2.2
          have r4 := NoEq.out W1 B1
          generalize lvD (x.1, x.2) (y.1, y.2) = z at HQ r4
          go_wp2_with fail
          refine wp_region_bel W1.heap.size W1 (by kernel_rfl) (by kernel_rfl) (Below.refl _ _) ?_
          repeat (go_big_quiet_step ((go_at_call 113; exact Calls.bel_of (by simp) (r4 _))))
          refine wpQuiet_nil ?_
          rintro _ ⟨pq, rfl⟩
          have hbq := pq.h
          generalize pq.v = W3 at hbq ⊢
          have hbf := Fin.out W3 (B1.trans (hbq.mono B1.size))
          clear r0 r1 r2 r3 r4
          cases z
          · have Hn := Lib.hid (Hbad.out k x y Hx.out Hy.out HQ.out)
            go_wp2_with fail
            go_ret
            exact ⟨ret_bool Hn.out.symm, hbf⟩
          · have Hn := Lib.hid (Hup.out.next Hx.out Hy.out HQ.out)
            go_wp2_with fail
            go_roundw
            case rel => exact ⟨k + 1, by omega, by go_num, Hn.out, hbf⟩
            case measure => simp [intOf]; omega
        · have HV2 := Lib.hid (refValid_any y.1 B' qb cb y.2 W1 (HP.out W1 B1).2 hqb hcb)
          go_wp2_with fail
          refine HV2.out.mono ?_
          clear HV2 x0 x1 y0 y1
          rintro e W2 ⟨rfl, B2'⟩
          have B2 := B1.trans (B2'.mono B1.size)
          clear B2'
          cases hvy : vld y.1 y.2
          · have HQ : Hid (lvB x y = lvD (x.1, x.2) (y.1, y.2)) := Lib.hid (by rw [Hlv.out, hvx, hvy]; rfl)
            have r0 : ∀ p : Bel W2.heap.size W2, p.v.cell? ⟨b1, o1 + k * 2, none⟩ = some (.int .i64 x.1) := fun p => (HX.out _ (B2.trans (p.h.mono B2.size))).1
            have r1 : ∀ p : Bel W2.heap.size W2, p.v.cell? ⟨b1, o1 + k * 2 + 1, none⟩ = some (.slice A' qa ca) := fun p => (HX.out _ (B2.trans (p.h.mono B2.size))).2.1
            have r2 : ∀ p : Bel W2.heap.size W2, p.v.cell? ⟨b2, o2 + k * 2, none⟩ = some (.int .i64 y.1) := fun p => (HX.out _ (B2.trans (p.h.mono B2.size))).2.2.1
            have r3 : ∀ p : Bel W2.heap.size W2, p.v.cell? ⟨b2, o2 + k * 2 + 1, none⟩ = some (.slice B' qb cb) := fun p => (HX.out _ (B2.trans (p.h.mono B2.size))).2.2.2
            have r4 := NoEq.out W2 B2
            generalize lvD (x.1, x.2) (y.1, y.2) = z at HQ r4
            go_wp2_with fail
            refine wp_region_bel W2.heap.size W2 (by kernel_rfl) (by kernel_rfl) (Below.refl _ _) ?_
            repeat (go_big_quiet_step ((go_at_call 113; exact Calls.bel_of (by simp) (r4 _))))
            refine wpQuiet_nil ?_
            rintro _ ⟨pq, rfl⟩
            have hbq := pq.h
            generalize pq.v = W3 at hbq ⊢
            have hbf := Fin.out W3 (B2.trans (hbq.mono B2.size))
            clear r0 r1 r2 r3 r4
            cases z
            · have Hn := Lib.hid (Hbad.out k x y Hx.out Hy.out HQ.out)
              go_wp2_with fail
              go_ret
              exact ⟨ret_bool Hn.out.symm, hbf⟩
            · have Hn := Lib.hid (Hup.out.next Hx.out Hy.out HQ.out)
              go_wp2_with fail
              go_roundw
              case rel => exact ⟨k + 1, by omega, by go_num, Hn.out, hbf⟩
              case measure => simp [intOf]; omega
          · have HQ : Hid (lvB x y = eqv x.1 x.2 y.1 y.2) := Lib.hid (by rw [Hlv.out, hvx, hvy]; rfl)
            have r0 : ∀ p : Bel W2.heap.size W2, p.v.cell? ⟨b1, o1 + k * 2, none⟩ = some (.int .i64 x.1) := fun p => (HX.out _ (B2.trans (p.h.mono B2.size))).1
            have r1 : ∀ p : Bel W2.heap.size W2, p.v.cell? ⟨b1, o1 + k * 2 + 1, none⟩ = some (.slice A' qa ca) := fun p => (HX.out _ (B2.trans (p.h.mono B2.size))).2.1
            have r2 : ∀ p : Bel W2.heap.size W2, p.v.cell? ⟨b2, o2 + k * 2, none⟩ = some (.int .i64 y.1) := fun p => (HX.out _ (B2.trans (p.h.mono B2.size))).2.2.1
            have r3 : ∀ p : Bel W2.heap.size W2, p.v.cell? ⟨b2, o2 + k * 2 + 1, none⟩ = some (.slice B' qb cb) := fun p => (HX.out _ (B2.trans (p.h.mono B2.size))).2.2.2
            have r4 := YesEq.out W2 B2
            generalize eqv x.1 x.2 y.1 y.2 = z at HQ r4
            go_wp2_with fail
            refine wp_region_bel W2.heap.size W2 (by kernel_rfl) (by kernel_rfl) (Below.refl _ _) ?_
            repeat (go_big_quiet_step ((go_at_call 152; exact Calls.bel_of (by simp) (r4 _))))
            refine wpQuiet_nil ?_
            rintro _ ⟨pq, rfl⟩
            have hbq := pq.h
            generalize pq.v = W3 at hbq ⊢
            have hbf := Fin.out W3 (B2.trans (hbq.mono B2.size))
            clear r0 r1 r2 r3 r4
            cases z
            · have Hn := Lib.hid (Hbad.out k x y Hx.out Hy.out HQ.out)
              go_wp2_with fail
              go_ret
              exact ⟨ret_bool Hn.out.symm, hbf⟩
            · have Hn := Lib.hid (Hup.out.next Hx.out Hy.out HQ.out)
              go_wp2_with fail
              go_roundw
              case rel => exact ⟨k + 1, by omega, by go_num, Hn.out, hbf⟩
              case measure => simp [intOf]; omega
      · obtain rfl : k = n := by omega
        have hkk : ¬ (k : Int) < (k : Int) := by omega
        have Hn := Lib.hid (Hall.out Hup.out)
        go_wp2_with fail
        go_ret
        exact ⟨ret_bool Hn.out.symm, hbr⟩
  · have Hn := Lib.hid (usB_len (u := u) (v := v) (by rw [ha.1, hb.1]; exact hnm))
    generalize usB u v = q at Hn ⊢
    have hnm2 : ¬ (n : Int) = (m : Int) := by omega
    go_enter Tryz.func100, Tryz.ntmps100
    go_wp2_with fail
    go_ret
    exact ⟨ret_bool Hn.out.symm, Below.refl _ _⟩
end Go.Proofs.YtdhbfkbkgjmniaaGreatDoor
