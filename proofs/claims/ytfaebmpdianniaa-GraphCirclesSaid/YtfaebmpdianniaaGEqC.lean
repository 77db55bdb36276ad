/-
  Two lists of sets compared: 'eqClasses' of the law.
-/
import Derived.Test.YtfaebmpdianniaaGRCls
import Derived.Test.YtfaebmpdianniaaGAwk
import Derived.Test.YtfaebmpdianniaaBel
namespace Go.Proofs.Ytfaebmpdianniaa
open Go Go.RowKit

/-- this value reads as these sets -/
def LL (w : World) (v : Value) (ls : List (List Nat)) : Prop := ∃ A c, v = .slice A ls.length c ∧ (0 < ls.length → ∃ b, A = some ⟨b, 0, none⟩ ∧ b < w.heap.size ∧ ∀ (j : Nat) (l : List Nat), ls[j]? = some l → ∃ x, w.cell? ⟨b, j, none⟩ = some x ∧ KR w x l)
theorem LL.below {w w' : World} {v : Value} {ls : List (List Nat)} (h : LL w v ls) (hb : Below w.heap.size w w') : LL w' v ls := by
  obtain ⟨A, c, h1, h2⟩ := h
  refine ⟨A, c, h1, fun h0 => ?_⟩
  obtain ⟨b, h3, h4, h5⟩ := h2 h0
  refine ⟨b, h3, Nat.lt_of_lt_of_le h4 hb.size, fun j l hl => ?_⟩
  obtain ⟨x, h6, h7⟩ := h5 j l hl
  exact ⟨x, (hb.cell (p := ⟨b, j, none⟩) h4).trans h6, h7.keep (KI.below hb)⟩
theorem LL.nil (w : World) : LL w (.slice none 0 0) [] := ⟨none, 0, rfl, fun h => absurd h (by simp)⟩
theorem LL.of_own {w : World} {base : Nat} {v : Value} {xs : List Value} {ls : List (List Nat)} (h : w.ownsRow base 42 1 v xs.length xs) (k : KS w xs ls) : LL w v ls := by
  have h0 := h
  have hl := k.1
  rcases h.2 with ⟨rfl, hn⟩ | ⟨g, cap, cur, rfl, hb, hg, hc, hm, hs, ht⟩
  · have : ls = [] := List.eq_nil_of_length_eq_zero (by omega)
    subst this
    exact LL.nil w
  · refine ⟨some ⟨g, 0, none⟩, cap, by rw [hl], fun _ => ⟨g, rfl, (Array.getElem?_eq_some_iff.1 hg).1, fun j l hj => ?_⟩⟩
    have hjl : j < ls.length := (List.getElem?_eq_some_iff.1 hj).1
    obtain ⟨x, hx⟩ : ∃ x, xs[j]? = some x := ⟨_, List.getElem?_eq_getElem (by omega)⟩
    exact ⟨x, (h0.cellAt j (by omega)).trans hx, k.2 j l x hj hx⟩
theorem KR.il {w : World} {x : Value} {l : List Nat} (h : KR w x l) : ∃ b c, x = .slice (some ⟨b, 0, none⟩) l.length c ∧ b < w.heap.size ∧ IL w w.heap.size (some ⟨b, 0, none⟩) l.length (castN l) := by
  obtain ⟨b, c, cs, fr, h1, h2, h3⟩ := h
  have hb := (Array.getElem?_eq_some_iff.1 h2).1
  refine ⟨b, c, h1, hb, castN_len l, fun _ => ⟨b, 0, rfl, hb, fun j y hy => ?_⟩⟩
  unfold castN at hy
  rw [List.getElem?_map] at hy
  cases hz : l[j]? with
  | none => rw [hz] at hy; cases hy
  | some z =>
    rw [hz] at hy
    obtain rfl : (z : Int) = y := Option.some.inj hy
    have := h3 j z hz
    simp [World.cell?, h2, this]

set_option maxRecDepth 100000 in
set_option maxHeartbeats 2000000 in
theorem eqClasses_true (v1 v2 : Value) (ls : List (List Nat)) (w : World) (ha : LL w v1 ls) (hb : LL w v2 ls) (hl : ∀ l ∈ ls, l.length ≤ 1000000) (hm : ls.length ≤ 1000000) :
    Calls Try.prog 12 #[v1, v2] w fun e w' => e = .returned (.bool true) ∧ Below w.heap.size w w' := by
  obtain ⟨A, c, rfl, ha⟩ := ha
  obtain ⟨B, d, rfl, hb⟩ := hb
  have Hl := Lib.hid hl
  clear hl
  generalize hn : ls.length = m at *
  go_enter Try.func12, Try.ntmps12
  go_wp2_with fail
  go_loopw [5] (fun i wr => ∃ k : Nat, k ≤ m ∧ i = .int .i64 k ∧ Below w.heap.size w wr) (fun i _ => m - (intOf i).toNat)
  case atStart => exact ⟨0, Nat.zero_le _, rfl, Below.refl _ _⟩
  case round =>
    obtain ⟨k, hk, rfl, hbr⟩ := hrel
    by_cases hkm : k < m
    · obtain ⟨b1, rfl, hb1, hc1⟩ := ha (by omega)
      obtain ⟨b2, rfl, hb2, hc2⟩ := hb (by omega)
      obtain ⟨l, hlk⟩ : ∃ l, ls[k]? = some l := ⟨_, List.getElem?_eq_getElem (by omega)⟩
      obtain ⟨x1, e1, k1⟩ := hc1 k l hlk
      obtain ⟨x2, e2, k2⟩ := hc2 k l hlk
      obtain ⟨q1, c1, rfl, _, i1⟩ := k1.il
      obtain ⟨q2, c2, rfl, _, i2⟩ := k2.il
      have hll := Hl.out l (List.mem_of_getElem? hlk)
      have hki : (k : Int) < (m : Int) := by omega
      have hsz := hbr.size
      have f1 := (hbr.cell (p := ⟨b1, k, none⟩) hb1).trans e1
      have f2 := (hbr.cell (p := ⟨b2, k, none⟩) hb2).trans e2
      have r1 : ∀ p : Bel wr.heap.size wr, p.v.cell? ⟨b1, k, none⟩ = some (.slice (some ⟨q1, 0, none⟩) l.length c1) := Bel.cell (by show b1 < _; omega) f1
      have r2 : ∀ p : Bel wr.heap.size wr, p.v.cell? ⟨b2, k, none⟩ = some (.slice (some ⟨q2, 0, none⟩) l.length c2) := Bel.cell (by show b2 < _; omega) f2
      have r3 : ∀ p : Bel wr.heap.size wr, Calls Try.prog 16 #[.slice (some ⟨q1, 0, none⟩) l.length c1, .slice (some ⟨q2, 0, none⟩) l.length c2] p.v fun e w' => e = .returned (.bool true) ∧ Below p.v.heap.size p.v w' := fun p =>
        eqInts_true _ _ _ _ _ (castN l) _ (((i1.below hbr).more hsz |>.below p.h).more p.h.size) (((i2.below hbr).more hsz |>.below p.h).more p.h.size) hll
      clear ha hb hc1 hc2 e1 e2 k1 k2 i1 i2 hlk
      go_wp2_with fail
      refine wp_region_bel wr.heap.size wr (by kernel_rfl) (by kernel_rfl) (Below.refl _ _) ?_
      repeat (go_big_quiet_step ((go_at_call 16; exact Calls.bel_of (by simp) (r3 _))))
      refine wpQuiet_nil ?_
      rintro _ ⟨pq, rfl⟩
      have hbq := pq.h
      generalize pq.v = w3 at hbq ⊢
      go_wp2_with fail
      go_roundw
      case rel => exact ⟨k + 1, by omega, by go_num, hbr.trans (hbq.mono hsz)⟩
      case measure => simp [intOf]; omega
    · obtain rfl : k = m := by omega
      have hkk : ¬ (k : Int) < (k : Int) := by omega
      go_wp2_with fail
      go_ret
      exact ⟨rfl, hbr⟩
end Go.Proofs.Ytfaebmpdianniaa
