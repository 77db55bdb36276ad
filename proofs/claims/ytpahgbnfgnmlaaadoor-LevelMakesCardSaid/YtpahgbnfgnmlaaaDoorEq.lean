/-
  'Equal' of both packages, and the statements' test on sizes.
-/
import Derived.Test.YtpahgbnfgnmlaaaDoorRLeq
namespace Go.Proofs.YtpahgbnfgnmlaaaDoor
open Go Go.RowKit

set_option maxRecDepth 100000 in
set_option maxHeartbeats 2000000 in
theorem equal_any (ca : Int) (A : Option Addr) (n capA : Nat) (la : List (Int × Int)) (cb : Int) (B : Option Addr) (m capB : Nat) (lb : List (Int × Int)) (w : World)
    (ha : PL w w.heap.size A n la) (hn : n ≤ capA) (hca : capA ≤ 9223372036854775807) (hb : PL w w.heap.size B m lb) (hm : m ≤ capB) (hcb : capB ≤ 9223372036854775807) :
    Calls Tryd.prog 31 #[.agg #[.int .i64 ca, .slice A n capA], .agg #[.int .i64 cb, .slice B m capB]] w fun e w' => e = .returned (.bool (eqv ca la cb lb)) ∧ Below w.heap.size w w' := by
  have hb0 := box2 (w := w) (x0 := .int .i64 ca) (x1 := .slice A n capA) (y0 := .int .i64 cb) (y1 := .slice B m capB) (t := 24) (Below.refl _ _)
  have h1 := leq_any ca A n capA la cb B m capB lb _ (ha.lift hb0.2.2) hn hca (hb.lift hb0.2.2) hm hcb
  have h2 := fun W (hW : Below w.heap.size w W) => leq_any cb B m capB lb ca A n capA la W (hb.lift hW) hm hcb (ha.lift hW) hn hca
  have He : Hid (eqv ca la cb lb = (leqv ca la cb lb && leqv cb lb ca la)) := rfl
  generalize leqv cb lb ca la = r2 at h2 He
  cases hr : leqv ca la cb lb
  all_goals
    rw [hr] at h1 He
    have H1 := Lib.hid h1; clear h1 hr
    have H2 := Lib.hid h2; clear h2
    go_enter Tryd.func31, Tryd.ntmps31
    go_wp2_with fail
    refine H1.out.mono ?_
    rintro e w1 ⟨rfl, hb1⟩
    have hbb := hb1.mono (show w.heap.size + 2 ≤ _ by simp)
    obtain ⟨⟨f1, f2, f3, f4⟩, hs1, hbw⟩ := box2 hbb
    go_wp2_with fail
  · go_ret
    exact ⟨by rw [He.out]; rfl, hbw⟩
  · refine (H2.out _ hbw).mono ?_
    rintro e w2 ⟨rfl, hb2⟩
    clear f1 f2 f3 f4
    go_wp2_with fail
    go_ret
    exact ⟨by rw [He.out]; rfl, hbw.trans (hb2.mono hbw.size)⟩

set_option maxRecDepth 100000 in
set_option maxHeartbeats 2000000 in
theorem refEqual_any (ca : Int) (A : Option Addr) (n capA : Nat) (la : List (Int × Int)) (cb : Int) (B : Option Addr) (m capB : Nat) (lb : List (Int × Int)) (w : World)
    (ha : PL w w.heap.size A n la) (hn : n ≤ capA) (hca : capA ≤ 9223372036854775807) (hb : PL w w.heap.size B m lb) (hm : m ≤ capB) (hcb : capB ≤ 9223372036854775807) :
    Calls Tryd.prog 32 #[.agg #[.int .i64 ca, .slice A n capA], .agg #[.int .i64 cb, .slice B m capB]] w fun e w' => e = .returned (.bool (eqv ca la cb lb)) ∧ Below w.heap.size w w' := by
  have hb0 := box2 (w := w) (x0 := .int .i64 ca) (x1 := .slice A n capA) (y0 := .int .i64 cb) (y1 := .slice B m capB) (t := 24) (Below.refl _ _)
  have h1 := refLeq_any ca A n capA la cb B m capB lb _ (ha.lift hb0.2.2) hn hca (hb.lift hb0.2.2) hm hcb
  have h2 := fun W (hW : Below w.heap.size w W) => refLeq_any cb B m capB lb ca A n capA la W (hb.lift hW) hm hcb (ha.lift hW) hn hca
  have He : Hid (eqv ca la cb lb = (leqv ca la cb lb && leqv cb lb ca la)) := rfl
  generalize leqv cb lb ca la = r2 at h2 He
  cases hr : leqv ca la cb lb
  all_goals
    rw [hr] at h1 He
    have H1 := Lib.hid h1; clear h1 hr
    have H2 := Lib.hid h2; clear h2
    go_enter Tryd.func32, Tryd.ntmps32
    go_wp2_with fail
    refine H1.out.mono ?_
    rintro e w1 ⟨rfl, hb1⟩
    have hbb := hb1.mono (show w.heap.size + 2 ≤ _ by simp)
    obtain ⟨⟨f1, f2, f3, f4⟩, hs1, hbw⟩ := box2 hbb
    go_wp2_with fail
  · go_ret
    exact ⟨by rw [He.out]; rfl, hbw⟩
  · refine (H2.out _ hbw).mono ?_
    rintro e w2 ⟨rfl, hb2⟩
    clear f1 f2 f3 f4
    go_wp2_with fail
    go_ret
    exact ⟨by rw [He.out]; rfl, hbw.trans (hb2.mono hbw.size)⟩

/-- how long the parts of a list of levels are: a row of levels in memory -/
def LRow (w : World) (B : Nat) (A : Option Addr) (n : Nat) (ls : List Nat) : Prop :=
  ls.length = n ∧ (0 < n → ∃ b off, A = some ⟨b, off, none⟩ ∧ b < B ∧ ∀ j k, ls[j]? = some k → ∃ A' c', w.cell? ⟨b, off + j * 2 + 1, none⟩ = some (.slice A' k c'))
/-- too many levels, or one of them of too many parts -/
def wideB (ls : List Nat) : Bool := decide (40 < ls.length) || (ls.take 40).any fun k => decide (40 < k)

set_option maxRecDepth 100000 in
set_option maxHeartbeats 2000000 in
theorem wide_any (A : Option Addr) (n c : Nat) (ls : List Nat) (w : World) (h : LRow w w.heap.size A n ls) (hn : n ≤ 9223372036854775807) (hk : ∀ k ∈ ls, k ≤ 9223372036854775807) :
    Calls Tryd.prog 11 #[.slice A n c] w fun e w' => e = .returned (.bool (wideB ls)) ∧ w = w' := by
  go_enter Tryd.func11, Tryd.ntmps11
  go_wp2
  go_loop [3] (fun i => ∃ k : Nat, k ≤ n ∧ k ≤ 40 ∧ i = .int .i64 k ∧ (∀ j ∈ ls.take k, j ≤ 40)) (fun i => n - (intOf i).toNat)
  case atStart => exact ⟨0, Nat.zero_le _, by omega, rfl, by simp⟩
  case round =>
    obtain ⟨k, hkn, hk40, rfl, hall⟩ := hrel
    have Hall := Lib.hid hall; clear hall
    by_cases hlt : k < n
    · obtain ⟨b, off, rfl, hbl, hcl⟩ := h.2 (by omega)
      have hx : ls[k]? = some (ls[k]'(by have := h.1; omega)) := List.getElem?_eq_getElem _
      generalize ls[k]'(by have := h.1; omega) = m at hx
      obtain ⟨A', c', hcell⟩ := hcl k m hx
      have hm := hk m (List.mem_of_getElem? hx)
      clear hcl
      by_cases h4 : k = 40
      · subst h4
        have Hf : Hid (wideB ls = true) := by rw [Hid, wideB, decide_eq_true (by have := h.1; omega)]; rfl
        go_wp2
        go_ret
        exact ⟨ret_bool Hf.out.symm, rfl⟩
      · have hq : ((k : Int) == 40) = false := by simp; omega
        by_cases hmm : 40 < m
        · have Hf : Hid (wideB ls = true) := by
            rw [Hid, wideB, Bool.or_eq_true]
            refine .inr (List.any_eq_true.2 ⟨m, ?_, by simpa using hmm⟩)
            rw [List.mem_take_iff_getElem]
            obtain ⟨q, e⟩ := List.getElem?_eq_some_iff.1 hx
            exact ⟨k, by omega, e⟩
          go_wp2
          go_ret
          exact ⟨ret_bool Hf.out.symm, rfl⟩
        · go_wp2
          go_round
          case rel =>
            refine ⟨k + 1, by omega, by omega, by go_num, fun j hj => ?_⟩
            rw [take_snoc hx] at hj
            rcases List.mem_append.1 hj with hj | hj
            · exact Hall.out j hj
            · rw [List.mem_singleton.1 hj]; omega
          case measure => simp [intOf]; omega
    · have hkn' : k = n := by omega
      have Hf : Hid (wideB ls = false) := by
        have hl := h.1
        rw [Hid, wideB, decide_eq_false (by omega), Bool.false_or, List.any_eq_false]
        intro j hj
        have := Hall.out j (by rw [List.take_of_length_le (by omega)]; exact List.mem_of_mem_take hj)
        simpa using this
      clear hkn'
      go_wp2
      go_ret
      exact ⟨ret_bool Hf.out.symm, rfl⟩
end Go.Proofs.YtpahgbnfgnmlaaaDoor
