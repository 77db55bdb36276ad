/-
  'Equal' of both packages, and the statements' test on sizes.
-/
import Derived.Test.YtdhbfkbkgjmniaaGreatDoorRLeq
namespace Go.Proofs.YtdhbfkbkgjmniaaGreatDoor
open Go Go.RowKit

set_option maxRecDepth 100000 in
set_option maxHeartbeats 2000000 in
theorem equal_any (ca : Int) (A : Option Addr) (n capA : Nat) (la : List (Int × Int)) (cb : Int) (B : Option Addr) (m capB : Nat) (lb : List (Int × Int)) (w : World)
    (ha : PL w w.heap.size A n la) (hn : n ≤ capA) (hca : capA ≤ 9223372036854775807) (hb : PL w w.heap.size B m lb) (hm : m ≤ capB) (hcb : capB ≤ 9223372036854775807) :
    Calls Tryz.prog 150 #[.agg #[.int .i64 ca, .slice A n capA], .agg #[.int .i64 cb, .slice B m capB]] w fun e w' => e = .returned (.bool (eqv ca la cb lb)) ∧ Below w.heap.size w w' := by
  have hb0 := box2 (w := w) (x0 := .int .i64 ca) (x1 := .slice A n capA) (y0 := .int .i64 cb) (y1 := .slice B m capB) (t := 34) (Below.refl _ _)
  have h1 := leq_any ca A n capA la cb B m capB lb _ (ha.lift hb0.2.2) hn hca (hb.lift hb0.2.2) hm hcb
  have h2 := fun W (hW : Below w.heap.size w W) => leq_any cb B m capB lb ca A n capA la W (hb.lift hW) hm hcb (ha.lift hW) hn hca
  have He : Hid (eqv ca la cb lb = (leqv ca la cb lb && leqv cb lb ca la)) := rfl
  generalize leqv cb lb ca la = r2 at h2 He
  cases hr : leqv ca la cb lb
  all_goals
    rw [hr] at h1 He
    have H1 := Lib.hid h1; clear h1 hr
    have H2 := Lib.hid h2; clear h2
    go_enter Tryz.func150, Tryz.ntmps150
    go_wp2_with fail
    refine H1.out.mono ?_
    rintro e w1 ⟨rfl, hb1⟩
    have hbb := hb1.mono (show w.heap.size + 2 ≤ _ by simp)
    obtain ⟨⟨f1, f2, f3, f4⟩, hs1, hbw⟩ := box2 hbb
    go_wp2_with fail
  · go_ret
    exact ⟨by rw [He.out]; rfl, hbw⟩
  · refine (H2.out _ hbw).mono ?_
    rintro e w2 ⟨rfl, hb2⟩
    clear f1 f2 f3 f4
    go_wp2_with fail
    go_ret
    exact ⟨by rw [He.out]; rfl, hbw.trans (hb2.mono hbw.size)⟩

set_option maxRecDepth 100000 in
set_option maxHeartbeats 2000000 in
theorem refEqual_any (ca : Int) (A : Option Addr) (n capA : Nat) (la : List (Int × Int)) (cb : Int) (B : Option Addr) (m capB : Nat) (lb : List (Int × Int)) (w : World)
    (ha : PL w w.heap.size A n la) (hn : n ≤ capA) (hca : capA ≤ 9223372036854775807) (hb : PL w w.heap.size B m lb) (hm : m ≤ capB) (hcb : capB ≤ 9223372036854775807) :
    Calls Tryz.prog 152 #[.agg #[.int .i64 ca, .slice A n capA], .agg #[.int .i64 cb, .slice B m capB]] w fun e w' => e = .returned (.bool (eqv ca la cb lb)) ∧ Below w.heap.size w w' := by
  have hb0 := box2 (w := w) (x0 := .int .i64 ca) (x1 := .slice A n capA) (y0 := .int .i64 cb) (y1 := .slice B m capB) (t := 34) (Below.refl _ _)
  have h1 := refLeq_any ca A n capA la cb B m capB lb _ (ha.lift hb0.2.2) hn hca (hb.lift hb0.2.2) hm hcb
  have h2 := fun W (hW : Below w.heap.size w W) => refLeq_any cb B m capB lb ca A n capA la W (hb.lift hW) hm hcb (ha.lift hW) hn hca
  have He : Hid (eqv ca la cb lb = (leqv ca la cb lb && leqv cb lb ca la)) := rfl
  generalize leqv cb lb ca la = r2 at h2 He
  cases hr : leqv ca la cb lb
  all_goals
    rw [hr] at h1 He
    have H1 := Lib.hid h1; clear h1 hr
    have H2 := Lib.hid h2; clear h2
    go_enter Tryz.func152, Tryz.ntmps152
    go_wp2_with fail
    refine H1.out.mono ?_
    rintro e w1 ⟨rfl, hb1⟩
    have hbb := hb1.mono (show w.heap.size + 2 ≤ _ by simp)
    obtain ⟨⟨f1, f2, f3, f4⟩, hs1, hbw⟩ := box2 hbb
    go_wp2_with fail
  · go_ret
    exact ⟨by rw [He.out]; rfl, hbw⟩
  · refine (H2.out _ hbw).mono ?_
    rintro e w2 ⟨rfl, hb2⟩
    clear f1 f2 f3 f4
    go_wp2_with fail
    go_ret
    exact ⟨by rw [He.out]; rfl, hbw.trans (hb2.mono hbw.size)⟩

/-- how long the parts of a list of levels are: a row of levels in memory -/
def LRow (w : World) (B : Nat) (A : Option Addr) (n : Nat) (ls : List Nat) : Prop :=
  ls.length = n ∧ (0 < n → ∃ b off, A = some ⟨b, off, none⟩ ∧ b < B ∧ ∀ j k, ls[j]? = some k → ∃ A' c', w.cell? ⟨b, off + j * 2 + 1, none⟩ = some (.slice A' k c'))
/-- too many levels, or one of them of too many parts -/
def wideB (ls : List Nat) : Bool := decide (40 < ls.length) || (ls.take 40).any fun k => decide (40 < k)

end Go.Proofs.YtdhbfkbkgjmniaaGreatDoor
