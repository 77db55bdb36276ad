/-
  'whole' and 'Format' of package level.
-/
import Derived.Test.YtgbbmcfhakliiaaGreatDoorEach
namespace Go.Proofs.YtgbbmcfhakliiaaGreatDoor
open Go Go.RowKit Go.Shelf

/-- the text of parts: one alone, or several in brackets -/
def wholeB (ps : List (List UInt8)) : List UInt8 :=
  match ps with
  | [p] => p
  | ps => [109, 97, 120, 40] ++ Lib.join ps [44] ++ [41]

theorem bs_data (l : List UInt8) : (bs l).data.toList = l := by simp [bs]
theorem own_cells {w : World} {B : Nat} {A : Option Addr} {n c : Nat} {ss : List ByteArray} (h : w.ownsRow B 9 1 (.slice A n c) n (ss.map Value.string)) {g : Nat} (hA : A = some ⟨g, 0, none⟩) {j : Nat} {x : ByteArray} (hx : ss[j]? = some x) : w.cell? ⟨g, j, none⟩ = some (.string x) := by
  subst hA
  have hn := h.1
  simp only [List.length_map, Nat.mul_one] at hn
  have hj : j < n := by have := (List.getElem?_eq_some_iff.1 hx).1; omega
  rw [h.cellAt j (by omega), List.getElem?_map, hx]
  rfl

set_option maxRecDepth 100000 in
set_option maxHeartbeats 4000000 in
theorem whole_any (B T : Nat) (ps : List (List UInt8)) (w : World) (h : Txt w B T (ps.map bs)) (hp : ps ≠ []) (hlen : ps.length ≤ 1000) (hl : (Lib.join ps [44]).length ≤ 1000000) :
    Calls Tryz.prog 16 #[.pointer (some ⟨T, 0, none⟩)] w fun e w' => e = .returned (.string (bs (wholeB ps))) ∧ Below w.heap.size w w' := by
  obtain ⟨A, c, k0, k1, hown, hlc, hc, hA⟩ := h.slice
  obtain ⟨g, rfl, hBg, hg⟩ : ∃ g, A = some ⟨g, 0, none⟩ ∧ B ≤ g ∧ g < w.heap.size := by
    rcases hA with ⟨_, e⟩ | h
    · exact absurd (List.map_eq_nil_iff.1 e) hp
    · exact h
  clear hA h
  rw [List.length_map] at *
  by_cases h1 : ps.length = 1
  · obtain ⟨p, rfl⟩ : ∃ p, ps = [p] := List.length_eq_one_iff.1 h1
    have x0 := own_cells hown rfl (show ([p].map bs)[0]? = some (bs p) from rfl)
    have Hw : Hid (bs (wholeB [p]) = bs p) := rfl
    clear hown
    go_enter Tryz.func16, Tryz.ntmps16
    go_wp2_with fail
    go_ret
    exact ⟨by rw [Hw.out]; rfl, Below.refl _ _⟩
  · have Hw : Hid ((⟨#[109, 97, 120, 40]⟩ ++ ⟨(Lib.join ps [44]).toArray⟩ ++ ⟨#[41]⟩ : ByteArray) = bs (wholeB ps)) := by
      have e : wholeB ps = [109, 97, 120, 40] ++ Lib.join ps [44] ++ [41] := by
        unfold wholeB
        split
        · rename_i p; exact absurd rfl h1
        · rfl
      rw [Hid, e, show (⟨#[109, 97, 120, 40]⟩ ++ ⟨(Lib.join ps [44]).toArray⟩ : ByteArray) = bs ([109, 97, 120, 40] ++ Lib.join ps [44]) from bs_app _ _]
      exact bs_app _ [41]
    have hj := Any.strings_Join Tryz.layJoin Tryz.builderExtra g 0 c (ps.map bs) ⟨#[44]⟩ w (fun j x hx => by rw [Nat.zero_add]; exact own_cells hown rfl hx) hg (by rw [List.length_map]; omega) (by rw [List.length_map]; exact hlc)
      (by rw [List.map_map, show ((fun x : ByteArray => x.data.toList) ∘ bs) = id from funext bs_data, List.map_id]; exact Nat.le_trans hl (by omega))
    rw [List.map_map, show ((fun x : ByteArray => x.data.toList) ∘ bs) = id from funext bs_data, List.map_id, List.length_map] at hj
    change Calls Tryz.prog 26 #[.slice (some ⟨g, 0, none⟩) ps.length c, .string ⟨#[44]⟩] w (fun e w' => e = .returned (.string ⟨(Lib.join ps [44]).toArray⟩) ∧ Below w.heap.size w w') at hj
    have hq : ((ps.length : Int) == 1) = false := by simp; omega
    have Hj := Lib.hid hj; clear hj hown
    generalize Lib.join ps [44] = J at hl Hj Hw
    clear h1
    generalize ps.length = m at *
    go_enter Tryz.func16, Tryz.ntmps16
    go_wp2_with (go_at_call 26; refine Hj.out.mono ?_; rintro e w2 ⟨rfl, hb2⟩)
    go_ret
    exact ⟨by rw [← Hw.out]; rfl, hb2⟩
end Go.Proofs.YtgbbmcfhakliiaaGreatDoor
