/-
  What a number of 16 bits, a list of edges, and a list of numbers of 16 bits that came in give the walk.
-/
import Derived.Test.YtfaebmpdianniaaGOpen
import Derived.Test.YtfaebmpdianniaaTAllB
import Derived.Deep.Strs
namespace Go.Proofs.Ytfaebmpdianniaa
open Go Go.ChangeShapes Go.WideShapes Go.ChangeAt Go.RowKit Go.Joins Go.Deep

theorem cells_edge : Try.prog.cellsOf 89 = 3 := by kernel_rfl
theorem wf16 {x : Int} (h : (Lit.int .u16 x).wf = true) : 0 ≤ x ∧ x < 65536 := by
  have e1 : IntKind.u16.min = 0 := by decide
  have e2 : IntKind.u16.max = 65535 := by decide
  simp only [Lit.wf, Bool.and_eq_true, decide_eq_true_eq, e1, e2] at h
  omega
theorem wf8 {x : Int} (h : (Lit.int .u8 x).wf = true) : 0 ≤ x ∧ x < 256 := by
  have e1 : IntKind.u8.min = 0 := by decide
  have e2 : IntKind.u8.max = 255 := by decide
  simp only [Lit.wf, Bool.and_eq_true, decide_eq_true_eq, e1, e2] at h
  omega
set_option maxRecDepth 100000 in
theorem open_u16 {H : Type} {enc : TypeId × Value → H} {W : World} {base : Nat} {r : Reach} {v : Value} {d : DataW H} {p : List MemPlace} (hv : Value.okWide Try.prog W r base 50 v) (h : DataW.Trod enc Try.prog W 0 (fun _ => true) true 50 v d p) :
    ∃ x : Int, v = .int .u16 x ∧ 0 ≤ x ∧ x < 65536 := by
  obtain ⟨x, rfl⟩ := okWide_int Try.underlying50 hv
  obtain ⟨fuel, hf⟩ := h
  have hf' : DataW.trod enc Try.prog W 0 (fun _ => true) true fuel 50 [.int .u16 x] = some (d, p) := hf
  obtain ⟨y, hx, _, hw⟩ := DataW.trod_int Try.underlying50 hf'
  simp at hx
  subst hx
  exact ⟨x, rfl, wf16 hw⟩
set_option maxRecDepth 100000 in
theorem open_u16l {H : Type} {enc : TypeId × Value → H} {W : World} {base : Nat} {r : Reach} {v : Value} {d : DataW H} {p : List MemPlace}
    (hv : Value.okWide Try.prog W r base 52 v) (h : DataW.Trod enc Try.prog W 0 (fun _ => true) true 52 v d p) :
    ∃ V m cap vals, v = .slice V m cap ∧ UL16 W W.heap.size V m vals ∧ m ≤ cap ∧ cap ≤ 9223372036854775807 := by
  obtain ⟨a0, m0, c0, rfl⟩ := okWide_slice Try.underlying52 hv
  obtain ⟨fuel, hf⟩ := h
  have hf' : DataW.trod enc Try.prog W 0 (fun _ => true) true fuel 52 [.slice a0 m0 c0] = some (d, p) := hf
  rcases open_ints Try.underlying52 Try.underlying50 (by kernel_rfl) hf' with ⟨hcs, _⟩ | ⟨a, len, cap, zs, hcs, _, hl, hm, hz, _, hcell, hwf⟩
  · simp at hcs
    obtain ⟨rfl, rfl, rfl⟩ := hcs
    exact ⟨none, 0, 0, [], rfl, ⟨rfl, fun z hz => (by cases hz), fun h => absurd h (by omega)⟩, Nat.le_refl _, Nat.zero_le _⟩
  · simp at hcs
    obtain ⟨rfl, rfl, rfl⟩ := hcs
    simp only [if_true] at hz
    have hcap : c0 ≤ 9223372036854775807 := by unfold maxLen at hm; omega
    refine ⟨some a, m0, c0, zs.take m0, rfl, ⟨by simp; omega, fun z hz9 => wf16 (hwf z (List.mem_of_mem_take hz9)), fun h0 => ?_⟩, hl, hcap⟩
    have hp := hcell 0 (by omega)
    have hspot : a.spot = none := by simpa [Addr.add] using World.cell?_spot hp
    have hblk : a.block < W.heap.size := by simpa [Addr.add] using World.block_lt_of_cell? W _ hp
    obtain ⟨b, off, spot⟩ := a
    simp only at hspot hblk
    subst hspot
    refine ⟨b, off, rfl, hblk, fun j x hx => ?_⟩
    have hj : j < m0 := by
      have := (List.getElem?_eq_some_iff.1 hx).1
      simp at this
      omega
    rw [List.getElem?_take_of_lt hj] at hx
    have hc := hcell j (by omega)
    rw [add_plain] at hc
    rw [hc]
    simp [List.getD, hx]
set_option maxRecDepth 100000 in
/-- A LIST OF EDGES THAT CAME IN. -/
theorem open_edges {H : Type} {enc : TypeId × Value → H} {W : World} {base : Nat} {r : Reach} {v : Value} {d : DataW H} {p : List MemPlace}
    (hv : Value.okWide Try.prog W r base 51 v) (h : DataW.Trod enc Try.prog W 0 (fun _ => true) true 51 v d p) :
    ∃ A n cap es, v = .slice A n cap ∧ EgL W W.heap.size A n es ∧ n ≤ cap ∧ cap ≤ 9223372036854775807 := by
  obtain ⟨a0, m0, c0, rfl⟩ := okWide_slice Try.underlying51 hv
  obtain ⟨fuel, hf⟩ := h
  have hf' : DataW.trod enc Try.prog W 0 (fun _ => true) true fuel 51 [.slice a0 m0 c0] = some (d, p) := hf
  rcases open_slice Try.underlying51 hf' with ⟨hcs, _⟩ | ⟨a, len, cap, m, k, D, Pl, hcs, _, hlc, hcm, hm, _, hel⟩
  · simp at hcs
    obtain ⟨rfl, rfl, rfl⟩ := hcs
    exact ⟨none, 0, 0, [], rfl, ⟨rfl, fun e he => (by cases he), fun h => absurd h (by omega)⟩, Nat.le_refl _, Nat.zero_le _⟩
  · simp at hcs
    obtain ⟨rfl, rfl, rfl⟩ := hcs
    simp only [if_true] at hm
    have hcap : c0 ≤ 9223372036854775807 := by unfold maxLen at hcm; omega
    rw [cells_edge] at hel
    have key : ∀ i, i < m0 → ∃ e : Tri, OkT e ∧ W.cell? (a.add (i * 3)) = some (.int .u16 e.1) ∧ W.cell? (a.add (i * 3 + 1)) = some (.int .u16 e.2.1) ∧ W.cell? (a.add (i * 3 + 2)) = some (.int .u8 e.2.2) := by
      intro i hi
      obtain ⟨cs', hc, ht⟩ := hel i (by omega)
      obtain ⟨_, hl2, hcell⟩ := World.cells?_some hc
      obtain ⟨y0, y1, y2, n', _, _, h0, h1, h2⟩ := trod_struct3 Try.underlying89 ht
      obtain ⟨c0, c1, c2, rfl⟩ : ∃ c0 c1 c2, cs' = [c0, c1, c2] := by
        match cs', hl2 with
        | [c0, c1, c2], _ => exact ⟨c0, c1, c2, rfl⟩
      have h0' : DataW.trod enc Try.prog W 0 (fun _ => true) true n' 50 [c0] = some y0 := h0
      have h1' : DataW.trod enc Try.prog W 0 (fun _ => true) true n' 50 [c1] = some y1 := h1
      have h2' : DataW.trod enc Try.prog W 0 (fun _ => true) true n' 5 [c2] = some y2 := h2
      obtain ⟨p, hp, _, hw0⟩ := DataW.trod_int Try.underlying50 h0'
      obtain ⟨q, hq, _, hw1⟩ := DataW.trod_int Try.underlying50 h1'
      obtain ⟨s, hs, _, hw2⟩ := DataW.trod_int Try.underlying5 h2'
      simp at hp hq hs
      subst hp; subst hq; subst hs
      have e0 := hcell 0 (by omega)
      have e1 := hcell 1 (by omega)
      have e2 := hcell 2 (by omega)
      rw [addr_zero] at e0
      rw [addr_more] at e1 e2
      exact ⟨(p, q, s), ⟨wf16 hw0, wf16 hw1, wf8 hw2⟩, by simpa using e0, by simpa using e1, by simpa using e2⟩
    obtain ⟨es, hl, hes⟩ := list_of m0 key
    refine ⟨some a, m0, c0, es, rfl, ⟨hl, fun e he => ?_, fun h0 => ?_⟩, hlc, hcap⟩
    · obtain ⟨j, hj⟩ := List.mem_iff_getElem?.1 he
      exact (hes j e hj).1
    · obtain ⟨_, _, hp, _⟩ := key 0 (by omega)
      have hspot : a.spot = none := by simpa [Addr.add] using World.cell?_spot hp
      have hblk : a.block < W.heap.size := by simpa [Addr.add] using World.block_lt_of_cell? W _ hp
      obtain ⟨b, off, spot⟩ := a
      simp only at hspot hblk
      subst hspot
      refine ⟨b, off, rfl, hblk, fun j e hj => ?_⟩
      obtain ⟨_, g0, g1, g2⟩ := hes j e hj
      rw [add_plain] at g0 g1 g2
      exact ⟨g0, by rw [Nat.add_assoc]; exact g1, by rw [Nat.add_assoc]; exact g2⟩

set_option maxRecDepth 100000 in
theorem topL_any (v : Int) (A : Option Addr) (K cap : Nat) (es : List Tri) (V : Option Addr) (m capV : Nat) (vals : List Int) (w : World) (hv : 0 ≤ v ∧ v < 65536) (h : EgL w w.heap.size A K es) (hK : K ≤ 9223372036854775807) (hx : UL16 w w.heap.size V m vals) (hm : m ≤ 9223372036854775807) :
    Calls Try.prog 6 #[.int .u16 v, .slice A K cap, .slice V m capV] w fun e w' => e = .returned (.bool true) ∧ Below w.heap.size w w' := by
  have HT := Lib.hid (topLevels_any v A K cap es V m capV vals w hv h hK hx hm)
  clear h hx
  go_enter Try.func6, Try.ntmps6
  go_wp2_with fail
  with_reducible refine HT.out.mono ?_
  rintro e w1 ⟨rfl, hb1⟩
  go_wp2_with fail
  refine (awake02_any w1).mono ?_
  rintro e w2 ⟨rfl, hb2⟩
  go_wp2_with fail
  go_ret
  exact ⟨rfl, hb1.trans (hb2.mono hb1.size)⟩
end Go.Proofs.Ytfaebmpdianniaa
