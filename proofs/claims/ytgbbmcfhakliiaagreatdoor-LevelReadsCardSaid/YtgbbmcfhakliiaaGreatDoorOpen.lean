/-
  What a level that came in gives the walk; the table of powers out of the row's own list; a world for the witness. Shared by all the rows of the seat.
-/
import Derived.Test.YtgbbmcfhakliiaaGreatDoorCards
import Derived.Test.YtgbbmcfhakliiaaGreatDoorTie
import Derived.Test.YtgbbmcfhakliiaaGreatDoorAdd
import Derived.ProofKit
import Derived.OpenShut
import Derived.Deep.DeepHandedRow
import Derived.Lib.LaidTab
import Derived.Lib.LaidU8
import Derived.Lib.SmallJoins
import Derived.Deep.Slices
import Derived.Carry
namespace Go.Proofs.YtgbbmcfhakliiaaGreatDoor
open Go Go.ChangeShapes Go.WideShapes Go.ChangeAt Go.RowKit Go.Joins Go.Deep

theorem own_ : ownKnob Tryz.prog.godebug = none := by kernel_rfl
theorem laidOut_ : laidOutB Tryz.prog = true := by kernel_rfl
theorem gPowType : (Tryz.prog.globals[0]?).map (·.type) = some 114 := by kernel_rfl
theorem cells_pow : Tryz.prog.cellsOf 114 = 20 := by kernel_rfl
theorem cells_u64 : Tryz.prog.cellsOf 91 = 1 := by kernel_rfl
theorem cells_level : Tryz.prog.cellsOf 24 = 2 := by kernel_rfl
theorem cells_lvar : Tryz.prog.cellsOf 45 = 2 := by kernel_rfl
theorem read_level : Tryz.prog.readableRec 24 = true := by kernel_rfl
theorem row_level : 24 < Tryz.prog.types.size := of_decide_eq_true (by kernel_rfl)

theorem tab_rfl : (Rows.laid_internal_strconv_uint64pow10 : DataW Unit) = Lib.tabData .u64 Lib.pow10Tab := by kernel_rfl

/-- the table of powers, off the row's list of laid variables -/
theorem pow_of_laid {W : World} (h : laidMetH Tryz.prog [("math/bits.deBruijn32tab", Rows.laid_math_bits_deBruijn32tab), ("math/bits.deBruijn64tab", Rows.laid_math_bits_deBruijn64tab), ("internal/strconv.uint64pow10", Rows.laid_internal_strconv_uint64pow10)] W) : Pow W := by
  have h1 : laidMet Tryz.prog [("math/bits.deBruijn32tab", Rows.laid_math_bits_deBruijn32tab), ("math/bits.deBruijn64tab", Rows.laid_math_bits_deBruijn64tab), ("internal/strconv.uint64pow10", Rows.laid_internal_strconv_uint64pow10)] W := h
  obtain ⟨g', t', cs, fuel, p, hg', ht', hvar, hd⟩ := Lib.laidMet.reads h1 (n := "internal/strconv.uint64pow10") (d := Rows.laid_internal_strconv_uint64pow10) (List.mem_cons_of_mem _ (List.mem_cons_of_mem _ (List.mem_cons_self ..)))
  obtain rfl := Option.some.inj (gPow.symm.trans hg')
  obtain rfl := Option.some.inj (gPowType.symm.trans ht')
  rw [tab_rfl] at hd
  show W.var? Tryz.prog "internal/strconv.uint64pow10" = _
  rw [hvar, ← Lib.cells_of_tab Tryz.underlying114 Tryz.underlying91 cells_u64 cells_pow hd]

theorem addr_one (a : Addr) (n : Nat) : (a.add n).add 1 = a.add (n + 1) := by
  unfold Addr.add
  by_cases h : n = 0
  · subst h; simp
  · simp [h, Nat.add_assoc]
theorem addr_zero (a : Addr) : a.add 0 = a := by simp [Addr.add]
set_option maxRecDepth 100000 in
/-- A LIST OF PARTS THAT CAME IN. -/
theorem open_vars {H : Type} {enc : TypeId × Value → H} {W : World} {fuel : Nat} {v : Value} {x : DataW H × List MemPlace}
    (h : DataW.trod enc Tryz.prog W 0 (fun _ => true) true fuel 22 [v] = some x) :
    ∃ A n cap l, v = .slice A n cap ∧ PL W W.heap.size A n l ∧ n ≤ cap ∧ cap ≤ 9223372036854775807 := by
  rcases open_slice Tryz.underlying22 h with ⟨hcs, _⟩ | ⟨a, len, cap, m, k, D, Pl, hcs, _, hlc, hcm, hm, _, hel⟩
  · obtain rfl : v = .slice none 0 0 := by simpa using hcs
    exact ⟨none, 0, 0, [], rfl, PL.nil_ _, Nat.le_refl _, Nat.zero_le _⟩
  · obtain rfl : v = .slice (some a) len cap := by simpa using hcs
    simp only [if_true] at hm
    have hcap : cap ≤ 9223372036854775807 := by unfold maxLen at hcm; omega
    rw [cells_lvar] at hel
    have key : ∀ i, i < cap → ∃ p q : Int, W.cell? (a.add (i * 2)) = some (.int .i64 p) ∧ W.cell? (a.add (i * 2 + 1)) = some (.int .i64 q) := by
      intro i hi
      obtain ⟨cs', hc, ht⟩ := hel i (by omega)
      obtain ⟨_, hl2, hcell⟩ := World.cells?_some hc
      obtain ⟨y0, y1, n', _, _, h0, h1⟩ := trod_struct2 Tryz.underlying45 ht
      obtain ⟨c0, c1, rfl⟩ : ∃ c0 c1, cs' = [c0, c1] := by
        match cs', hl2 with
        | [c0, c1], _ => exact ⟨c0, c1, rfl⟩
      have h0' : DataW.trod enc Tryz.prog W 0 (fun _ => true) true n' 3 [c0] = some y0 := h0
      have h1' : DataW.trod enc Tryz.prog W 0 (fun _ => true) true n' 3 [c1] = some y1 := h1
      obtain ⟨p, hp, _, _⟩ := DataW.trod_int Tryz.underlying3 h0'
      obtain ⟨q, hq, _, _⟩ := DataW.trod_int Tryz.underlying3 h1'
      simp at hp hq
      subst hp; subst hq
      have e0 := hcell 0 (by omega)
      have e1 := hcell 1 (by omega)
      rw [addr_zero] at e0
      rw [addr_one] at e1
      exact ⟨p, q, by simpa using e0, by simpa using e1⟩
    refine ⟨some a, len, cap, (List.range len).map fun i => ((match W.cell? (a.add (i * 2)) with | some (.int _ z) => z | _ => 0), (match W.cell? (a.add (i * 2 + 1)) with | some (.int _ z) => z | _ => 0)), rfl, ⟨by simp, fun h0 => ?_⟩, hlc, hcap⟩
    obtain ⟨p, q, hp, _⟩ := key 0 (by omega)
    have hspot : a.spot = none := by simpa [Addr.add] using World.cell?_spot hp
    have hblk : a.block < W.heap.size := by simpa [Addr.add] using World.block_lt_of_cell? W _ hp
    obtain ⟨b, off, spot⟩ := a
    simp only at hspot hblk
    subst hspot
    have eadd : ∀ k, (⟨b, off, none⟩ : Addr).add k = ⟨b, off + k, none⟩ := add_plain b off
    refine ⟨b, off, rfl, hblk, fun j y hy => ?_⟩
    have hj : j < len := by
      have := (List.getElem?_eq_some_iff.1 hy).1
      simpa using this
    obtain ⟨p, q, hp, hq⟩ := key j (by omega)
    simp only [List.getElem?_map, List.getElem?_range hj, Option.map_some, hp, hq, Option.some.injEq] at hy
    subst hy
    rw [eadd] at hp hq
    exact ⟨hp, by rw [Nat.add_assoc]; exact hq⟩

set_option maxRecDepth 100000 in
/-- A LEVEL THAT CAME IN. -/
theorem open_level {H : Type} {enc : TypeId × Value → H} {W : World} {r : Reach} {base : Nat} {v : Value} {d : DataW H} {p : List MemPlace}
    (hv : Value.okWide Tryz.prog W r base 24 v) (h : DataW.Trod enc Tryz.prog W 0 (fun _ => true) true 24 v d p) :
    ∃ c A n cap l, v = .agg #[.int .i64 c, .slice A n cap] ∧ PL W W.heap.size A n l ∧ n ≤ cap ∧ cap ≤ 9223372036854775807 ∧ (Lit.int .i64 c).wf = true := by
  obtain ⟨v0, v1, y0, y1, n', rfl, _, _, h0, h1⟩ := open_agg2 Tryz.underlying24 (by kernel_rfl) cells_level hv h
  have h0' : DataW.trod enc Tryz.prog W 0 (fun _ => true) true n' 3 [v0] = some y0 := h0
  have h1' : DataW.trod enc Tryz.prog W 0 (fun _ => true) true n' 22 [v1] = some y1 := h1
  obtain ⟨c, hc, _, hwf⟩ := DataW.trod_int Tryz.underlying3 h0'
  obtain ⟨A, n, cap, l, rfl, hp, hn, hm⟩ := open_vars h1'
  simp at hc
  subst hc
  exact ⟨c, A, n, cap, l, rfl, hp, hn, hm, hwf⟩

def tabCells (d : DataW Unit) : Array Value := match d with
  | .agg ps => (ps.map fun | .lit (.int k z) => Value.int k z | _ => Value.bool false).toArray
  | _ => #[]
def layTab (d : DataW Unit) : Obj → Obj
  | .cells _ t frozen => .cells (tabCells d) t frozen
  | o => o
/-- A WORLD FOR THE WITNESS: the settled one, the three tables holding what their initialisers lay. -/
noncomputable def laidWorld (os : Os) : World :=
  { World.holding Tryz.prog os ⟨#[], #[], []⟩ with heap := (((World.holding Tryz.prog os ⟨#[], #[], []⟩).heap.modify 0 (layTab Rows.laid_internal_strconv_uint64pow10)).modify 4 (layTab Rows.laid_math_bits_deBruijn32tab)).modify 5 (layTab Rows.laid_math_bits_deBruijn64tab) }
set_option maxRecDepth 100000 in
theorem laid_met (os : Os) (args : Array Value) : laidMet Tryz.prog [("math/bits.deBruijn32tab", Rows.laid_math_bits_deBruijn32tab), ("math/bits.deBruijn64tab", Rows.laid_math_bits_deBruijn64tab), ("internal/strconv.uint64pow10", Rows.laid_internal_strconv_uint64pow10)] ((laidWorld os).forCall (fun _ _ => 0) ⟨#[], args, []⟩).memory :=
  laidMet_of_run' 8 (by kernel_rfl) (by kernel_rfl)
end Go.Proofs.YtgbbmcfhakliiaaGreatDoor
