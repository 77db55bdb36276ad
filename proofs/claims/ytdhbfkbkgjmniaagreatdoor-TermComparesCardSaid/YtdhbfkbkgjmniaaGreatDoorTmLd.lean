/-
  The tables out of the rows' own list; a world for the witness.
-/
import Derived.Test.YtdhbfkbkgjmniaaGreatDoorCards
import Derived.Test.YtdhbfkbkgjmniaaGreatDoorTie
import Derived.Test.YtdhbfkbkgjmniaaGreatDoorTmOp
import Derived.ChangeMaps5
import Derived.ChangeAgain
import Derived.LaidLaws
namespace Go.Proofs.YtdhbfkbkgjmniaaGreatDoor
open Go Go.ChangeShapes Go.WideShapes Go.ChangeAt Go.RowKit Go.Joins Go.Deep

theorem gPowType : (Tryz.prog.globals[1]?).map (·.type) = some 232 := by kernel_rfl
theorem cells_pow : Tryz.prog.cellsOf 232 = 20 := by kernel_rfl
theorem tab_rfl : (Rows.laid_internal_strconv_uint64pow10 : DataW Unit) = Lib.tabData .u64 Lib.pow10Tab := by kernel_rfl
/-- the row's list of laid variables -/
abbrev Laid4 : List (String × DataW Unit) := [("math/bits.deBruijn32tab", Rows.laid_math_bits_deBruijn32tab), ("math/bits.deBruijn64tab", Rows.laid_math_bits_deBruijn64tab), ("internal/strconv.uint64pow10", Rows.laid_internal_strconv_uint64pow10), ("tenet/term.shapes", Rows.laid_tenet_term_shapes)]
theorem powT_of_laid {W : World} (h : laidMetH Tryz.prog Laid4 W) : PowT W := by
  have h1 : laidMet Tryz.prog Laid4 W := h
  obtain ⟨g', t', cs, fuel, p, hg', ht', hvar, hd⟩ := Lib.laidMet.reads h1 (n := "internal/strconv.uint64pow10") (d := Rows.laid_internal_strconv_uint64pow10) (by simp)
  obtain rfl := Option.some.inj (gPowT.symm.trans hg')
  obtain rfl := Option.some.inj (gPowType.symm.trans ht')
  rw [tab_rfl] at hd
  show W.var? Tryz.prog "internal/strconv.uint64pow10" = _
  rw [hvar, ← Lib.cells_of_tab Tryz.underlying232 Tryz.underlying178 cells_u64 cells_pow hd]

theorem gShp : Tryz.prog.globalNamed "tenet/term.shapes" = some 0 := by kernel_rfl
theorem gShpType : (Tryz.prog.globals[0]?).map (·.type) = some 85 := by kernel_rfl
theorem cells_shps : Tryz.prog.cellsOf 85 = 124 := by kernel_rfl
theorem cells_shp : Tryz.prog.cellsOf 84 = 4 := by kernel_rfl
def rowData (x : ShRow) : DataW Unit := .agg [.lit (.string x.word.data.toList), .lit (.int .i64 x.kind), .lit (.int .i64 x.most), .lit (.string x.binds.data.toList)]
theorem shapes_rfl : (Rows.laid_tenet_term_shapes : DataW Unit) = .agg (shTab.map rowData) := by kernel_rfl
theorem bytes_ext {s u : ByteArray} (h : s.data.toList = u.data.toList) : s = u := by
  cases s; cases u
  congr
  exact Array.toList_inj.1 h
section
variable {H : Type} {enc : TypeId × Value → H} {W : World}
set_option maxRecDepth 100000 in
theorem trod_shape {fuel base : Nat} {sp : Nat → Bool} {held : Bool} {cs : List Value} {x : ShRow} {p : List MemPlace} {enc : TypeId × Value → Unit} (h : DataW.trod enc Tryz.prog W base sp held fuel 84 cs = some (rowData x, p)) :
    cs = [.string x.word, .int .i64 x.kind, .int .i64 x.most, .string x.binds] := by
  obtain ⟨y0, y1, y2, y3, n, hx, hl, h0, h1, h2, h3⟩ := trod_struct4 Tryz.underlying84 h
  rw [cells_shp] at hl
  obtain ⟨c0, c1, c2, c3, rfl⟩ : ∃ c0 c1 c2 c3, cs = [c0, c1, c2, c3] := by
    match cs, hl with
    | [c0, c1, c2, c3], _ => exact ⟨c0, c1, c2, c3, rfl⟩
  have h0' : DataW.trod enc Tryz.prog W base sp held n 9 [c0] = some y0 := h0
  have h1' : DataW.trod enc Tryz.prog W base sp held n 3 [c1] = some y1 := h1
  have h2' : DataW.trod enc Tryz.prog W base sp held n 3 [c2] = some y2 := h2
  have h3' : DataW.trod enc Tryz.prog W base sp held n 9 [c3] = some y3 := h3
  obtain ⟨s, hs, rfl, _⟩ := DataW.trod_string Tryz.underlying9 h0'
  obtain ⟨k, hk, rfl, _⟩ := DataW.trod_int Tryz.underlying3 h1'
  obtain ⟨m, hm, rfl, _⟩ := DataW.trod_int Tryz.underlying3 h2'
  obtain ⟨b, hb, rfl, _⟩ := DataW.trod_string Tryz.underlying9 h3'
  have hx1 := congrArg Prod.fst hx
  simp only [rowData, DataW.agg.injEq, List.cons.injEq, DataW.lit.injEq, Lit.string.injEq, Lit.int.injEq, true_and, and_true] at hx1
  simp only [List.cons.injEq, and_true] at hs hk hm hb
  obtain ⟨e0, e1, e2, e3⟩ := hx1
  subst hs; subst hk; subst hm; subst hb
  rw [e1, e2, bytes_ext e0, bytes_ext e3]
end
set_option maxRecDepth 100000 in
theorem shp_of_laid {W : World} (h : laidMetH Tryz.prog Laid4 W) : Shp W := by
  have h1 : laidMet Tryz.prog Laid4 W := h
  obtain ⟨g', t', cs, fuel, p, hg', ht', hvar, hd⟩ := Lib.laidMet.reads h1 (n := "tenet/term.shapes") (d := Rows.laid_tenet_term_shapes) (by simp)
  obtain rfl := Option.some.inj (gShp.symm.trans hg')
  obtain rfl := Option.some.inj (gShpType.symm.trans ht')
  rw [shapes_rfl] at hd
  have key : ∀ (r : Nat) (x : ShRow), shTab[r]? = some x → (cs.toList.drop (r * 4)).take 4 = [.string x.word, .int .i64 x.kind, .int .i64 x.most, .string x.binds] := by
    cases fuel with
    | zero => simp [DataW.trod] at hd
    | succ fuel =>
      simp only [DataW.trod, Tryz.underlying85, cells_shp, cells_shps] at hd
      split at hd
      · obtain ⟨xs, hm, hx⟩ := Option.map_eq_some_iff.1 hd
        have hxs : xs.map (·.1) = shTab.map rowData := by
          have := congrArg Prod.fst hx
          simpa using this
        intro r x hr
        have hr31 : r < 31 := by have := (List.getElem?_eq_some_iff.1 hr).1; rw [shTab_len] at this; exact this
        obtain ⟨b, hb, hf⟩ := Lib.mapM_at hm r r (by simp [hr31])
        have hb1 : b.1 = rowData x := by
          have := congrArg (·[r]?) hxs
          simp only [List.getElem?_map, hb, hr, Option.map_some] at this
          exact Option.some.inj this
        obtain ⟨b1, b2⟩ := b
        simp only at hb1
        subst hb1
        exact trod_shape hf
      · cases hd
  have hcell : ∀ i, W.cell? ⟨0, i, none⟩ = cs[i]? := fun i => World.var?_cell gShp hvar i
  have hall : ∀ (r : Nat) (x : ShRow), shTab[r]? = some x → W.cell? ⟨0, r * 4, none⟩ = some (.string x.word) ∧ W.cell? ⟨0, r * 4 + 1, none⟩ = some (.int .i64 x.kind) ∧ W.cell? ⟨0, r * 4 + 2, none⟩ = some (.int .i64 x.most) ∧ W.cell? ⟨0, r * 4 + 3, none⟩ = some (.string x.binds) := fun r x hr => by
    have hk := key r x hr
    have at_ : ∀ j, j < 4 → cs[r * 4 + j]? = [Value.string x.word, .int .i64 x.kind, .int .i64 x.most, .string x.binds][j]? := fun j hj => by
      rw [← hk, List.getElem?_take_of_lt hj, List.getElem?_drop]; simp
    exact ⟨(hcell _).trans (at_ 0 (by omega)), (hcell _).trans (at_ 1 (by omega)), (hcell _).trans (at_ 2 (by omega)), (hcell _).trans (at_ 3 (by omega))⟩
  exact ⟨World.block_lt_of_cell? W _ (hall 0 _ rfl).1, hall⟩

def flatCells : DataW Unit → List Value
  | .lit (.int k z) => [.int k z]
  | .lit (.string b) => [.string ⟨b.toArray⟩]
  | .agg ps => ps.flatMap fun | .lit (.int k z) => [Value.int k z] | .lit (.string b) => [.string ⟨b.toArray⟩] | .agg qs => qs.map (fun | .lit (.int k z) => Value.int k z | .lit (.string b) => .string ⟨b.toArray⟩ | _ => Value.bool false) | _ => []
  | _ => []
def layTab4 (d : DataW Unit) : Obj → Obj
  | .cells _ t frozen => .cells (flatCells d).toArray t frozen
  | o => o
/-- A WORLD FOR THE WITNESS: the settled one, the tables holding what their initialisers lay. -/
noncomputable def laidWorld (os : Os) : World :=
  { World.holding Tryz.prog os ⟨#[], #[], []⟩ with heap := ((((World.holding Tryz.prog os ⟨#[], #[], []⟩).heap.modify 1 (layTab4 Rows.laid_internal_strconv_uint64pow10)).modify 5 (layTab4 Rows.laid_math_bits_deBruijn32tab)).modify 6 (layTab4 Rows.laid_math_bits_deBruijn64tab)).modify 0 (layTab4 Rows.laid_tenet_term_shapes) }
set_option maxRecDepth 100000 in
theorem laid_met (os : Os) (args : Array Value) : laidMet Tryz.prog Laid4 ((laidWorld os).forCall (fun _ _ => 0) ⟨#[], args, []⟩).memory :=
  laidMet_of_run' 8 (by kernel_rfl) (by kernel_rfl)
theorem read_term : Tryz.prog.readableRec 25 = true := by kernel_rfl
theorem row_term : 25 < Tryz.prog.types.size := of_decide_eq_true (by kernel_rfl)
end Go.Proofs.YtdhbfkbkgjmniaaGreatDoor
