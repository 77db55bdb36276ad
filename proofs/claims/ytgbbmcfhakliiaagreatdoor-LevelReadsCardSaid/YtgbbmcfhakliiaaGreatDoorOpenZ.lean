/-
  For the rows that read texts: the tables and the two error variables out of the row's own list; a text that came in; a world for the witness.
-/
import Derived.Test.YtgbbmcfhakliiaaGreatDoorOpen
import Derived.Test.YtgbbmcfhakliiaaGreatDoorAtoi
import Derived.ChangeMaps5
import Derived.ChangeAgain
import Derived.LaidLaws
namespace Go.Proofs.YtgbbmcfhakliiaaGreatDoor
open Go Go.ChangeShapes Go.WideShapes Go.ChangeAt Go.RowKit Go.Joins Go.Deep

/-- the row's list of laid variables -/
abbrev Laid7 : List (String × DataW Unit) := [("math/bits.deBruijn32tab", Rows.laid_math_bits_deBruijn32tab), ("math/bits.deBruijn64tab", Rows.laid_math_bits_deBruijn64tab), ("internal/strconv.uint64pow10", Rows.laid_internal_strconv_uint64pow10), ("unicode/utf8.acceptRanges", Rows.laid_unicode_utf8_acceptRanges), ("strconv.ErrRange", Rows.laid_strconv_ErrRange), ("strconv.ErrSyntax", Rows.laid_strconv_ErrSyntax), ("unicode/utf8.first", Rows.laid_unicode_utf8_first)]
theorem powz_of_laid {W : World} (h : laidMetH Tryz.prog Laid7 W) : Pow W := by
  have h1 : laidMet Tryz.prog Laid7 W := h
  obtain ⟨g', t', cs, fuel, p, hg', ht', hvar, hd⟩ := Lib.laidMet.reads h1 (n := "internal/strconv.uint64pow10") (d := Rows.laid_internal_strconv_uint64pow10) (List.mem_cons_of_mem _ (List.mem_cons_of_mem _ (List.mem_cons_self ..)))
  obtain rfl := Option.some.inj (gPow.symm.trans hg')
  obtain rfl := Option.some.inj (gPowType.symm.trans ht')
  rw [tab_rfl] at hd
  show W.var? Tryz.prog "internal/strconv.uint64pow10" = _
  rw [hvar, ← Lib.cells_of_tab Tryz.underlying114 Tryz.underlying91 cells_u64 cells_pow hd]
theorem gSyn : Tryz.prog.globalNamed "strconv.ErrSyntax" = some 1 := by kernel_rfl
theorem gRng : Tryz.prog.globalNamed "strconv.ErrRange" = some 2 := by kernel_rfl
theorem gSynType : (Tryz.prog.globals[1]?).map (·.type) = some 62 := by kernel_rfl
theorem gRngType : (Tryz.prog.globals[2]?).map (·.type) = some 62 := by kernel_rfl
theorem errs_of_laid {W : World} (h : laidMetH Tryz.prog Laid7 W) : Errs W := by
  have h1 : laidMet Tryz.prog Laid7 W := h
  constructor
  · obtain ⟨g', t', cs, fuel, p, hg', ht', hvar, hd⟩ := Lib.laidMet.reads h1 (n := "strconv.ErrSyntax") (d := Rows.laid_strconv_ErrSyntax) (by simp)
    obtain rfl := Option.some.inj (gSyn.symm.trans hg')
    obtain rfl := Option.some.inj (gSynType.symm.trans ht')
    obtain ⟨f1, u, v, e, hn, _⟩ := iface_of_trod Tryz.underlying62 hd
    obtain ⟨l⟩ := cs
    simp at e; subst e
    exact ⟨u, v, hvar⟩
  · obtain ⟨g', t', cs, fuel, p, hg', ht', hvar, hd⟩ := Lib.laidMet.reads h1 (n := "strconv.ErrRange") (d := Rows.laid_strconv_ErrRange) (by simp)
    obtain rfl := Option.some.inj (gRng.symm.trans hg')
    obtain rfl := Option.some.inj (gRngType.symm.trans ht')
    obtain ⟨f1, u, v, e, hn, _⟩ := iface_of_trod Tryz.underlying62 hd
    obtain ⟨l⟩ := cs
    simp at e; subst e
    exact ⟨u, v, hvar⟩
theorem var_lt {W : World} {n : String} {g : Nat} {cs : Array Value} (hg : Tryz.prog.globalNamed n = some g) (h : W.var? Tryz.prog n = some cs) : g < W.heap.size := by
  unfold World.var? at h
  simp only [hg, Option.bind_some] at h
  rcases Nat.lt_or_ge g W.heap.size with h' | h'
  · exact h'
  · rw [Array.getElem?_eq_none h'] at h; simp at h
theorem later {W : World} (hS : W.ShapedOpen Tryz.prog) (hE : Errs W) : ∀ w1, Below W.heap.size W w1 → w1.ShapedOpen Tryz.prog ∧ Errs w1 := by
  intro w1 hb
  obtain ⟨⟨t1, p1, h1⟩, t2, p2, h2⟩ := hE
  exact ⟨hS.keptBut (hb.frame fun _ => False) (fun p hp => hp.elim), ⟨t1, p1, var?_below hb gSyn (var_lt gSyn h1) h1⟩, t2, p2, var?_below hb gRng (var_lt gRng h2) h2⟩

def tabCells2 (d : DataW Unit) : Array Value := match d with
  | .agg ps => (ps.flatMap fun | .lit (.int k z) => [Value.int k z] | .agg qs => qs.map (fun | .lit (.int k z) => Value.int k z | _ => Value.bool false) | _ => []).toArray
  | _ => #[]
def layTab2 (d : DataW Unit) : Obj → Obj
  | .cells _ t frozen => .cells (tabCells2 d) t frozen
  | o => o
def layErr (b : Nat) : Obj → Obj
  | .cells _ t frozen => .cells #[.iface 139 (.pointer (some ⟨b, 0, none⟩))] t frozen
  | o => o
def errText (d : DataW Unit) : ByteArray := match d with
  | .iface _ (.ptr (.agg [.lit (.string l)])) => ⟨l.toArray⟩
  | _ => ⟨#[]⟩
noncomputable def lowz : Nat := (World.holding Tryz.prog default ⟨#[], #[], []⟩).heap.size
/-- A WORLD FOR THE WITNESS: the settled one, the tables and the two errors holding what their initialisers lay. -/
noncomputable def laidWorldZ (os : Os) : World :=
  let w0 := World.holding Tryz.prog os ⟨#[.cells #[.string (errText Rows.laid_strconv_ErrSyntax)] 141, .cells #[.string (errText Rows.laid_strconv_ErrRange)] 141], #[], []⟩
  { w0 with heap := ((((((w0.heap.modify 0 (layTab2 Rows.laid_internal_strconv_uint64pow10)).modify 4 (layTab2 Rows.laid_math_bits_deBruijn32tab)).modify 5 (layTab2 Rows.laid_math_bits_deBruijn64tab)).modify 6 (layTab2 Rows.laid_unicode_utf8_first)).modify 7 (layTab2 Rows.laid_unicode_utf8_acceptRanges)).modify 1 (layErr lowz)).modify 2 (layErr (lowz + 1)) }
set_option maxRecDepth 100000 in
theorem laidz_met (os : Os) (args : Array Value) : laidMet Tryz.prog Laid7 ((laidWorldZ os).forCall (fun _ _ => 0) ⟨#[], args, []⟩).memory :=
  laidMet_of_run' 8 (by kernel_rfl) (by kernel_rfl)
end Go.Proofs.YtgbbmcfhakliiaaGreatDoor
