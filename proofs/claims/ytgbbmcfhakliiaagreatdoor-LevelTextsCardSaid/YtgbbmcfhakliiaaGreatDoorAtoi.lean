/-
  strconv.Atoi at every text: the number and no error, or some error that is not nil (the two error variables laid).
-/
import Derived.Test.YtgbbmcfhakliiaaGreatDoorShelf
import Derived.Test.YtgbbmcfhakliiaaGreatDoorBel
import Derived.Test.YtgbbmcfhakliiaaGreatDoorTxtR
namespace Go.Proofs.YtgbbmcfhakliiaaGreatDoor
open Go Go.RowKit

/-- the two error variables of the library, as they are laid -/
def Errs (w : World) : Prop := (∃ tp p, w.var? Tryz.prog "strconv.ErrSyntax" = some #[.iface tp p]) ∧ ∃ tp p, w.var? Tryz.prog "strconv.ErrRange" = some #[.iface tp p]

theorem atoi_ok (s : ByteArray) (hs : s.size ≤ 1000000) (v : Int) (h : Lib.atoiAll s.data.toList = .ok v) (w : World) :
    Calls Tryz.prog 33 #[.string s] w fun e w' => e = .returned (.tuple #[.int .i64 v, .nilIface]) ∧ Below w.heap.size w w' :=
  (Any.strconv_Atoi_ok Tryz.layAtoi s (by omega) v h w).mono fun e w' ⟨h1, h2⟩ => ⟨h1, by
    rcases h2 with rfl | ⟨t, rfl⟩
    · exact Below.refl _ _
    · exact Lib.bytesWorld_below _ _ _⟩
theorem atoi_bad (s : ByteArray) (hs : s.size ≤ 1000000) (h : ∀ v, Lib.atoiAll s.data.toList ≠ .ok v) (w : World) (hE : Errs w) :
    Calls Tryz.prog 33 #[.string s] w fun e w' => ∃ v t p, e = .returned (.tuple #[.int .i64 v, .iface t p]) ∧ Below w.heap.size w w' := by
  obtain ⟨⟨t1, p1, h1⟩, t2, p2, h2⟩ := hE
  cases hr : Lib.atoiAll s.data.toList with
  | ok v => exact absurd hr (h v)
  | «syntax» => exact (Any.strconv_Atoi_syntax_var Tryz.layAtoi s (by omega) hr t1 p1 w h1).mono fun e w' ⟨N, e1, _, _, hb⟩ => ⟨_, _, _, e1, hb⟩
  | range => exact (Any.strconv_Atoi_range_var Tryz.layAtoi s (by omega) hr t2 p2 w h2).mono fun e w' ⟨N, e1, _, _, hb⟩ => ⟨_, _, _, e1, hb⟩

theorem atoi_any (s : ByteArray) (hs : s.size ≤ 1000000) (w : World) (hE : Errs w) :
    Calls Tryz.prog 33 #[.string s] w fun e w' => ∃ v er, e = .returned (.tuple #[.int .i64 v, er]) ∧ Below w.heap.size w w' ∧ ((Lib.atoiAll s.data.toList = .ok v ∧ er = .nilIface) ∨ ((∀ v', Lib.atoiAll s.data.toList ≠ .ok v') ∧ ∃ t p, er = .iface t p)) := by
  by_cases h : ∃ v, Lib.atoiAll s.data.toList = .ok v
  · obtain ⟨v, h⟩ := h
    exact (atoi_ok s hs v h w).mono fun e w' ⟨h1, h2⟩ => ⟨v, _, h1, h2, .inl ⟨h, rfl⟩⟩
  · have h' : ∀ v, Lib.atoiAll s.data.toList ≠ .ok v := fun v e => h ⟨v, e⟩
    exact (atoi_bad s hs h' w hE).mono fun e w' ⟨v, t, p, h1, h2⟩ => ⟨v, _, h1, h2, .inr ⟨h', t, p, rfl⟩⟩

theorem cut_size {l : List UInt8} {C : List UInt8 × List UInt8 × Bool} (h : Lib.cut l [43] = C) : C.1.length ≤ l.length ∧ C.2.1.length ≤ l.length := by
  subst h
  unfold Lib.cut
  split <;> simp
  omega

end Go.Proofs.YtgbbmcfhakliiaaGreatDoor
