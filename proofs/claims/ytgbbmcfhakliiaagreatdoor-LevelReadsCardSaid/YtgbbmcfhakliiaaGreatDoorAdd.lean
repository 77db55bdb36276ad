/-
  The texts of a level's parts: 'add', and strconv.Itoa as it is met in any later world.
-/
import Derived.Test.YtgbbmcfhakliiaaGreatDoorNormal
import Derived.Lib.ItoaLen
namespace Go.Proofs.YtgbbmcfhakliiaaGreatDoor
open Go Go.RowKit Go.Shelf

theorem gPow : Tryz.prog.globalNamed "internal/strconv.uint64pow10" = some 0 := by kernel_rfl
abbrev Pow (W : World) : Prop := Lib.TabIs Tryz.prog W "internal/strconv.uint64pow10" .u64 Lib.pow10Tab
theorem Pow.lt {W : World} (h : Pow W) : 0 < W.heap.size := World.block_lt_of_cell? W _ (h.cell gPow 0 (by decide))
theorem Pow.below {W W' : World} {B : Nat} (h : Pow W) (hb : Below B W W') (hB : W.heap.size ≤ B ∨ 0 < B) : Pow W' :=
  var?_below hb gPow (by have := h.lt; omega) h
theorem itoa_any (n : Int) (W : World) (h : Pow W) (h0 : 0 ≤ n) (h1 : n ≤ 9223372036854775807) :
    Calls Tryz.prog 17 #[.int .i64 n] W fun e w' => e = .returned (.string ⟨(Lib.itoa n).toArray⟩) ∧ Below W.heap.size W w' :=
  (Any.strconv_Itoa Tryz.layItoa n (by omega) h1 W h).mono fun _ _ ⟨he, k, os, hw⟩ => ⟨he, hw ▸ below_grow' (below_drewN' (Below.refl _ _) k) os (Nat.le_refl _)⟩

/-- nothing below block B is other than it was, but for block T -/
structure BB (B T : Nat) (w w' : World) : Prop where
  os : w'.os = w.os
  tape : w'.tape = w.tape
  output : w'.output = w.output
  size : w.heap.size ≤ w'.heap.size
  block : ∀ k, k < B → k ≠ T → w'.heap[k]? = w.heap[k]?
theorem BB.of {B T : Nat} {w w' : World} (h : Below B w w') : BB B T w w' := ⟨h.os, h.tape, h.output, h.size, fun k hk _ => h.block k hk⟩
theorem BB.trans {B T : Nat} {a b c : World} (h : BB B T a b) (k : BB B T b c) : BB B T a c :=
  ⟨k.os.trans h.os, k.tape.trans h.tape, k.output.trans h.output, Nat.le_trans h.size k.size, fun i h1 h2 => (k.block i h1 h2).trans (h.block i h1 h2)⟩
theorem BB.below {B T : Nat} {w w' : World} (h : BB B T w w') (hT : T ≤ B) : Below T w w' := ⟨h.os, h.tape, h.output, h.size, fun k hk => h.block k (by omega) (by omega)⟩
theorem BB.cell {B T : Nat} {w w' : World} (h : BB B T w w') {p : Addr} (hp : p.block < B) (hn : p.block ≠ T) : w'.cell? p = w.cell? p := World.cell?_of_block (h.block p.block hp hn)
theorem BB.setCell {B T : Nat} {a w : World} (h : BB B T a w) (i : Nat) (u : Value) : BB B T a (w.setCell ⟨T, i, none⟩ u) :=
  ⟨h.os, h.tape, h.output, by rw [World.size_setCell]; exact h.size, fun k h1 h2 => (Below.heap_setCell w ⟨T, i, none⟩ u k h2).trans (h.block k h1 h2)⟩
theorem BB.grown {B T : Nat} {a w w' : World} {row : Option Nat} (h : BB B T a w) (hg : w.grownBy w' row) (hB : B ≤ w.heap.size) (hr : ∀ k, row = some k → B ≤ k) : BB B T a w' :=
  ⟨hg.os.trans h.os, hg.tape.trans h.tape, hg.output.trans h.output, Nat.le_trans h.size hg.size, fun k h1 h2 => (hg.block k (by omega) (fun e => by have := hr k e.symm; omega)).trans (h.block k h1 h2)⟩

theorem infoS : (Tryz.prog.info? 9).map (fun i => (i.zero, i.size, i.bytes)) = some (some (.string ⟨#[]⟩), 1, 16) := by kernel_rfl

/-- the text's row: block T holds the slice value, which owns the strings ss from block B on -/
def Txt (w : World) (B T : Nat) (ss : List ByteArray) : Prop :=
  ∃ v, w.cell? ⟨T, 0, none⟩ = some v ∧ w.frozen? ⟨T, 0, none⟩ = false ∧ w.ownsRow B 9 1 v ss.length (ss.map Value.string)

theorem Txt.slice {w : World} {B T : Nat} {ss : List ByteArray} (h : Txt w B T ss) :
    ∃ A c, w.cell? ⟨T, 0, none⟩ = some (.slice A ss.length c) ∧ w.frozen? ⟨T, 0, none⟩ = false ∧ w.ownsRow B 9 1 (.slice A ss.length c) ss.length (ss.map Value.string) ∧ ss.length ≤ c ∧ c ≤ 9223372036854775807 ∧
      (A = none ∧ ss = [] ∨ ∃ g, A = some ⟨g, 0, none⟩ ∧ B ≤ g ∧ g < w.heap.size) := by
  obtain ⟨v, h1, h2, h3⟩ := h
  have h0 := h3
  rcases h3.2 with ⟨rfl, hn⟩ | ⟨g, cap, cur, rfl, hb, hg, hc, hm, _, _⟩
  · have e : ss = [] := List.eq_nil_of_length_eq_zero hn
    subst e
    exact ⟨none, 0, h1, h2, h0, Nat.le_refl _, by omega, .inl ⟨rfl, rfl⟩⟩
  · exact ⟨_, cap, h1, h2, h0, hc, by unfold maxLen at hm; omega, .inr ⟨g, rfl, hb, (Array.getElem?_eq_some_iff.1 hg).1⟩⟩

theorem own_slice {w : World} {base : Nat} {e : TypeId} {size n : Nat} {v : Value} {xs : List Value} (h : w.ownsRow base e size v n xs) : ∃ A c, v = .slice A n c := by
  rcases h.2 with ⟨rfl, rfl⟩ | ⟨g, cap, cur, rfl, _⟩
  · exact ⟨_, _, rfl⟩
  · exact ⟨_, _, rfl⟩
theorem news1 {w : World} {s : ByteArray} {t : TypeId} : ∀ j u, [Value.string s][j]? = some u → (w.alloc (.cells #[.string s] t)).cell? ((⟨w.heap.size, 0, none⟩ : Addr).add j) = some u := by
  intro j u hj
  match j, hj with
  | 0, hj => simp at hj; subst hj; simp [Addr.add]
  | j + 1, hj => simp at hj

set_option maxRecDepth 100000 in
set_option maxHeartbeats 2000000 in
theorem add_any (B T : Nat) (ss : List ByteArray) (s : ByteArray) (w : World) (h : Txt w B T ss) (hTB : T < B) (hB : B ≤ w.heap.size) (hn : ss.length ≤ 1000) :
    Calls Tryz.prog 15 #[.pointer (some ⟨T, 0, none⟩), .string s] w fun e w' => e = .returned (.tuple #[]) ∧ Txt w' B T (ss ++ [s]) ∧ BB B T w w' := by
  obtain ⟨A, c, k0, k1, hown, hlc, hc, _⟩ := h.slice
  obtain ⟨i0, hi, hz0, hz1, hz2⟩ := info_parts infoS
  have hTl : T < w.heap.size := by omega
  have hne : T ≠ w.heap.size := by omega
  clear h
  have hss : (ss.map Value.string) ++ [Value.string s] = (ss ++ [s]).map Value.string := by simp
  have hln : (ss ++ [s]).length = ss.length + 1 := by simp
  have Hss := Lib.hid hss; clear hss
  go_enter Tryz.func15, Tryz.ntmps15
  go_wp2_with (at_builtin; refine wpList_append_own _ rfl _ _ 37 rfl B 9 i0 (.string ⟨#[]⟩) 1 16 Tryz.underlying37 hi hz0 hz1 hz2 rfl (by decide) (.slice A ss.length c) ss.length (ss.map Value.string) rfl (hown.alloc _) ⟨w.heap.size, 0, none⟩ 1 1 [.string s] rfl rfl news1 (fun u hu => by rw [List.mem_singleton.1 hu]; rfl) (by unfold maxLen; omega) (by omega) (by simp; omega) ?_)
  intro v' w1 hown1 hgrow _
  rw [Hss.out] at hown1
  obtain ⟨A', c', rfl⟩ := own_slice hown1
  have hrow : ∀ k, (Value.slice A ss.length c).ownBlock = some k → B ≤ k := fun k hk => (hown.lt k hk).1
  have hTr : some T ≠ (Value.slice A ss.length c).ownBlock := fun e => by have := hrow T e.symm; omega
  have z0 : w1.cell? ⟨T, 0, none⟩ = some (.slice A ss.length c) := hgrow.cell ((World.cell?_alloc_lt w _ ⟨T, 0, none⟩ hTl).trans k0) hTr
  have z1 : w1.frozen? ⟨T, 0, none⟩ = false := (World.frozen?_of_block (hgrow.block T (by simp; omega) hTr)).trans ((World.frozen?_of_block (Below.heap_alloc w _ T hTl)).trans k1)
  have hbb : BB B T w w1 := (BB.of ((Below.refl _ _).alloc hB _)).grown hgrow (by simp; omega) hrow
  have hT1 := World.cell?_setCell_same w1 ⟨T, 0, none⟩ (.slice A' (ss.length + 1) c') z0
  clear k0 k1
  go_wp2_with fail
  go_end0
  refine ⟨rfl, ⟨_, hT1, by rw [World.frozen?_setCell]; exact z1, ?_⟩, hbb.setCell 0 _⟩
  rw [hln]
  exact ownsRow_setCell_below (a := ⟨T, 0, none⟩) hown1 hTB _
end Go.Proofs.YtgbbmcfhakliiaaGreatDoor
