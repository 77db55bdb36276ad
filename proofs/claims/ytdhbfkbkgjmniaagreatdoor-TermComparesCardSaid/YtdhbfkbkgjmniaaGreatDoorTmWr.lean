/-
  'write' of package term at terms of plain nodes; 'Format' of such terms; the law's 'awake'.
-/
import Derived.Test.YtdhbfkbkgjmniaaGreatDoorTmAw
import Derived.Test.YtdhbfkbkgjmniaaGreatDoorShelfB
import Derived.Shelf.Strings.BuilderK
import Derived.Lib.ItoaLen
import Derived.Lib.SmallJoins
import Derived.Deep.RegionHeldLaw
namespace Go.Proofs.YtdhbfkbkgjmniaaGreatDoor
open Go Go.RowKit Go.Shelf

theorem below_growT {B : Nat} {a w : World} (h : Below B a w) (os : Array Obj) (hB : B ≤ w.heap.size) : Below B a (Go.Sort.grow w os) :=
  h.trans ⟨rfl, rfl, rfl, by simp [Go.Sort.grow], fun k hk => by
    show (w.heap ++ os)[k]? = w.heap[k]?
    rw [Array.getElem?_append_left (by omega)]⟩
theorem gPowT : Tryz.prog.globalNamed "internal/strconv.uint64pow10" = some 1 := by kernel_rfl
abbrev PowT (W : World) : Prop := Lib.TabIs Tryz.prog W "internal/strconv.uint64pow10" .u64 Lib.pow10Tab
theorem PowT.lt {W : World} (h : PowT W) : 1 < W.heap.size := World.block_lt_of_cell? W _ (h.cell gPowT 0 (by decide))
theorem PowT.below {W W' : World} {B : Nat} (h : PowT W) (hb : Below B W W') (hB : W.heap.size ≤ B ∨ 1 < B) : PowT W' :=
  var?_below hb gPowT (by have := h.lt; omega) h
theorem itoaT_any (n : Int) (W : World) (h : PowT W) (h0 : 0 ≤ n) (h1 : n ≤ 9223372036854775807) :
    Calls Tryz.prog 123 #[.int .i64 n] W fun e w' => e = .returned (.string ⟨(Lib.itoa n).toArray⟩) ∧ Below W.heap.size W w' :=
  (Any.strconv_Itoa Tryz.layItoa n (by omega) h1 W h).mono fun _ _ ⟨he, k, os, hw⟩ => ⟨he, hw ▸ below_growT (below_drewN (Below.refl _ _) k) os (Nat.le_refl _)⟩

/-- the builder in block b holds the bytes l -/
abbrev Bd (b : Nat) (l : List UInt8) (w : World) : Prop := Lib.IsBuilderF 89 5 b b (Lib.byteCells l) w
abbrev OK (b : Nat) (w w' : World) : Prop := Lib.OthersKept 5 (some b) w w'
theorem cells_app (l : List UInt8) (s : ByteArray) : Lib.byteCells l ++ Lib.strCells s = Lib.byteCells (l ++ s.data.toList) := by simp [Lib.byteCells, Lib.strCells]
/-- what writing does -/
structure Wd (b : Nat) (l : List UInt8) (w w' : World) : Prop where
  bd : Bd b l w'
  below : Below b w w'
  oth : OK b w w'
theorem ws_any (b : Nat) (l : List UInt8) (s : ByteArray) (w : World) (h : Bd b l w) (hl : l.length + s.size ≤ 1000000) (hb : b ≤ w.heap.size) :
    Calls Tryz.prog 122 #[.pointer (some ⟨b, 0, none⟩), .string s] w fun e w' => e = .returned (.tuple #[.int .i64 s.size, .nilIface]) ∧ Wd b (l ++ s.data.toList) w w' :=
  (Any.Builder_WriteString_k { Tryz.layJoin with } Tryz.builderExtra b b (Lib.byteCells l) s w h (by rw [Lib.byteCells_length]; omega) hb).mono fun e w' ⟨he, h1, h2, h3⟩ => ⟨he, ⟨(by show Lib.IsBuilderF _ _ b b (Lib.byteCells (l ++ s.data.toList)) w'; rw [← cells_app]; exact Or.inr h1), h2, h3⟩⟩
theorem str_any (b : Nat) (l : List UInt8) (w : World) (h : Bd b l w) (hb : b ≤ w.heap.size) :
    Calls Tryz.prog 74 #[.pointer (some ⟨b, 0, none⟩)] w fun e w' => e = .returned (.string ⟨l.toArray⟩) ∧ Below b w w' :=
  (Any.Builder_String_any_k Tryz.layStr Tryz.bxStr b b l w h hb).mono fun _ _ ⟨he, _, h2, _⟩ => ⟨he, h2⟩

theorem bat_below {b : Nat} {p : Value} {bs : List Value} {w w' : World} (h : Lib.BuilderAtF 89 5 b b p bs w) (hb : Below w.heap.size w w') : Lib.BuilderAtF 89 5 b b p bs w' := by
  have hl := h.lt
  obtain ⟨hB, v, hk, hown, hne⟩ := h
  refine ⟨hB, v, (hb.block b hl).trans hk, hown.kept (row := none) ⟨hb.os, hb.tape, hb.output, hb.size, fun k hk _ => hb.block k hk⟩ ?_, hne⟩
  cases v.ownBlock with
  | none => exact Or.inl rfl
  | some g => exact Or.inr (fun e => by cases e)
theorem Bd.stay {b : Nat} {l : List UInt8} {w w' : World} (h : Bd b l w) (hb : Below w.heap.size w w') : Bd b l w' := h.imp (fun h => bat_below h hb) (fun h => bat_below h hb)
theorem Bd.lt {b : Nat} {l : List UInt8} {w : World} (h : Bd b l w) : b < w.heap.size := by
  rcases h with h | h <;> exact h.lt
theorem OK.of_below {b : Nat} {w w' : World} (hb : Below w.heap.size w w') : OK b w w' := fun k _ hk _ _ => (hb.block k (Array.getElem?_eq_some_iff.1 hk).1).trans hk
theorem Wd.of_below {b : Nat} {l : List UInt8} {w w' : World} (h : Bd b l w) (hb : Below w.heap.size w w') : Wd b l w w' := ⟨h.stay hb, hb.mono (Nat.le_of_lt h.lt), OK.of_below hb⟩
theorem Wd.trans {b : Nat} {l m : List UInt8} {w w1 w2 : World} (h : Wd b l w w1) (k : Wd b m w1 w2) : Wd b m w w2 := ⟨k.bd, h.below.trans k.below, Lib.OthersKept.trans h.oth k.oth⟩
theorem Wd.keepc {b x : Nat} {m : List UInt8} {w w' : World} {cs : Array Value} {ty : TypeId} (h : Wd b m w w') (hx : w.heap[x]? = some (.cells cs ty)) (hb : x ≠ b) (ht : ty ≠ 5) : w'.heap[x]? = some (.cells cs ty) :=
  h.oth x _ hx (by simpa using hb) (fun c fz e => ht (by cases e; rfl))

theorem two_bytes : (((⟨#[32]⟩ : ByteArray) ++ ⟨#[48]⟩).data.toList) = [32, 48] := by rfl
theorem two_size : ((⟨#[32]⟩ : ByteArray) ++ ⟨#[48]⟩).size = 2 := by rfl
/-- the word of a row; whether a number follows -/
def wordOf (r : Nat) : List UInt8 := match shTab[r]? with | some x => x.word.data.toList | none => []
def fldOf (r : Nat) : List UInt8 := match shTab[r]? with | some x => if 0 < x.most then [32, 48] else [] | none => []
theorem itoa_zero : Lib.itoa 0 = [48] := by unfold Lib.itoa; rw [if_neg (by decide)]; rw [Lib.decDigits]; rfl
mutual
/-- the text of a tree of plain nodes (their N is 0) -/
def wrt : Tm → List UInt8
  | .mk o _ _ _ l => if o = 1 ∨ o = 29 then wordOf o.toNat ++ [48] else match l with
    | [] => wordOf o.toNat
    | t :: l => 40 :: (wordOf o.toNat ++ fldOf o.toNat ++ (32 :: wrt t ++ wrtL l) ++ [41])
def wrtL : List Tm → List UInt8
  | [] => []
  | t :: l => 32 :: wrt t ++ wrtL l
end

set_option maxRecDepth 100000 in
set_option maxHeartbeats 4000000 in
theorem writeFields_pl (b r : Nat) (l : List UInt8) (row : ShRow) (U L : Option Addr) (cu nl cl : Nat) (w : World) (h : Bd b l w) (hS : Shp w) (hPw : PowT w) (hG2 : 1 < b) (hr : shTab[r]? = some row) (h30 : r ≤ 30) (hk : row.kind = 0) (hl : l.length ≤ 100000) :
    Calls Tryz.prog 125 #[.pointer (some ⟨b, 0, none⟩), .agg #[.int .i64 r, .int .i64 0, .string ⟨#[]⟩, .slice U 0 cu, .slice L nl cl]] w fun e w' => e = .returned (.tuple #[]) ∧ Wd b (l ++ fldOf r) w w' := by
  have ho : (r : Int) < 31 := by omega
  have hf : fldOf r = if 0 < row.most then [32, 48] else [] := by unfold fldOf; rw [hr]
  generalize fldOf r = F at hf ⊢
  have HF := Lib.hid hf
  clear hf
  have hbl := h.lt
  have hbx : Below w.heap.size w (w.alloc (.cells #[.int .i64 r, .int .i64 0, .string ⟨#[]⟩, .slice U 0 cu, .slice L nl cl] 25)) := (Below.refl _ _).alloc (Nat.le_refl _) _
  have hk0 : (w.alloc (.cells #[.int .i64 r, .int .i64 0, .string ⟨#[]⟩, .slice U 0 cu, .slice L nl cl] 25)).heap[w.heap.size]? = some (.cells #[.int .i64 r, .int .i64 0, .string ⟨#[]⟩, .slice U 0 cu, .slice L nl cl] 25) := heap_alloc_new w _
  have X := Lib.hid (And.intro hbx hk0)
  clear hbx hk0
  go_enter Tryz.func125, Tryz.ntmps125
  go_upto_region 1 with fail
  generalize w.alloc (.cells #[.int .i64 r, .int .i64 0, .string ⟨#[]⟩, .slice U 0 cu, .slice L nl cl] 25) = W1 at X ⊢
  obtain ⟨hbx, hk0⟩ := X.out
  clear X
  obtain ⟨s0, s1, s2, s3⟩ := (hS.lift hbx).2 r row hr
  rw [hk] at s1
  have c0 : W1.cell? ⟨w.heap.size, 0, none⟩ = some (.int .i64 r) := (cell_heap hk0).trans rfl
  have hlt := (Array.getElem?_eq_some_iff.1 hk0).1
  go_upto_region 2 with fail
  have hb2 : Below W1.heap.size W1 (W1.alloc (.cells #[.string row.word, .int .i64 0, .int .i64 row.most, .string row.binds] 84)) := (Below.refl _ _).alloc (Nat.le_refl _) _
  have hk1 : (W1.alloc (.cells #[.string row.word, .int .i64 0, .int .i64 row.most, .string row.binds] 84)).heap[W1.heap.size]? = some (.cells #[.string row.word, .int .i64 0, .int .i64 row.most, .string row.binds] 84) := heap_alloc_new W1 _
  generalize W1.alloc (.cells #[.string row.word, .int .i64 0, .int .i64 row.most, .string row.binds] 84) = W2 at hb2 hk1 ⊢
  have hk2 := (hb2.block w.heap.size hlt).trans hk0
  have hbw : Below w.heap.size w W2 := hbx.trans (hb2.mono (Nat.le_of_lt hlt))
  have d1 : W2.cell? ⟨W1.heap.size, 1, none⟩ = some (.int .i64 0) := (cell_heap hk1).trans rfl
  have d2 : W2.cell? ⟨W1.heap.size, 2, none⟩ = some (.int .i64 row.most) := (cell_heap hk1).trans rfl
  have d3 : W2.cell? ⟨w.heap.size, 1, none⟩ = some (.int .i64 0) := (cell_heap hk2).trans rfl
  have Hk2 := Lib.hid hk2
  have hlt2 := Nat.lt_of_lt_of_le hlt hb2.size
  clear s0 s1 s2 s3 c0 hk0 hk1 hb2 hbx hk2
  by_cases hm : 0 < row.most
  · obtain rfl : F = [32, 48] := by rw [HF.out, if_pos hm]
    have HI := Lib.hid (itoaT_any 0 W2 (hPw.below (hbw.mono (Nat.le_of_lt hbl)) (.inr hG2)) (by omega) (by omega))
    rw [itoa_zero] at HI
    go_wp2_with fail
    refine HI.out.mono ?_
    rintro e W3 ⟨rfl, hb3⟩
    have hbd := h.stay (hbw.trans (hb3.mono (Nat.le_of_lt hlt2)))
    have HS := ws_any b l ((⟨#[32]⟩ : ByteArray) ++ ⟨#[48]⟩) W3 hbd (by rw [two_size]; omega) (Nat.le_of_lt hbd.lt)
    rw [two_bytes] at HS
    have Hw := Lib.hid (Wd.of_below h (hbw.trans (hb3.mono (Nat.le_of_lt hlt2))))
    go_wp2_with fail
    refine HS.mono ?_
    rintro e W4 ⟨rfl, h4⟩
    go_wp2_with fail
    refine bodyPost_end (v := .tuple #[]) (by simp [results, Tryz.results125]) rfl ?_
    exact ⟨rfl, Hw.out.trans h4⟩
  · obtain rfl : F = [] := by rw [HF.out, if_neg hm]
    have Hw := Lib.hid (Wd.of_below h hbw)
    go_wp2_with fail
    refine bodyPost_end (v := .tuple #[]) (by simp [results, Tryz.results125]) rfl ?_
    exact ⟨rfl, by simpa using Hw.out⟩

theorem wrtL_append (a b : List Tm) : wrtL (a ++ b) = wrtL a ++ wrtL b := by
  induction a with
  | nil => simp [wrtL]
  | cons t a ih => simp [wrtL, ih]
theorem wrtL_snoc {l : List Tm} {k : Nat} {t : Tm} (h : l[k]? = some t) : wrtL (l.take (k + 1)) = wrtL (l.take k) ++ 32 :: wrt t := by
  rw [take_snoc h, wrtL_append]; simp [wrtL]
theorem wrtL_le {l : List Tm} {k : Nat} {t : Tm} (h : l[k]? = some t) : (wrtL (l.take k)).length + 1 + (wrt t).length ≤ (wrtL l).length := by
  have e : l = l.take (k + 1) ++ l.drop (k + 1) := (List.take_append_drop _ _).symm
  have : (wrtL l).length = (wrtL (l.take (k + 1))).length + (wrtL (l.drop (k + 1))).length := by
    conv => lhs; rw [e, wrtL_append]
    simp
  rw [wrtL_snoc h] at this
  simp at this
  omega
theorem wrt_var {t : Tm} (h : t.op = 1 ∨ t.op = 29) : wrt t = wordOf t.op.toNat ++ [48] := by
  cases t with
  | mk o n s u l => cases l <;> (simp only [wrt, Tm.op] at h ⊢; exact if_pos h)
theorem wrt_leaf {t : Tm} (h : ¬ (t.op = 1 ∨ t.op = 29)) (hl : t.l = []) : wrt t = wordOf t.op.toNat := by
  cases t with
  | mk o n s u l =>
    obtain rfl : l = [] := hl
    exact if_neg h
theorem wrt_in {t : Tm} (h : ¬ (t.op = 1 ∨ t.op = 29)) (hl : t.l ≠ []) : wrt t = [40] ++ wordOf t.op.toNat ++ fldOf t.op.toNat ++ wrtL t.l ++ [41] := by
  cases t with
  | mk o n s u l =>
    cases l with
    | nil => exact absurd rfl hl
    | cons x l =>
      refine (if_neg h).trans ?_
      simp [Tm.op, Tm.l, wrtL]
theorem plain_ne {r : Nat} {row : ShRow} (hr : shTab[r]? = some row) (hk : row.kind = 0) : r ≠ 2 ∧ r ≠ 3 := by
  constructor <;> (intro e; subst e; simp [shTab] at hr; subst hr; revert hk; decide)
/-- word and a nought -/
theorem word_nought (x : ByteArray) : (x ++ (⟨#[48]⟩ : ByteArray)).data.toList = x.data.toList ++ [48] ∧ (x ++ (⟨#[48]⟩ : ByteArray)).size = x.size + 1 := by
  obtain ⟨x⟩ := x
  refine ⟨?_, ?_⟩
  · rw [Go.Joins.data_append]
  · rw [ByteArray.size_append]; rfl
theorem open_word (x : ByteArray) : ((⟨#[40]⟩ : ByteArray) ++ x).data.toList = [40] ++ x.data.toList ∧ ((⟨#[40]⟩ : ByteArray) ++ x).size = x.size + 1 := by
  obtain ⟨x⟩ := x
  refine ⟨?_, ?_⟩
  · rw [Go.Joins.data_append]
  · rw [ByteArray.size_append, Nat.add_comm]; rfl
theorem word_len {r : Nat} {row : ShRow} (hr : shTab[r]? = some row) : wordOf r = row.word.data.toList ∧ (wordOf r).length = row.word.size := by
  unfold wordOf
  rw [hr]
  exact ⟨rfl, by rw [Array.length_toList]; rfl⟩

theorem shTab_words : shTab.all (fun x => decide (x.word.size ≤ 10)) = true := by decide
theorem word_le {r : Nat} {x : ShRow} (hx : shTab[r]? = some x) : x.word.size ≤ 10 := of_decide_eq_true (List.all_eq_true.1 shTab_words x (List.mem_of_getElem? hx))

set_option maxRecDepth 100000 in
set_option maxHeartbeats 8000000 in
theorem write_pl (b : Nat) (hG : 0 < b) (hG2 : 1 < b) (t : Tm) : ∀ (l : List UInt8) (c0 c1 c2 c3 c4 : Value) (w : World), TmAt w b c0 c1 c2 c3 c4 t → Bd b l w → Shp w → PowT w → (∀ x, Sub x t → PlainN x) → l.length + (wrt t).length ≤ 100000 →
    Calls Tryz.prog 73 #[.pointer (some ⟨b, 0, none⟩), .agg #[c0, c1, c2, c3, c4]] w fun e w' => e = .returned (.tuple #[]) ∧ Wd b (l ++ wrt t) w w' := by
  induction t using Tm.ind
  rename_i t ih
  intro l c0 c1 c2 c3 c4 w hT h hS hPw hP hlen
  obtain ⟨p1, p2, r, row, p3, hr, r1, r30, r28, hk, p4, hm0, p5⟩ := hP t (.refl t)
  obtain ⟨U, nu, cu, L, nl, cl, rfl, rfl, rfl, rfl, rfl, hu, hnu, hcu, hl, hnl, hcl⟩ := hT.inv
  rw [p2] at hu
  obtain rfl : nu = 0 := hu.1.symm
  rw [p1, p3, p4]
  have hno : t.op.toNat = r := by rw [p3]; rfl
  obtain ⟨hw1, hw2⟩ := word_len hr
  obtain ⟨hn2, hn3⟩ := plain_ne hr hk
  have ho : (r : Int) < 31 := by omega
  have hbl := h.lt
  have hbx : Below w.heap.size w (w.alloc (.cells #[.int .i64 r, .int .i64 0, .string ⟨#[]⟩, .slice U 0 cu, .slice L nl cl] 25)) := (Below.refl _ _).alloc (Nat.le_refl _) _
  have hk0 : (w.alloc (.cells #[.int .i64 r, .int .i64 0, .string ⟨#[]⟩, .slice U 0 cu, .slice L nl cl] 25)).heap[w.heap.size]? = some (.cells #[.int .i64 r, .int .i64 0, .string ⟨#[]⟩, .slice U 0 cu, .slice L nl cl] 25) := heap_alloc_new w _
  have X := Lib.hid (And.intro hbx hk0)
  generalize hF : wrt t = F at hlen ⊢
  have HF := Lib.hid hF
  clear hbx hk0 hu hT hF
  go_enter Tryz.func73, Tryz.ntmps73
  go_upto_region 1 with fail
  generalize w.alloc (.cells #[.int .i64 r, .int .i64 0, .string ⟨#[]⟩, .slice U 0 cu, .slice L nl cl] 25) = W1 at X ⊢
  obtain ⟨hbx, hk0⟩ := X.out
  clear X
  obtain ⟨s0, s1, s2, s3⟩ := (hS.lift hbx).2 r row hr
  rw [hk] at s1
  have c0 : W1.cell? ⟨w.heap.size, 0, none⟩ = some (.int .i64 r) := (cell_heap hk0).trans rfl
  have hlt := (Array.getElem?_eq_some_iff.1 hk0).1
  go_upto_region 3 with fail
  have hb2 : Below W1.heap.size W1 (W1.alloc (.cells #[.string row.word, .int .i64 0, .int .i64 row.most, .string row.binds] 84)) := (Below.refl _ _).alloc (Nat.le_refl _) _
  have hk1 : (W1.alloc (.cells #[.string row.word, .int .i64 0, .int .i64 row.most, .string row.binds] 84)).heap[W1.heap.size]? = some (.cells #[.string row.word, .int .i64 0, .int .i64 row.most, .string row.binds] 84) := heap_alloc_new W1 _
  generalize W1.alloc (.cells #[.string row.word, .int .i64 0, .int .i64 row.most, .string row.binds] 84) = W2 at hb2 hk1 ⊢
  have hk2 := (hb2.block w.heap.size hlt).trans hk0
  have hbw : Below w.heap.size w W2 := hbx.trans (hb2.mono (Nat.le_of_lt hlt))
  have Hw0 := Lib.hid (Wd.of_below h hbw)
  have HK : Hid (∀ m W, Wd b m W2 W → W.heap[w.heap.size]? = some (.cells #[.int .i64 r, .int .i64 0, .string ⟨#[]⟩, .slice U 0 cu, .slice L nl cl] 25) ∧ W.heap[W1.heap.size]? = some (.cells #[.string row.word, .int .i64 0, .int .i64 row.most, .string row.binds] 84)) := Lib.hid fun m W hW => ⟨hW.keepc hk2 (by omega) (by decide), hW.keepc hk1 (by omega) (by decide)⟩
  have hlt2 := Nat.lt_of_lt_of_le hlt hb2.size
  have d0 : W2.cell? ⟨w.heap.size, 0, none⟩ = some (.int .i64 r) := (cell_heap hk2).trans rfl
  have d1 : W2.cell? ⟨w.heap.size, 1, none⟩ = some (.int .i64 0) := (cell_heap hk2).trans rfl
  have d4 : W2.cell? ⟨w.heap.size, 4, none⟩ = some (.slice L nl cl) := (cell_heap hk2).trans rfl
  have f0 : W2.cell? ⟨W1.heap.size, 0, none⟩ = some (.string row.word) := (cell_heap hk1).trans rfl
  have hbd2 : Bd b l W2 := Hw0.out.bd
  have hS2 : Shp W2 := hS.lift hbw
  have hP2 : PowT W2 := hPw.below hbw (.inr (by omega))
  have hl2 : TmL W2 b L nl t.l := hl.below (hbw.mono (Nat.le_of_lt hbl))
  have hbW2 : b < W2.heap.size := hbd2.lt
  clear s0 s1 s2 s3 c0 hk0 hk1 hb2 hbx hk2 hS hPw hl
  by_cases hv : r = 1 ∨ r = 29
  · obtain ⟨z, hz, hzl⟩ : ∃ z : UInt8, row.word = ⟨#[z]⟩ ∧ (r = 1 ∧ z = 35 ∨ r = 29 ∧ z = 63) := by
      rcases hv with e | e
      · subst e
        simp [shTab] at hr
        exact ⟨35, by rw [← hr], .inl ⟨rfl, rfl⟩⟩
      · subst e
        simp [shTab] at hr
        exact ⟨63, by rw [← hr], .inr ⟨rfl, rfl⟩⟩
    rw [hz] at f0 hw1
    have hF2 : F = [z, 48] := by rw [← HF.out, wrt_var (by rw [p3]; omega), hno, hw1]; rfl
    subst hF2
    have HI := Lib.hid (itoaT_any 0 W2 hP2 (by omega) (by omega))
    rw [itoa_zero] at HI
    have HS : Hid (∀ W, Below W2.heap.size W2 W → Calls Tryz.prog 122 #[.pointer (some ⟨b, 0, none⟩), .string ((⟨#[z]⟩ : ByteArray) ++ (⟨#[48]⟩ : ByteArray))] W fun e w' => (∃ v, e = .returned v) ∧ Wd b (l ++ [z, 48]) W2 w') := Lib.hid fun W hW => by
      have h9 := ws_any b l ((⟨#[z]⟩ : ByteArray) ++ (⟨#[48]⟩ : ByteArray)) W (hbd2.stay hW) (by rw [(word_nought _).2]; simp at hlen; show l.length + (1 + 1) ≤ _; omega) (Nat.le_trans (Nat.le_of_lt hbW2) hW.size)
      rw [(word_nought _).1] at h9
      exact h9.mono fun e w' ⟨he, hw⟩ => ⟨⟨_, he⟩, (Wd.of_below hbd2 hW).trans hw⟩
    have HY : Hid (∀ m W, Wd b m W2 W → W.cell? ⟨w.heap.size, 1, none⟩ = some (.int .i64 0) ∧ W.cell? ⟨W1.heap.size, 0, none⟩ = some (.string ⟨#[z]⟩)) := Lib.hid fun m W hW => ⟨(cell_heap (HK.out m W hW).1).trans rfl, (cell_heap (HK.out m W hW).2).trans (by rw [← hz]; rfl)⟩
    have HX : Hid (∀ W, Below W2.heap.size W2 W → W.cell? ⟨w.heap.size, 1, none⟩ = some (.int .i64 0) ∧ W.cell? ⟨W1.heap.size, 0, none⟩ = some (.string ⟨#[z]⟩)) := Lib.hid fun W hW => HY.out l W (Wd.of_below hbd2 hW)
    have HI2 : Hid (∀ W, Below W2.heap.size W2 W → Calls Tryz.prog 123 #[.int .i64 0] W fun e w' => e = .returned (.string ⟨#[48]⟩) ∧ Below W2.heap.size W2 w') := Lib.hid fun W hW => by
      have h9 := itoaT_any 0 W (hP2.below hW (.inl (Nat.le_refl _))) (by omega) (by omega)
      rw [itoa_zero] at h9
      exact h9.mono fun e w' ⟨he, hb⟩ => ⟨he, hW.trans (hb.mono hW.size)⟩
    have hz0 : Below W2.heap.size W2 W2 := Below.refl _ _
    have hz1 : Below W2.heap.size W2 W2.drew := hz0.drew
    clear hlen HF hw1 hw2 hv hbd2 hS2 hP2 hl2 hn2 hn3 HI hr hno p3 p5
    rcases hzl with ⟨rfl, rfl⟩ | ⟨rfl, rfl⟩
    · go_upto_region 4 with fail
      go_region_held3 (fun w' => w'.cell? ⟨w.heap.size, 1, none⟩ = some (.int .i64 0) ∧ w'.cell? ⟨W1.heap.size, 0, none⟩ = some (.string ⟨#[35]⟩)) (first | exact HX.out _ (by assumption) | exact HY.out _ _ (by assumption)) (first
        | (go_at_call 123; with_reducible refine (HI2.out _ (by assumption)).mono ?_; rintro e w5 ⟨rfl, hb5⟩)
        | (go_at_call 122; with_reducible refine (HS.out _ (by assumption)).mono ?_; rintro e w6 ⟨⟨v6, rfl⟩, hw6⟩))
      go_wp2_with fail
      refine bodyPost_end (v := .tuple #[]) (by simp [results, Tryz.results73]) rfl ?_
      exact ⟨rfl, Hw0.out.trans hw6⟩
    · go_upto_region 4 with fail
      go_region_held3 (fun w' => w'.cell? ⟨w.heap.size, 1, none⟩ = some (.int .i64 0) ∧ w'.cell? ⟨W1.heap.size, 0, none⟩ = some (.string ⟨#[63]⟩)) (first | exact HX.out _ (by assumption) | exact HY.out _ _ (by assumption)) (first
        | (go_at_call 123; with_reducible refine (HI2.out _ (by assumption)).mono ?_; rintro e w5 ⟨rfl, hb5⟩)
        | (go_at_call 122; with_reducible refine (HS.out _ (by assumption)).mono ?_; rintro e w6 ⟨⟨v6, rfl⟩, hw6⟩))
      go_wp2_with fail
      refine bodyPost_end (v := .tuple #[]) (by simp [results, Tryz.results73]) rfl ?_
      exact ⟨rfl, Hw0.out.trans hw6⟩
  · have hvi : ¬ (t.op = 1 ∨ t.op = 29) := by rw [p3]; omega
    have hv1 : ¬ (r : Int) = 1 := by omega
    have hv2 : ¬ (r : Int) = 29 := by omega
    have hv3 : ¬ (r : Int) = 2 := by omega
    have hv4 : ¬ (r : Int) = 3 := by omega
    have hq1 : ((r : Int) == 1) = false := beq_eq_false_iff_ne.2 hv1
    have hq2 : ((r : Int) == 29) = false := beq_eq_false_iff_ne.2 hv2
    have hq3 : ((r : Int) == 2) = false := beq_eq_false_iff_ne.2 hv3
    have hq4 : ((r : Int) == 3) = false := beq_eq_false_iff_ne.2 hv4
    by_cases hn : nl = 0
    · subst hn
      have htl : t.l = [] := List.eq_nil_of_length_eq_zero hl2.1
      obtain rfl : F = row.word.data.toList := by rw [← HF.out, wrt_leaf hvi htl, hno, hw1]
      have hlw : row.word.data.toList.length = row.word.size := by rw [Array.length_toList]; rfl
      have HS := Lib.hid (ws_any b l row.word W2 hbd2 (by omega) (Nat.le_of_lt hbW2))
      go_wp2_with fail
      refine HS.out.mono ?_
      rintro e w3 ⟨rfl, hw3⟩
      go_wp2_with fail
      refine bodyPost_end (v := .tuple #[]) (by simp [results, Tryz.results73]) rfl ?_
      exact ⟨rfl, Hw0.out.trans hw3⟩
    · have hn0 : (0 : Int) < (nl : Int) := by omega
      have htl : t.l ≠ [] := fun e => hn (by rw [← hl2.1, e]; rfl)
      have hF2 : F = [40] ++ row.word.data.toList ++ fldOf r ++ wrtL t.l ++ [41] := by rw [← HF.out, wrt_in hvi htl, hno, hw1]
      subst hF2
      have hws : row.word.size ≤ 10 := word_le hr
      have hlw : row.word.data.toList.length = row.word.size := by rw [Array.length_toList]; rfl
      have hlen2 : l.length + (1 + row.word.size + (fldOf r).length + (wrtL t.l).length + 1) ≤ 100000 := by simp at hlen; have : row.word.data.size = row.word.size := rfl; omega
      have HS1 := Lib.hid (ws_any b l ((⟨#[40]⟩ : ByteArray) ++ row.word) W2 hbd2 (by rw [(open_word _).2]; omega) (Nat.le_of_lt hbW2))
      rw [(open_word _).1] at HS1
      clear hlen HF hv hw1 hw2
      go_upto_region 9 with fail
      refine HS1.out.mono ?_
      clear HS1 d0 d1 d4 f0
      rintro e W3 ⟨rfl, hw3⟩
      obtain ⟨k1, _⟩ := HK.out _ _ hw3
      have a0 : W3.cell? ⟨w.heap.size, 0, none⟩ = some (.int .i64 r) := (cell_heap k1).trans rfl
      have a1 : W3.cell? ⟨w.heap.size, 1, none⟩ = some (.int .i64 0) := (cell_heap k1).trans rfl
      have a2 : W3.cell? ⟨w.heap.size, 2, none⟩ = some (.string ⟨#[]⟩) := (cell_heap k1).trans rfl
      have a3 : W3.cell? ⟨w.heap.size, 3, none⟩ = some (.slice U 0 cu) := (cell_heap k1).trans rfl
      have a4 : W3.cell? ⟨w.heap.size, 4, none⟩ = some (.slice L nl cl) := (cell_heap k1).trans rfl
      have hlw2 : (l ++ ([40] ++ row.word.data.toList)).length = l.length + 1 + row.word.size := by rw [List.length_append, List.length_append, hlw]; simp; omega
      have HW := Lib.hid (writeFields_pl b r (l ++ ([40] ++ row.word.data.toList)) row U L cu nl cl W3 hw3.bd (hS2.below hG hw3.below) (hP2.below hw3.below (.inr hG2)) hG2 hr r30 hk (by omega))
      clear k1
      go_wp2_with fail
      refine HW.out.mono ?_
      clear HW a0 a1 a2 a3 a4
      rintro e W4 ⟨rfl, hw4⟩
      have hw24 := hw3.trans hw4
      obtain ⟨k1, _⟩ := HK.out _ _ hw24
      have a4 : W4.cell? ⟨w.heap.size, 4, none⟩ = some (.slice L nl cl) := (cell_heap k1).trans rfl
      clear k1
      have Hm : Hid (∃ m2, m2 = l ++ ([40] ++ row.word.data.toList) ++ fldOf r) := Lib.hid ⟨_, rfl⟩
      obtain ⟨m2, hm2⟩ := Hm.out
      rw [← hm2] at hw24
      have hm2l : m2.length = l.length + 1 + row.word.size + (fldOf r).length := by rw [hm2, List.length_append, hlw2]
      have Hm2 := Lib.hid hm2
      clear hm2 hw4 hw3
      go_wp2_with fail
      go_loopw [60] (fun i wr => ∃ k : Nat, k ≤ nl ∧ i = .int .i64 k ∧ Wd b (m2 ++ wrtL (t.l.take k)) W2 wr) (fun i _ => nl - (intOf i).toNat)
      case atStart => exact ⟨0, Nat.zero_le _, rfl, by simpa [wrtL] using hw24⟩
      case round =>
        obtain ⟨k, hk9, rfl, hwk⟩ := hrel
        clear a4 hw24
        by_cases hkn : k < nl
        · have hki : (k : Int) < (nl : Int) := by omega
          obtain ⟨bq, off, y, e0, e1, e2, e3, e4, hLe, hbq, hy, hT, y0, y1, y2, y3, y4⟩ := (hl2.below hwk.below).at_ hkn
          obtain ⟨U', nu', cu', L', nl', cl', rfl, rfl, rfl, rfl, rfl, _⟩ := hT.inv
          have hle := wrtL_le hy
          have Hsn := Lib.hid (wrtL_snoc hy)
          have hPy : ∀ z, Sub z y → PlainN z := fun z hz => hP z (.part hy hz)
          have hyih := ih k y hy
          have Hy := Lib.hid hy
          subst hLe
          clear hy
          have hbr := hwk.bd.lt
          have B5 := (Below.refl wr.heap.size wr).alloc (Nat.le_refl _) (.cells #[.int .i64 y.op, .int .i64 y.n, .string y.s, .slice U' nu' cu', .slice L' nl' cl'] 25)
          have K5 := heap_alloc_new wr (.cells #[.int .i64 y.op, .int .i64 y.n, .string y.s, .slice U' nu' cu', .slice L' nl' cl'] 25)
          have X := Lib.hid (And.intro B5 K5)
          clear B5 K5
          go_upto_region 13 with fail
          generalize wr.alloc (.cells #[.int .i64 y.op, .int .i64 y.n, .string y.s, .slice U' nu' cu', .slice L' nl' cl'] 25) = W5 at X ⊢
          obtain ⟨hb5, k5⟩ := X.out
          clear X y0 y1 y2 y3 y4
          have hw5 := Wd.of_below hwk.bd hb5
          have hml : (m2 ++ wrtL (t.l.take k)).length + 1 + (wrt y).length ≤ 100000 := by rw [List.length_append]; omega
          have HS := Lib.hid (ws_any b (m2 ++ wrtL (t.l.take k)) ⟨#[32]⟩ W5 hw5.bd (by show _ + 1 ≤ _; omega) (Nat.le_of_lt hw5.bd.lt))
          go_wp2_with fail
          refine HS.out.mono ?_
          clear HS
          rintro e W6 ⟨rfl, hw6⟩
          have k6 := hw6.keepc k5 (by omega) (by decide)
          have z0 : W6.cell? ⟨wr.heap.size, 0, none⟩ = some (.int .i64 y.op) := (cell_heap k6).trans rfl
          have z1 : W6.cell? ⟨wr.heap.size, 1, none⟩ = some (.int .i64 y.n) := (cell_heap k6).trans rfl
          have z2 : W6.cell? ⟨wr.heap.size, 2, none⟩ = some (.string y.s) := (cell_heap k6).trans rfl
          have z3 : W6.cell? ⟨wr.heap.size, 3, none⟩ = some (.slice U' nu' cu') := (cell_heap k6).trans rfl
          have z4 : W6.cell? ⟨wr.heap.size, 4, none⟩ = some (.slice L' nl' cl') := (cell_heap k6).trans rfl
          have hw56 := hw5.trans hw6
          have hw26 := hwk.trans hw56
          have HY := Lib.hid (hyih _ _ _ _ _ _ W6 (hT.stay hw56.below) hw6.bd (hS2.below hG hw26.below) (hP2.below hw26.below (.inr hG2)) hPy (by rw [List.length_append]; show (m2 ++ wrtL (t.l.take k)).length + 1 + _ ≤ _; omega))
          clear k6 k5 hT hyih
          go_wp2_with fail
          refine HY.out.mono ?_
          clear HY
          rintro e W7 ⟨rfl, hw7⟩
          go_wp2_with fail
          go_roundw
          case rel =>
            refine ⟨k + 1, by omega, by go_num, ?_⟩
            have := hw26.trans hw7
            rw [Hsn.out]
            simpa [List.append_assoc] using this
          case measure => simp [intOf]; omega
        · obtain rfl : k = nl := by omega
          have hkk : ¬ (k : Int) < (k : Int) := by omega
          rw [List.take_of_length_le (by rw [hl2.1]; omega)] at hwk
          have HS := Lib.hid (ws_any b (m2 ++ wrtL t.l) ⟨#[41]⟩ wr hwk.bd (by rw [List.length_append]; show _ + 1 ≤ _; omega) (Nat.le_of_lt hwk.bd.lt))
          go_wp2_with fail
          refine HS.out.mono ?_
          rintro e W9 ⟨rfl, hw9⟩
          go_wp2_with fail
          refine bodyPost_end (v := .tuple #[]) (by simp [results, Tryz.results73]) rfl ?_
          refine ⟨rfl, ?_⟩
          have := (Hw0.out.trans hwk).trans hw9
          rw [Hm2.out] at this
          simpa [List.append_assoc] using this
end Go.Proofs.YtdhbfkbkgjmniaaGreatDoor
