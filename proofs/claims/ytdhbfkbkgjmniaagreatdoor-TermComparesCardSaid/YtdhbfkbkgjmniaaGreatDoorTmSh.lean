/-
  The table of shapes as it lies in memory; 'isOp', 'methodBinders', 'binders' of package term.
-/
import Derived.Test.YtdhbfkbkgjmniaaGreatDoorTmN
namespace Go.Proofs.YtdhbfkbkgjmniaaGreatDoor
open Go Go.RowKit

/-- a row of the table: the word, the kind, the greatest N, the binders -/
structure ShRow where
  word : ByteArray
  kind : Int
  most : Int
  binds : ByteArray
def shTab : List ShRow := [
  ⟨⟨#[]⟩, 0, 0, ⟨#[]⟩⟩,
  ⟨⟨#[35]⟩, 0, 2000, ⟨#[]⟩⟩,
  ⟨⟨#[64]⟩, 2, 0, ⟨#[]⟩⟩,
  ⟨⟨#[116, 121, 112, 101]⟩, 1, 0, ⟨#[]⟩⟩,
  ⟨⟨#[112, 114, 111, 112]⟩, 0, 0, ⟨#[]⟩⟩,
  ⟨⟨#[112, 105]⟩, 0, 3, ⟨#[48, 49]⟩⟩,
  ⟨⟨#[108, 97, 109]⟩, 0, 1, ⟨#[48, 49]⟩⟩,
  ⟨⟨#[97, 112, 112]⟩, 0, 1, ⟨#[48, 48]⟩⟩,
  ⟨⟨#[115, 105, 103]⟩, 0, 3, ⟨#[48, 49]⟩⟩,
  ⟨⟨#[112, 97, 105, 114]⟩, 0, 3, ⟨#[48, 49, 48, 48]⟩⟩,
  ⟨⟨#[102, 115, 116]⟩, 0, 0, ⟨#[48]⟩⟩,
  ⟨⟨#[115, 110, 100]⟩, 0, 0, ⟨#[48]⟩⟩,
  ⟨⟨#[117, 110, 105, 116]⟩, 0, 0, ⟨#[]⟩⟩,
  ⟨⟨#[115, 116, 97, 114]⟩, 0, 0, ⟨#[]⟩⟩,
  ⟨⟨#[116, 114, 117, 101]⟩, 0, 0, ⟨#[]⟩⟩,
  ⟨⟨#[116, 114, 105, 118, 105, 97, 108]⟩, 0, 0, ⟨#[]⟩⟩,
  ⟨⟨#[102, 97, 108, 115, 101]⟩, 0, 0, ⟨#[]⟩⟩,
  ⟨⟨#[97, 98, 115, 117, 114, 100]⟩, 0, 1, ⟨#[48, 48]⟩⟩,
  ⟨⟨#[101, 113]⟩, 1, 0, ⟨#[48, 48, 48]⟩⟩,
  ⟨⟨#[114, 101, 102, 108]⟩, 1, 0, ⟨#[48, 48]⟩⟩,
  ⟨⟨#[115, 117, 98, 115, 116]⟩, 1, 0, ⟨#[48, 49, 48, 48, 48, 48]⟩⟩,
  ⟨⟨#[99, 97, 115, 116]⟩, 1, 0, ⟨#[48, 48, 48, 48]⟩⟩,
  ⟨⟨#[99, 111, 104]⟩, 1, 0, ⟨#[48, 48, 48]⟩⟩,
  ⟨⟨#[113, 117, 111]⟩, 1, 0, ⟨#[48, 50, 48, 48, 48]⟩⟩,
  ⟨⟨#[99, 108, 97, 115, 115]⟩, 0, 0, ⟨#[48, 48]⟩⟩,
  ⟨⟨#[111, 117, 116]⟩, 1, 1, ⟨#[48, 49, 49, 48, 48]⟩⟩,
  ⟨⟨#[100, 97, 116, 97]⟩, 2, 0, ⟨#[48]⟩⟩,
  ⟨⟨#[99, 111, 110]⟩, 2, 7, ⟨#[48, 48]⟩⟩,
  ⟨⟨#[101, 108, 105, 109]⟩, 2, 1, ⟨#[50, 48, 48]⟩⟩,
  ⟨⟨#[63]⟩, 0, 2000, ⟨#[]⟩⟩,
  ⟨⟨#[112, 114, 111, 111, 102]⟩, 0, 0, ⟨#[]⟩⟩]
theorem shTab_len : shTab.length = 31 := rfl
/-- THE TABLE IN MEMORY -/
def Shp (W : World) : Prop := 0 < W.heap.size ∧ ∀ (r : Nat) (x : ShRow), shTab[r]? = some x → W.cell? ⟨0, r * 4, none⟩ = some (.string x.word) ∧ W.cell? ⟨0, r * 4 + 1, none⟩ = some (.int .i64 x.kind) ∧ W.cell? ⟨0, r * 4 + 2, none⟩ = some (.int .i64 x.most) ∧ W.cell? ⟨0, r * 4 + 3, none⟩ = some (.string x.binds)
theorem Shp.below {w w' : World} {B : Nat} (h : Shp w) (hB : 0 < B) (hb : Below B w w') : Shp w' := by
  refine ⟨Nat.lt_of_lt_of_le h.1 hb.size, fun r x hx => ?_⟩
  obtain ⟨h0, h1, h2, h3⟩ := h.2 r x hx
  exact ⟨(hb.cell (p := ⟨_, r * 4, none⟩) hB).trans h0, (hb.cell (p := ⟨_, r * 4 + 1, none⟩) hB).trans h1, (hb.cell (p := ⟨_, r * 4 + 2, none⟩) hB).trans h2, (hb.cell (p := ⟨_, r * 4 + 3, none⟩) hB).trans h3⟩
theorem Shp.lift {w w' : World} (h : Shp w) (hb : Below w.heap.size w w') : Shp w' := h.below h.1 hb

def isOpB (op : Int) : Bool := decide (1 ≤ op ∧ op ≤ 30)
theorem isOp_any (op : Int) (w : World) : Calls Tryz.prog 71 #[.int .i64 op] w fun e w' => e = .returned (.bool (isOpB op)) ∧ w = w' := by
  by_cases h0 : 1 ≤ op <;> by_cases h1 : op ≤ 30
  all_goals
    have hw : isOpB op = decide (1 ≤ op ∧ op ≤ 30) := rfl
    generalize isOpB op = r at hw ⊢
    go_enter Tryz.func71, Tryz.ntmps71
    go_wp2
    go_ret
    exact ⟨ret_bool (by simp_all), rfl⟩
def metB (count i : Int) : Int := if i < count - 2 ∧ i ≤ 8 then 3 else 0
theorem metB_any (count i : Int) (w : World) (hc : 0 ≤ count ∧ count ≤ 9223372036854775807) : Calls Tryz.prog 145 #[.int .i64 count, .int .i64 i] w fun e w' => e = .returned (.int .i64 (metB count i)) ∧ w = w' := by
  have v0 : IntKind.i64.wrap (count - 2) = count - 2 := by rw [IntKind.wrap_i64]; omega
  by_cases h0 : i < count - 2 <;> by_cases h1 : i ≤ 8
  all_goals
    have hw : metB count i = if i < count - 2 ∧ i ≤ 8 then 3 else 0 := rfl
    generalize metB count i = r at hw ⊢
    go_enter Tryz.func145, Tryz.ntmps145
    go_wp2
    go_ret
    exact ⟨ret_int (by simp_all), rfl⟩
/-- a digit of the table -/
def digB (r i : Nat) : Int := match shTab[r]? with
  | some x => if x.binds.size ≤ i then 0 else ((x.binds.data.getD i 48).toNat : Int) - 48
  | none => 0
def bndB (op : Int) (count i : Nat) : Int := if isOpB op = true then (if op = 28 ∧ 0 < i then metB count i else digB op.toNat i) else 0

theorem shTab_digits : shTab.all (fun x => x.binds.data.toList.all fun b => decide (48 ≤ b.toNat ∧ b.toNat ≤ 57)) = true := by decide
theorem shTab_dig {r i : Nat} {x : ShRow} (hx : shTab[r]? = some x) (hi : i < x.binds.size) : ((x.binds[i].toNat : Int) - 48) % 256 = ((x.binds.data.getD i 48).toNat : Int) - 48 := by
  have h1 := List.all_eq_true.1 shTab_digits x (List.mem_of_getElem? hx)
  have hi2 : i < x.binds.data.size := hi
  have h2 := of_decide_eq_true (List.all_eq_true.1 h1 x.binds.data[i] (by rw [Array.mem_toList_iff]; exact Array.getElem_mem hi2))
  have e1 : x.binds[i] = x.binds.data[i] := rfl
  have e2 : x.binds.data.getD i 48 = x.binds.data[i] := by simp [Array.getD, hi]
  rw [e1, e2]
  omega
set_option maxRecDepth 100000 in
set_option maxHeartbeats 4000000 in
theorem binders_any (op : Int) (count i : Nat) (w : World) (hs : Shp w) (hc : count ≤ 9223372036854775807) (hi : i ≤ 9223372036854775807) :
    Calls Tryz.prog 88 #[.int .i64 op, .int .i64 count, .int .i64 i] w fun e w' => e = .returned (.int .i64 (bndB op count i)) ∧ w = w' := by
  have hop := isOp_any op w
  cases h0 : isOpB op
  · rw [h0] at hop
    have hr : bndB op count i = 0 := by unfold bndB; rw [h0]; rfl
    rw [hr]
    have Hop := Lib.hid hop
    clear hop
    go_enter Tryz.func88, Tryz.ntmps88
    go_wp2_with fail
    refine Hop.out.mono ?_
    rintro e w1 ⟨rfl, rfl⟩
    go_wp2_with fail
    go_ret
    exact ⟨rfl, rfl⟩
  · rw [h0] at hop
    have Hop := Lib.hid hop
    clear hop
    have h1 : 1 ≤ op ∧ op ≤ 30 := of_decide_eq_true h0
    by_cases hm : op = 28 ∧ 0 < i
    · obtain ⟨rfl, h3⟩ := hm
      have hr : bndB 28 count i = metB count i := by unfold bndB; rw [h0, if_pos rfl, if_pos ⟨rfl, h3⟩]
      rw [hr]
      have Hm := Lib.hid (metB_any count i w (by omega))
      generalize metB count i = r at Hm ⊢
      have hi0 : (0 : Int) < (i : Int) := by omega
      go_enter Tryz.func88, Tryz.ntmps88
      go_wp2_with fail
      refine Hop.out.mono ?_
      rintro e w1 ⟨rfl, rfl⟩
      go_wp2_with fail
      refine Hm.out.mono ?_
      rintro e w1 ⟨rfl, rfl⟩
      go_wp2_with fail
      go_ret
      exact ⟨rfl, rfl⟩
    · have hr : bndB op count i = digB op.toNat i := by unfold bndB; rw [h0, if_pos rfl, if_neg hm]
      rw [hr]
      obtain ⟨o, rfl⟩ : ∃ o : Nat, op = o := ⟨op.toNat, by omega⟩
      rw [Int.toNat_natCast]
      obtain ⟨x, hx⟩ : ∃ x, shTab[o]? = some x := ⟨_, List.getElem?_eq_getElem (by rw [shTab_len]; omega)⟩
      have hd : digB o i = if x.binds.size ≤ i then 0 else ((x.binds.data.getD i 48).toNat : Int) - 48 := by unfold digB; rw [hx]
      obtain ⟨_, _, _, s3⟩ := hs.2 o x hx
      have ho : ¬ (31 : Int) ≤ (o : Int) := by omega
      have ho1 : (o : Int) < 31 := by omega
      have hnt : (o : Int) = 28 → ¬ (0 : Int) < (i : Int) := fun e h => hm ⟨e, by omega⟩
      rw [hd]
      clear hr hd hm h1
      by_cases hsz : x.binds.size ≤ i
      · have hsz1 : ¬ (i : Int) < (x.binds.size : Int) := by omega
        rw [if_pos hsz]
        by_cases h28 : (o : Int) = 28
        · have h29 := hnt h28
          obtain rfl : o = 28 := by omega
          go_enter Tryz.func88, Tryz.ntmps88
          go_wp2_with fail
          refine Hop.out.mono ?_
          rintro e w1 ⟨rfl, rfl⟩
          go_wp2_with fail
          go_ret
          exact ⟨rfl, rfl⟩
        · go_enter Tryz.func88, Tryz.ntmps88
          go_wp2_with fail
          refine Hop.out.mono ?_
          rintro e w1 ⟨rfl, rfl⟩
          go_wp2_with fail
          go_ret
          exact ⟨rfl, rfl⟩
      · have hsz1' : i < x.binds.size := by omega
        have hsz1 : (i : Int) < (x.binds.size : Int) := by omega
        rw [if_neg hsz]
        have Hd := Lib.hid (shTab_dig hx hsz1')
        generalize ((x.binds.data.getD i 48).toNat : Int) - 48 = r at Hd ⊢
        by_cases h28 : (o : Int) = 28
        · have h29 := hnt h28
          obtain rfl : o = 28 := by omega
          go_enter Tryz.func88, Tryz.ntmps88
          go_wp2_with fail
          refine Hop.out.mono ?_
          rintro e w1 ⟨rfl, rfl⟩
          go_wp2_with fail
          go_ret
          exact ⟨ret_int Hd.out, rfl⟩
        · go_enter Tryz.func88, Tryz.ntmps88
          go_wp2_with fail
          refine Hop.out.mono ?_
          rintro e w1 ⟨rfl, rfl⟩
          go_wp2_with fail
          go_ret
          exact ⟨ret_int Hd.out, rfl⟩
end Go.Proofs.YtdhbfkbkgjmniaaGreatDoor
