/-
  'readVar' at every text.
-/
import Derived.Test.YtgbbmcfhakliiaaGreatDoorReadVar
namespace Go.Proofs.YtgbbmcfhakliiaaGreatDoor
open Go Go.RowKit

set_option maxRecDepth 100000 in
set_option linter.unusedSimpArgs false in
set_option maxHeartbeats 2000000 in
theorem readVar_bad (s : ByteArray) (w : World) (hs : s.size ≤ 1000000) (hE : ∀ w1, Below w.heap.size w w1 → w1.ShapedOpen Tryz.prog ∧ Errs w1) (hn : ∀ v0, Lib.atoiAll (Lib.cut s.data.toList [43]).1 ≠ .ok v0) :
    Calls Tryz.prog 32 #[.string s] w fun e w' => ∃ x : Int × Int, e = .returned (.tuple #[.agg #[.int .i64 x.1, .int .i64 x.2], .bool (readVarF s.data.toList).isSome]) ∧ Below w.heap.size w w' ∧ ∀ y, readVarF s.data.toList = some y → y = x := by
  have hb0 : Below w.heap.size w (w.alloc (.cells #[.int .i64 0, .int .i64 0] 45)) := (Below.refl _ w).alloc (Nat.le_refl _) _
  obtain ⟨C, hC⟩ : ∃ C, Lib.cut s.data.toList [43] = C := ⟨_, rfl⟩
  obtain ⟨s1, hs1⟩ : ∃ s1 : ByteArray, s1 = ⟨C.1.toArray⟩ := ⟨_, rfl⟩
  obtain ⟨s2, hs2⟩ : ∃ s2 : ByteArray, s2 = ⟨C.2.1.toArray⟩ := ⟨_, rfl⟩
  have hcut : Calls Tryz.prog 49 #[.string s, .string ⟨#[43]⟩] (w.alloc (.cells #[.int .i64 0, .int .i64 0] 45)) fun e w' => e = .returned (.tuple #[.string s1, .string s2, .bool C.2.2]) ∧ ∃ n, w' = (w.alloc (.cells #[.int .i64 0, .int .i64 0] 45)).drewN n := by
    rw [hs1, hs2, ← hC]; exact Any.strings_Cut_shaped Tryz.layCut s ⟨#[43]⟩ _ (hE _ hb0).1 (by omega)
  have hz := cut_len43 hC
  have hl : s.data.toList.length = s.size := (Lib.size_eq s).symm
  rw [hl] at hz
  have hz1 : s1.size ≤ 1000000 := by rw [hs1]; show C.1.toArray.size ≤ _; simp; omega
  have hz2 : s2.size ≤ 1000000 := by rw [hs2]; show C.2.1.toArray.size ≤ _; simp; omega
  have hd1 : s1.data.toList = C.1 := by rw [hs1]
  have hd2 : s2.data.toList = C.2.1 := by rw [hs2]
  have HR : Hid (readVarF s.data.toList = match Lib.atoiAll s1.data.toList, Lib.atoiAll (if C.2.2 = true then s2.data.toList else [48]) with
      | .ok v, .ok n => some (v, n)
      | _, _ => none) := by rw [Hid, readVarF, hC, hd1, hd2]; generalize Lib.atoiAll C.1 = x; generalize Lib.atoiAll (if C.2.2 = true then C.2.1 else [48]) = y; cases x <;> cases y <;> rfl
  have hn1 : ∀ v0, Lib.atoiAll s1.data.toList ≠ .ok v0 := by rw [hd1, ← hC]; exact hn
  clear hn
  have Hn := Lib.hid hn1
  clear hn1
  have Hcut := Lib.hid hcut
  clear hcut hC hs1 hs2 hd1 hd2 hz hl
  go_enter Tryz.func32, Tryz.ntmps32
  go_wp2_with fail
  refine Hcut.out.mono ?_
  rintro e w1 ⟨rfl, n, hw1⟩
  have hb1 : Below (w.heap.size + 1) (w.alloc (.cells #[.int .i64 0, .int .i64 0] 45)) w1 := by rw [hw1]; exact below_drewN' (Below.refl _ _) n
  clear hw1
  have hsz1 : w.heap.size + 1 ≤ w1.heap.size := by have := hb1.size; simp at this; omega
  have hw1 : Below w.heap.size w w1 := hb0.trans (hb1.mono (by omega))
  cases hm : C.2.2
  · go_wp2_with fail
    refine (atoi_any s1 hz1 w1 (hE _ hw1).2).mono ?_
    rintro e w2 ⟨v, er, rfl, hb2, hv⟩
    have hw2 : Below w.heap.size w w2 := hw1.trans (hb2.mono (by omega))
    go_wp2_with fail
    refine (atoi_any ⟨#[48]⟩ (by decide) w2 (hE _ hw2).2).mono ?_
    rintro e w3 ⟨u, er2, rfl, hb3, hu⟩
    have hw3 : Below w.heap.size w w3 := hw2.trans (hb3.mono (by have := hb2.size; omega))
    have hB : Below (w.heap.size + 1) (w.alloc (.cells #[.int .i64 0, .int .i64 0] 45)) w3 := hb1.trans ((hb2.mono hsz1).trans (hb3.mono (by have := hb2.size; omega)))
    have y0 : w3.cell? ⟨w.heap.size, 0, none⟩ = some (.int .i64 0) := (hB.cell (p := ⟨w.heap.size, 0, none⟩) (by simp)).trans (by simp)
    have y1 : w3.cell? ⟨w.heap.size, 1, none⟩ = some (.int .i64 0) := (hB.cell (p := ⟨w.heap.size, 1, none⟩) (by simp)).trans (by simp)
    have y2 : w3.frozen? ⟨w.heap.size, 0, none⟩ = false := (hB.frozen (p := ⟨w.heap.size, 0, none⟩) (by simp)).trans (by simp)
    have y3 : w3.frozen? ⟨w.heap.size, 1, none⟩ = false := (hB.frozen (p := ⟨w.heap.size, 1, none⟩) (by simp)).trans (by simp)
    have e0 := World.cell?_setCell_same w3 ⟨w.heap.size, 0, none⟩ (.int .i64 v) y0
    have e1 := World.cell?_setCell_same (w3.setCell ⟨w.heap.size, 0, none⟩ (.int .i64 v)) ⟨w.heap.size, 1, none⟩ (.int .i64 u) (keep_off (by decide) y1)
    clear hb1 hb2 hb3 hB
    rcases hv with ⟨hv, rfl⟩ | ⟨hv, t, p, rfl⟩
    · exact absurd hv (Hn.out _)
    · have HN : Hid (readVarF s.data.toList = none) := by rw [Hid]; rw [HR.out, hm]; simp only [if_true, if_false, Bool.false_eq_true]; split; exact absurd (by assumption) (hv _); rfl
      clear hv hu
      go_wp2_with fail
      refine wp_region_held_drew (S := fun _ => True) (by kernel_rfl) trivial (fun hHeld => ?_)
      refine wpAnyH_take (i := 0) (oi := { dst := some 29, op := Op.move (Operand.tmp 7), type := 3, pos := "text.go:106", after := #[], guard := none }) (v := ?_) rfl (by kernel_rfl) (by kernel_rfl) (by kernel_rfl) (fun _ _ _ h => h) (Or.inl ⟨by rfl, ?_⟩) (by assumption) ?_
      rotate_left
      · (intro w hSw; (try dsimp only at hSw); go_simp; try with_reducible rfl)
      try simp only [Act.put, List.setIfInBounds_toArray, List.set_cons_zero, List.set_cons_succ]
      refine wpAnyH_take (i := 1) (oi := { dst := some 30, op := Op.move (Operand.tmp 9), type := 3, pos := "text.go:106", after := #[], guard := none }) (v := ?_) rfl (by kernel_rfl) (by kernel_rfl) (by kernel_rfl) (fun _ _ _ h => h) (Or.inl ⟨by rfl, ?_⟩) (by assumption) ?_
      rotate_left
      · (intro w hSw; (try dsimp only at hSw); go_simp; try with_reducible rfl)
      try simp only [Act.put, List.setIfInBounds_toArray, List.set_cons_zero, List.set_cons_succ]
      refine wpAnyH_take (i := 2) (oi := { dst := some 31, op := Op.build 45 #[(0, Operand.tmp 29), (1, Operand.tmp 30)], type := 45, pos := "text.go:106", after := #[{ on := 0, ground := Ground.data }, { on := 1, ground := Ground.data }], guard := none }) (v := ?_) rfl (by kernel_rfl) (by kernel_rfl) (by kernel_rfl) (fun _ _ _ h => h) (Or.inl ⟨by rfl, ?_⟩) (by assumption) ?_
      rotate_left
      · (intro w hSw; (try dsimp only at hSw); go_simp; try with_reducible rfl)
      try simp only [Act.put, List.setIfInBounds_toArray, List.set_cons_zero, List.set_cons_succ]
      refine wpAnyH_take (i := 3) (oi := { dst := some 32, op := Op.move (Operand.tmp 8), type := 62, pos := "text.go:106", after := #[], guard := none }) (v := ?_) rfl (by kernel_rfl) (by kernel_rfl) (by kernel_rfl) (fun _ _ _ h => h) (Or.inl ⟨by rfl, ?_⟩) (by assumption) ?_
      rotate_left
      · (intro w hSw; (try dsimp only at hSw); go_simp; try with_reducible rfl)
      try simp only [Act.put, List.setIfInBounds_toArray, List.set_cons_zero, List.set_cons_succ]
      refine wpAnyH_take (i := 4) (oi := { dst := some 33, op := Op.binOp BinOp.eql 62 (Operand.tmp 32) (Operand.const Value.nilIface) 62, type := 4, pos := "text.go:106", after := #[{ on := 3, ground := Ground.data }], guard := none }) (v := ?_) rfl (by kernel_rfl) (by kernel_rfl) (by kernel_rfl) (fun _ _ _ h => h) (Or.inl ⟨by rfl, ?_⟩) (by assumption) ?_
      rotate_left
      · (intro w hSw; (try dsimp only at hSw); go_simp; try with_reducible rfl)
      try simp only [Act.put, List.setIfInBounds_toArray, List.set_cons_zero, List.set_cons_succ]
      refine wpAnyH_take (i := 5) (oi := { dst := some 34, op := Op.move (Operand.tmp 33), type := 4, pos := "text.go:106", after := #[{ on := 4, ground := Ground.data }], guard := none }) (v := ?_) rfl (by kernel_rfl) (by kernel_rfl) (by kernel_rfl) (fun _ _ _ h => h) (Or.inl ⟨by rfl, ?_⟩) (by assumption) ?_
      rotate_left
      · (intro w hSw; (try dsimp only at hSw); go_simp; try with_reducible rfl)
      try simp only [Act.put, List.setIfInBounds_toArray, List.set_cons_zero, List.set_cons_succ]
      refine wpAnyH_take (i := 6) (oi := { dst := some 35, op := Op.move (Operand.tmp 10), type := 62, pos := "text.go:106", after := #[{ on := 5, ground := Ground.guard }, { on := 9, ground := Ground.gcOnly Departure.lateStores }], guard := some (5, true) }) (v := undef) rfl (by kernel_rfl) (by kernel_rfl) (by kernel_rfl) (fun _ _ _ h => h) (Or.inr ⟨by rfl, rfl⟩) (by assumption) ?_
      try simp only [Act.put, List.setIfInBounds_toArray, List.set_cons_zero, List.set_cons_succ]
      refine wpAnyH_take (i := 7) (oi := { dst := some 36, op := Op.binOp BinOp.eql 62 (Operand.tmp 35) (Operand.const Value.nilIface) 62, type := 4, pos := "text.go:106", after := #[{ on := 6, ground := Ground.data }, { on := 5, ground := Ground.guard }, { on := 9, ground := Ground.gcOnly Departure.lateStores }], guard := some (5, true) }) (v := undef) rfl (by kernel_rfl) (by kernel_rfl) (by kernel_rfl) (fun _ _ _ h => h) (Or.inr ⟨by rfl, rfl⟩) (by assumption) ?_
      try simp only [Act.put, List.setIfInBounds_toArray, List.set_cons_zero, List.set_cons_succ]
      refine wpAnyH_take (i := 8) (oi := { dst := some 37, op := Op.pick (Operand.tmp 34) (Operand.tmp 36) (Operand.const (Value.bool false)), type := 4, pos := "text.go:106", after := #[{ on := 5, ground := Ground.data }, { on := 7, ground := Ground.data }, { on := 9, ground := Ground.gcOnly Departure.lateStores }], guard := none }) (v := ?_) rfl (by kernel_rfl) (by kernel_rfl) (by kernel_rfl) (fun _ _ _ h => h) (Or.inl ⟨by rfl, ?_⟩) (by assumption) ?_
      rotate_left
      · (intro w hSw; (try dsimp only at hSw); go_simp; try with_reducible rfl)
      try simp only [Act.put, List.setIfInBounds_toArray, List.set_cons_zero, List.set_cons_succ]
      refine wpAnyH_ready (rs := [9]) (by kernel_rfl) (by simp) (AllReadyH.cons rfl (fun K hK => ?_) AllReadyH.nil)
      go_simp
      refine hK.out _ _ trivial (fun hHeld => ?_)
      clear hK K
      refine wpAnyH_ready (rs := [10]) (by kernel_rfl) (by simp) (AllReadyH.cons rfl (fun K hK => ?_) AllReadyH.nil)
      go_simp
      refine hK.out _ _ trivial (fun hHeld => ?_)
      clear hK K
      refine wpAnyH_done (by kernel_rfl) ?_ _
      go_wp2_with fail
      refine bodyPost_ret (v := .tuple #[.agg #[.int .i64 v, .int .i64 u], .bool false]) (by simp [results, Tryz.results32, go_sem, keep_off (show (1 : Nat) ≠ 0 by decide) e0, e1]) rfl ?_
      refine ⟨(v, u), by rw [HN.out]; rfl, (hw3.drew.setCell (Nat.le_refl _) _).setCell (Nat.le_refl _) _, fun x hx => ?_⟩
      rw [HN.out] at hx
      cases hx
  · go_wp2_with fail
    refine (atoi_any s1 hz1 w1 (hE _ hw1).2).mono ?_
    rintro e w2 ⟨v, er, rfl, hb2, hv⟩
    have hw2 : Below w.heap.size w w2 := hw1.trans (hb2.mono (by omega))
    go_wp2_with fail
    refine (atoi_any s2 hz2 w2 (hE _ hw2).2).mono ?_
    rintro e w3 ⟨u, er2, rfl, hb3, hu⟩
    have hw3 : Below w.heap.size w w3 := hw2.trans (hb3.mono (by have := hb2.size; omega))
    have hB : Below (w.heap.size + 1) (w.alloc (.cells #[.int .i64 0, .int .i64 0] 45)) w3 := hb1.trans ((hb2.mono hsz1).trans (hb3.mono (by have := hb2.size; omega)))
    have y0 : w3.cell? ⟨w.heap.size, 0, none⟩ = some (.int .i64 0) := (hB.cell (p := ⟨w.heap.size, 0, none⟩) (by simp)).trans (by simp)
    have y1 : w3.cell? ⟨w.heap.size, 1, none⟩ = some (.int .i64 0) := (hB.cell (p := ⟨w.heap.size, 1, none⟩) (by simp)).trans (by simp)
    have y2 : w3.frozen? ⟨w.heap.size, 0, none⟩ = false := (hB.frozen (p := ⟨w.heap.size, 0, none⟩) (by simp)).trans (by simp)
    have y3 : w3.frozen? ⟨w.heap.size, 1, none⟩ = false := (hB.frozen (p := ⟨w.heap.size, 1, none⟩) (by simp)).trans (by simp)
    have e0 := World.cell?_setCell_same w3 ⟨w.heap.size, 0, none⟩ (.int .i64 v) y0
    have e1 := World.cell?_setCell_same (w3.setCell ⟨w.heap.size, 0, none⟩ (.int .i64 v)) ⟨w.heap.size, 1, none⟩ (.int .i64 u) (keep_off (by decide) y1)
    clear hb1 hb2 hb3 hB
    rcases hv with ⟨hv, rfl⟩ | ⟨hv, t, p, rfl⟩
    · exact absurd hv (Hn.out _)
    · have HN : Hid (readVarF s.data.toList = none) := by rw [Hid]; rw [HR.out, hm]; simp only [if_true, if_false, Bool.false_eq_true]; split; exact absurd (by assumption) (hv _); rfl
      clear hv hu
      go_wp2_with fail
      refine wp_region_held_drew (S := fun _ => True) (by kernel_rfl) trivial (fun hHeld => ?_)
      refine wpAnyH_take (i := 0) (oi := { dst := some 29, op := Op.move (Operand.tmp 7), type := 3, pos := "text.go:106", after := #[], guard := none }) (v := ?_) rfl (by kernel_rfl) (by kernel_rfl) (by kernel_rfl) (fun _ _ _ h => h) (Or.inl ⟨by rfl, ?_⟩) (by assumption) ?_
      rotate_left
      · (intro w hSw; (try dsimp only at hSw); go_simp; try with_reducible rfl)
      try simp only [Act.put, List.setIfInBounds_toArray, List.set_cons_zero, List.set_cons_succ]
      refine wpAnyH_take (i := 1) (oi := { dst := some 30, op := Op.move (Operand.tmp 9), type := 3, pos := "text.go:106", after := #[], guard := none }) (v := ?_) rfl (by kernel_rfl) (by kernel_rfl) (by kernel_rfl) (fun _ _ _ h => h) (Or.inl ⟨by rfl, ?_⟩) (by assumption) ?_
      rotate_left
      · (intro w hSw; (try dsimp only at hSw); go_simp; try with_reducible rfl)
      try simp only [Act.put, List.setIfInBounds_toArray, List.set_cons_zero, List.set_cons_succ]
      refine wpAnyH_take (i := 2) (oi := { dst := some 31, op := Op.build 45 #[(0, Operand.tmp 29), (1, Operand.tmp 30)], type := 45, pos := "text.go:106", after := #[{ on := 0, ground := Ground.data }, { on := 1, ground := Ground.data }], guard := none }) (v := ?_) rfl (by kernel_rfl) (by kernel_rfl) (by kernel_rfl) (fun _ _ _ h => h) (Or.inl ⟨by rfl, ?_⟩) (by assumption) ?_
      rotate_left
      · (intro w hSw; (try dsimp only at hSw); go_simp; try with_reducible rfl)
      try simp only [Act.put, List.setIfInBounds_toArray, List.set_cons_zero, List.set_cons_succ]
      refine wpAnyH_take (i := 3) (oi := { dst := some 32, op := Op.move (Operand.tmp 8), type := 62, pos := "text.go:106", after := #[], guard := none }) (v := ?_) rfl (by kernel_rfl) (by kernel_rfl) (by kernel_rfl) (fun _ _ _ h => h) (Or.inl ⟨by rfl, ?_⟩) (by assumption) ?_
      rotate_left
      · (intro w hSw; (try dsimp only at hSw); go_simp; try with_reducible rfl)
      try simp only [Act.put, List.setIfInBounds_toArray, List.set_cons_zero, List.set_cons_succ]
      refine wpAnyH_take (i := 4) (oi := { dst := some 33, op := Op.binOp BinOp.eql 62 (Operand.tmp 32) (Operand.const Value.nilIface) 62, type := 4, pos := "text.go:106", after := #[{ on := 3, ground := Ground.data }], guard := none }) (v := ?_) rfl (by kernel_rfl) (by kernel_rfl) (by kernel_rfl) (fun _ _ _ h => h) (Or.inl ⟨by rfl, ?_⟩) (by assumption) ?_
      rotate_left
      · (intro w hSw; (try dsimp only at hSw); go_simp; try with_reducible rfl)
      try simp only [Act.put, List.setIfInBounds_toArray, List.set_cons_zero, List.set_cons_succ]
      refine wpAnyH_take (i := 5) (oi := { dst := some 34, op := Op.move (Operand.tmp 33), type := 4, pos := "text.go:106", after := #[{ on := 4, ground := Ground.data }], guard := none }) (v := ?_) rfl (by kernel_rfl) (by kernel_rfl) (by kernel_rfl) (fun _ _ _ h => h) (Or.inl ⟨by rfl, ?_⟩) (by assumption) ?_
      rotate_left
      · (intro w hSw; (try dsimp only at hSw); go_simp; try with_reducible rfl)
      try simp only [Act.put, List.setIfInBounds_toArray, List.set_cons_zero, List.set_cons_succ]
      refine wpAnyH_take (i := 6) (oi := { dst := some 35, op := Op.move (Operand.tmp 10), type := 62, pos := "text.go:106", after := #[{ on := 5, ground := Ground.guard }, { on := 9, ground := Ground.gcOnly Departure.lateStores }], guard := some (5, true) }) (v := undef) rfl (by kernel_rfl) (by kernel_rfl) (by kernel_rfl) (fun _ _ _ h => h) (Or.inr ⟨by rfl, rfl⟩) (by assumption) ?_
      try simp only [Act.put, List.setIfInBounds_toArray, List.set_cons_zero, List.set_cons_succ]
      refine wpAnyH_take (i := 7) (oi := { dst := some 36, op := Op.binOp BinOp.eql 62 (Operand.tmp 35) (Operand.const Value.nilIface) 62, type := 4, pos := "text.go:106", after := #[{ on := 6, ground := Ground.data }, { on := 5, ground := Ground.guard }, { on := 9, ground := Ground.gcOnly Departure.lateStores }], guard := some (5, true) }) (v := undef) rfl (by kernel_rfl) (by kernel_rfl) (by kernel_rfl) (fun _ _ _ h => h) (Or.inr ⟨by rfl, rfl⟩) (by assumption) ?_
      try simp only [Act.put, List.setIfInBounds_toArray, List.set_cons_zero, List.set_cons_succ]
      refine wpAnyH_take (i := 8) (oi := { dst := some 37, op := Op.pick (Operand.tmp 34) (Operand.tmp 36) (Operand.const (Value.bool false)), type := 4, pos := "text.go:106", after := #[{ on := 5, ground := Ground.data }, { on := 7, ground := Ground.data }, { on := 9, ground := Ground.gcOnly Departure.lateStores }], guard := none }) (v := ?_) rfl (by kernel_rfl) (by kernel_rfl) (by kernel_rfl) (fun _ _ _ h => h) (Or.inl ⟨by rfl, ?_⟩) (by assumption) ?_
      rotate_left
      · (intro w hSw; (try dsimp only at hSw); go_simp; try with_reducible rfl)
      try simp only [Act.put, List.setIfInBounds_toArray, List.set_cons_zero, List.set_cons_succ]
      refine wpAnyH_ready (rs := [9]) (by kernel_rfl) (by simp) (AllReadyH.cons rfl (fun K hK => ?_) AllReadyH.nil)
      go_simp
      refine hK.out _ _ trivial (fun hHeld => ?_)
      clear hK K
      refine wpAnyH_ready (rs := [10]) (by kernel_rfl) (by simp) (AllReadyH.cons rfl (fun K hK => ?_) AllReadyH.nil)
      go_simp
      refine hK.out _ _ trivial (fun hHeld => ?_)
      clear hK K
      refine wpAnyH_done (by kernel_rfl) ?_ _
      go_wp2_with fail
      refine bodyPost_ret (v := .tuple #[.agg #[.int .i64 v, .int .i64 u], .bool false]) (by simp [results, Tryz.results32, go_sem, keep_off (show (1 : Nat) ≠ 0 by decide) e0, e1]) rfl ?_
      refine ⟨(v, u), by rw [HN.out]; rfl, (hw3.drew.setCell (Nat.le_refl _) _).setCell (Nat.le_refl _) _, fun x hx => ?_⟩
      rw [HN.out] at hx
      cases hx

theorem readVar_any (s : ByteArray) (w : World) (hs : s.size ≤ 1000000) (hE : ∀ w1, Below w.heap.size w w1 → w1.ShapedOpen Tryz.prog ∧ Errs w1) :
    Calls Tryz.prog 32 #[.string s] w fun e w' => ∃ x : Int × Int, e = .returned (.tuple #[.agg #[.int .i64 x.1, .int .i64 x.2], .bool (readVarF s.data.toList).isSome]) ∧ Below w.heap.size w w' ∧ ∀ y, readVarF s.data.toList = some y → y = x := by
  by_cases h : ∃ v, Lib.atoiAll (Lib.cut s.data.toList [43]).1 = .ok v
  · obtain ⟨v, h⟩ := h
    exact readVar_named s w hs hE v h
  · exact readVar_bad s w hs hE fun v e => h ⟨v, e⟩
end Go.Proofs.YtgbbmcfhakliiaaGreatDoor
