/-
  'put' of the reference: one part put into an ascending list of parts, in memory of its own.
-/
import Derived.Test.YtgbbmcfhakliiaaGreatDoorCanon
namespace Go.Proofs.YtgbbmcfhakliiaaGreatDoor
open Go Go.RowKit Go.Sort Go.Shelf

/-- some part of t is not below x -/
def stp (t : List (Int × Int)) (x : Int × Int) : Bool := t.any fun y => decide (x.1 ≤ y.1)
/-- what 'put' has made of the parts that it has met -/
def outS (t : List (Int × Int)) (x : Int × Int) : List (Int × Int) := if stp t x = true then putP t x else t
theorem stp_no {t : List (Int × Int)} {x : Int × Int} : stp t x = false ↔ ∀ z ∈ t, z.1 < x.1 := by
  simp [stp, List.any_eq_false]
theorem stp_snoc (t : List (Int × Int)) (x y : Int × Int) : stp (t ++ [y]) x = (stp t x || decide (x.1 ≤ y.1)) := by simp [stp]
theorem putP_off {t : List (Int × Int)} {x : Int × Int} (h : ∀ z ∈ t, z.1 < x.1) (r : List (Int × Int)) : putP (t ++ r) x = t ++ putP r x := by
  induction t with
  | nil => rfl
  | cons z s ih =>
    have hz := h z (by simp)
    show putP (z :: (s ++ r)) x = z :: (s ++ putP r x)
    rw [putP, if_neg (by omega), if_neg (by omega), ih fun y hy => h y (List.mem_cons_of_mem _ hy)]
theorem putP_on {t : List (Int × Int)} {x y : Int × Int} (ha : (t ++ [y]).Pairwise fun x y => x.1 < y.1) (h : stp t x = true) : x.1 < y.1 ∧ putP (t ++ [y]) x = putP t x ++ [y] := by
  induction t with
  | nil => simp [stp] at h
  | cons z s ih =>
    have ha' : (z :: (s ++ [y])).Pairwise fun x y => x.1 < y.1 := ha
    obtain ⟨h1, h2⟩ := List.pairwise_cons.1 ha'
    have hzy := h1 y (by simp)
    show x.1 < y.1 ∧ putP (z :: (s ++ [y])) x = putP (z :: s) x ++ [y]
    by_cases h3 : x.1 < z.1
    · refine ⟨by omega, ?_⟩
      rw [putP, if_pos h3, putP, if_pos h3]; rfl
    · by_cases h4 : x.1 = z.1
      · refine ⟨by omega, ?_⟩
        rw [putP, if_neg h3, if_pos h4, putP, if_neg h3, if_pos h4]; rfl
      · have hs : stp s x = true := by
          simp only [stp, List.any_cons, Bool.or_eq_true, decide_eq_true_eq] at h ⊢
          rcases h with h | h
          · omega
          · exact h
        obtain ⟨i1, i2⟩ := ih h2 hs
        refine ⟨i1, ?_⟩
        rw [putP, if_neg h3, if_neg h4, i2, putP, if_neg h3, if_neg h4]; rfl
theorem put_new {t : List (Int × Int)} {x y : Int × Int} (h : stp t x = false) (hlt : x.1 < y.1) : stp (t ++ [y]) x = true ∧ outS (t ++ [y]) x = t ++ [x] ++ [y] := by
  have h1 : stp (t ++ [y]) x = true := by rw [stp_snoc]; simp [Int.le_of_lt hlt]
  refine ⟨h1, ?_⟩
  rw [outS, if_pos h1, putP_off (stp_no.1 h), putP, if_pos hlt]; simp
theorem put_join {t : List (Int × Int)} {x y : Int × Int} (h : stp t x = false) (he : x.1 = y.1) : stp (t ++ [y]) x = true ∧ outS (t ++ [y]) x = t ++ [(y.1, max x.2 y.2)] := by
  have h1 : stp (t ++ [y]) x = true := by rw [stp_snoc]; simp [he]
  refine ⟨h1, ?_⟩
  rw [outS, if_pos h1, putP_off (stp_no.1 h), putP, if_neg (by omega), if_pos he]
theorem put_pass {t : List (Int × Int)} {x y : Int × Int} (h : stp t x = false) (hlt : y.1 < x.1) : stp (t ++ [y]) x = false ∧ outS (t ++ [y]) x = t ++ [y] := by
  have h1 : stp (t ++ [y]) x = false := by rw [stp_snoc, h]; simp; omega
  exact ⟨h1, by rw [outS, h1]; rfl⟩
theorem put_done {t : List (Int × Int)} {x y : Int × Int} (ha : (t ++ [y]).Pairwise fun x y => x.1 < y.1) (h : stp t x = true) : x.1 < y.1 ∧ stp (t ++ [y]) x = true ∧ outS (t ++ [y]) x = outS t x ++ [y] := by
  obtain ⟨h1, h2⟩ := putP_on ha h
  have h3 : stp (t ++ [y]) x = true := by rw [stp_snoc, h]; rfl
  exact ⟨h1, h3, by rw [outS, if_pos h3, h2, outS, if_pos h]⟩
theorem put_end {t : List (Int × Int)} {x : Int × Int} (h : stp t x = false) : putP t x = t ++ [x] := by
  have := putP_off (stp_no.1 h) []
  rw [List.append_nil] at this
  rw [this]; rfl
theorem outS_no {t : List (Int × Int)} {x : Int × Int} (h : stp t x = false) : outS t x = t := by rw [outS, h]; rfl
theorem putP_len (r : List (Int × Int)) (x : Int × Int) : (putP r x).length ≤ r.length + 1 := by
  induction r with
  | nil => simp [putP]
  | cons y r ih =>
    unfold putP
    split
    · simp
    · split
      · simp
      · simp; omega
theorem outS_len (t : List (Int × Int)) (x : Int × Int) : (outS t x).length ≤ t.length + 1 := by
  unfold outS
  split
  · exact putP_len t x
  · omega

theorem news2' {w : World} {x : Int × Int} {t : TypeId} {k : Nat} (hk : k = w.heap.size) : ∀ j u, [Value.int .i64 x.1, Value.int .i64 x.2][j]? = some u → (w.alloc (.cells #[.int .i64 x.1, .int .i64 x.2] t)).cell? ((⟨k, 0, none⟩ : Addr).add j) = some u := by
  subst hk; exact news2

set_option maxRecDepth 100000 in
set_option maxHeartbeats 4000000 in
theorem put_any (A : Option Addr) (n c : Nat) (l : List (Int × Int)) (x : Int × Int) (w : World) (h : PL w w.heap.size A n l) (hn : n ≤ 1000000) (ha : l.Pairwise fun x y => x.1 < y.1) :
    Calls Tryz.prog 34 #[.slice A n c, .agg #[.int .i64 x.1, .int .i64 x.2]] w fun e w' =>
      ∃ v : Value, e = .returned v ∧ w'.ownsRow w.heap.size 45 2 v (putP l x).length (flat2 (putP l x)) ∧ Go.RowKit.Below w.heap.size w w' := by
  obtain ⟨i0, hi, hz0, hz1, hz2⟩ := info_parts infoV
  have Hasc := Lib.hid ha; clear ha
  go_enter Tryz.func34, Tryz.ntmps34
  go_wp2_with fail
  go_loopw [5, 6, 7] (fun v d i wr => ∃ k : Nat, k ≤ n ∧ i = .int .i64 k ∧ d = .bool (stp (l.take k) x) ∧ wr.ownsRow (w.heap.size + 1) 45 2 v (outS (l.take k) x).length (flat2 (outS (l.take k) x)) ∧ Go.RowKit.Below (w.heap.size + 1) (w.alloc (.cells #[.int .i64 x.1, .int .i64 x.2] 45)) wr) (fun _ _ i _ => n - (intOf i).toNat)
  case atStart => exact ⟨0, Nat.zero_le _, rfl, rfl, World.ownsRow_nil _ _ _ _, Go.RowKit.Below.refl _ _⟩
  case round =>
    obtain ⟨k, hk, rfl, rfl, hown, hbr⟩ := hrel
    have hbwr := back0 hbr
    have hsr : w.heap.size + 1 ≤ wr.heap.size := by simpa using hbr.size
    have g0 : wr.cell? ⟨w.heap.size, 0, none⟩ = some (.int .i64 x.1) := (hbr.cell (p := ⟨w.heap.size, 0, none⟩) (by simp)).trans (by simp)
    have g1 : wr.cell? ⟨w.heap.size, 1, none⟩ = some (.int .i64 x.2) := (hbr.cell (p := ⟨w.heap.size, 1, none⟩) (by simp)).trans (by simp)
    have hne : w.heap.size ≠ wr.heap.size := by omega
    have hlt0 : w.heap.size < wr.heap.size := by omega
    have hlen : (outS (l.take k) x).length ≤ 1000001 := by
      have := outS_len (l.take k) x
      rw [List.length_take] at this; omega
    by_cases hlt : k < n
    · obtain ⟨b, off, y, rfl, hbl, hy, hy0, hy1⟩ := (h.below hbwr).at_ hlt
      have hasc : (l.take k ++ [y]).Pairwise fun x y => x.1 < y.1 := by
        rw [← take_snoc hy]
        exact Hasc.out.sublist (List.take_sublist _ _)
      have hown1 := hown.alloc (.cells #[.int .i64 y.1, .int .i64 y.2] 45)
      have hnr : ∀ v : Value, wr.ownsRow (w.heap.size + 1) 45 2 v (outS (l.take k) x).length (flat2 (outS (l.take k) x)) → v.ownBlock ≠ some wr.heap.size := fun v hv e => by have := (hv.lt _ e).2; omega
      have hsy : (wr.alloc (.cells #[.int .i64 y.1, .int .i64 y.2] 45)).heap.size = wr.heap.size + 1 := by simp
      have hblk := fun j hj => (hown.lt j hj)
      have hnr' := hnr _ hown
      clear hnr
      cases hd : stp (l.take k) x
      · rw [outS_no hd] at hown hown1 hlen
        by_cases hxy : x.1 < y.1
        · have Hst : Hid (stp (l.take (k + 1)) x = true ∧ outS (l.take (k + 1)) x = l.take k ++ [x] ++ [y]) := by rw [Hid, take_snoc hy]; exact put_new hd hxy
          clear hd
          generalize l.take k = t at hown hown1 hlen Hst
          go_wp2_with (at_builtin; refine wpList_append_own _ rfl _ _ 22 rfl (w.heap.size + 1) 45 i0 (.agg #[.int .i64 0, .int .i64 0]) 2 16 Tryz.underlying22 hi hz0 hz1 hz2 rfl (by decide) _ t.length (flat2 t) rfl (hown1.alloc _) _ 1 1 [.int .i64 x.1, .int .i64 x.2] rfl rfl (news2' (x := x) (by simp)) (news2_one (x := x)) (by unfold maxLen; omega) (by omega) (by simp; omega) ?_)
          intro v' w5 hown5 hgrow _
          have z0 : w5.cell? ⟨wr.heap.size, 0, none⟩ = some (.int .i64 y.1) := hgrow.cell (cell_alloc _ (by simp)) fun e => hnr' e.symm
          have z1 : w5.cell? ⟨wr.heap.size, 1, none⟩ = some (.int .i64 y.2) := hgrow.cell (cell_alloc _ (by simp)) fun e => hnr' e.symm
          have hng : ∀ v : Value, (∀ j, v.ownBlock = some j → w.heap.size + 1 ≤ j ∧ j < wr.heap.size) → v.ownBlock ≠ some w.heap.size := fun v hv e => by have := (hv _ e).1; omega
          have g0' : w5.cell? ⟨w.heap.size, 0, none⟩ = some (.int .i64 x.1) := hgrow.cell (cell_alloc _ (cell_alloc _ g0)) (fun e => hng _ hblk e.symm)
          have g1' : w5.cell? ⟨w.heap.size, 1, none⟩ = some (.int .i64 x.2) := hgrow.cell (cell_alloc _ (cell_alloc _ g1)) (fun e => hng _ hblk e.symm)
          have hb5 : Go.RowKit.Below (w.heap.size + 1) (w.alloc (.cells #[.int .i64 x.1, .int .i64 x.2] 45)) w5 := ((hbr.alloc hsr _).alloc (by omega) _).grown hgrow (by simp; omega) fun j hj => (hblk j hj).1
          have hs5 : w.heap.size + 1 ≤ w5.heap.size := by simpa using hb5.size
          clear g0 g1 hown hown1
          rw [show flat2 t ++ [.int .i64 x.1, .int .i64 x.2] = flat2 (t ++ [x]) by rw [flat2_app, flat2_one]] at hown5
          go_wp2_with (at_builtin; refine wpList_append_own _ rfl _ _ 22 rfl (w.heap.size + 1) 45 i0 (.agg #[.int .i64 0, .int .i64 0]) 2 16 Tryz.underlying22 hi hz0 hz1 hz2 rfl (by decide) _ (t.length + 1) (flat2 (t ++ [x])) rfl (hown5.alloc _) ⟨w5.heap.size, 0, none⟩ 1 1 [.int .i64 y.1, .int .i64 y.2] rfl rfl (news2' (x := y) (by simp)) (news2_one (x := y)) (by unfold maxLen; omega) (by omega) (by simp; omega) ?_)
          intro v6 w6 hown6 hgrow6 _
          go_wp2_with fail
          go_roundw
          case rel =>
            refine ⟨k + 1, by omega, by go_num, by rw [Hst.out.1], ?_, (hb5.alloc hs5 _).grown hgrow6 (by simp; omega) fun j hj => (hown5.lt j hj).1⟩
            rw [Hst.out.2, List.length_append, List.length_append, flat2_app _ [y], flat2_one]
            exact hown6
          case measure => simp [intOf]; omega
        · by_cases he : x.1 = y.1
          · have Hst : Hid (stp (l.take (k + 1)) x = true ∧ outS (l.take (k + 1)) x = l.take k ++ [(y.1, max x.2 y.2)]) := by rw [Hid, take_snoc hy]; exact put_join hd he
            have heb : (x.1 == y.1) = true := by simp [he]
            clear hd he
            generalize l.take k = t at hown hown1 hlen Hst
            have hown2 := hown.alloc (.cells #[.int .i64 y.1, .int .i64 (max x.2 y.2)] 45)
            go_wp2_with (at_builtin; refine wpList_append_own _ rfl _ _ 22 rfl (w.heap.size + 1) 45 i0 (.agg #[.int .i64 0, .int .i64 0]) 2 16 Tryz.underlying22 hi hz0 hz1 hz2 rfl (by decide) _ t.length (flat2 t) rfl (hown2.alloc _) _ 1 1 [.int .i64 y.1, .int .i64 (max x.2 y.2)] rfl rfl (news2' (x := (y.1, max x.2 y.2)) (by simp)) (news2_one (x := (y.1, max x.2 y.2))) (by unfold maxLen; omega) (by omega) (by simp; omega) ?_)
            intro v' w5 hown5 hgrow _
            go_wp2_with fail
            go_roundw
            case rel =>
              refine ⟨k + 1, by omega, by go_num, by rw [Hst.out.1], ?_, ((hbr.alloc hsr _).alloc (by simp; omega) _).grown hgrow (by simp; omega) fun j hj => (hblk j hj).1⟩
              rw [Hst.out.2, List.length_append, flat2_app, flat2_one]
              exact hown5
            case measure => simp [intOf]; omega
          · have Hst : Hid (stp (l.take (k + 1)) x = false ∧ outS (l.take (k + 1)) x = l.take k ++ [y]) := by rw [Hid, take_snoc hy]; exact put_pass hd (by omega)
            clear hd
            generalize l.take k = t at hown hown1 hlen Hst
            go_wp2_with (at_builtin; refine wpList_append_own _ rfl _ _ 22 rfl (w.heap.size + 1) 45 i0 (.agg #[.int .i64 0, .int .i64 0]) 2 16 Tryz.underlying22 hi hz0 hz1 hz2 rfl (by decide) _ t.length (flat2 t) rfl (hown1.alloc _) _ 1 1 [.int .i64 y.1, .int .i64 y.2] rfl rfl (news2' (x := y) (by simp)) (news2_one (x := y)) (by unfold maxLen; omega) (by omega) (by simp; omega) ?_)
            intro v' w5 hown5 hgrow _
            go_wp2_with fail
            go_roundw
            case rel =>
              refine ⟨k + 1, by omega, by go_num, by rw [Hst.out.1], ?_, ((hbr.alloc hsr _).alloc (by simp; omega) _).grown hgrow (by simp; omega) fun j hj => (hblk j hj).1⟩
              rw [Hst.out.2, List.length_append, flat2_app, flat2_one]
              exact hown5
            case measure => simp [intOf]; omega
      · have hxy := (put_done hasc hd).1
        have Hst : Hid (stp (l.take (k + 1)) x = true ∧ outS (l.take (k + 1)) x = outS (l.take k) x ++ [y]) := by rw [Hid, take_snoc hy]; exact (put_done hasc hd).2
        clear hd
        generalize outS (l.take k) x = acc at hown hown1 hlen Hst
        go_wp2_with (at_builtin; refine wpList_append_own _ rfl _ _ 22 rfl (w.heap.size + 1) 45 i0 (.agg #[.int .i64 0, .int .i64 0]) 2 16 Tryz.underlying22 hi hz0 hz1 hz2 rfl (by decide) _ acc.length (flat2 acc) rfl (hown1.alloc _) _ 1 1 [.int .i64 y.1, .int .i64 y.2] rfl rfl (news2' (x := y) (by simp)) (news2_one (x := y)) (by unfold maxLen; omega) (by omega) (by simp; omega) ?_)
        intro v' w5 hown5 hgrow _
        go_wp2_with fail
        go_roundw
        case rel =>
          refine ⟨k + 1, by omega, by go_num, by rw [Hst.out.1], ?_, ((hbr.alloc hsr _).alloc (by simp; omega) _).grown hgrow (by simp; omega) fun j hj => (hblk j hj).1⟩
          rw [Hst.out.2, List.length_append, flat2_app, flat2_one]
          exact hown5
        case measure => simp [intOf]; omega
    · have hfull : l.take k = l := List.take_of_length_le (by have := h.1; omega)
      rw [hfull] at hown hlen ⊢
      clear hfull
      cases hd : stp l x
      · have Hd := Lib.hid hd
        rw [outS_no hd] at hown hlen
        have Hp : Hid (putP l x = l ++ [x]) := put_end hd
        clear hd
        go_wp2_with (at_builtin; refine wpList_append_own _ rfl _ _ 22 rfl (w.heap.size + 1) 45 i0 (.agg #[.int .i64 0, .int .i64 0]) 2 16 Tryz.underlying22 hi hz0 hz1 hz2 rfl (by decide) _ l.length (flat2 l) rfl (hown.alloc _) ⟨wr.heap.size, 0, none⟩ 1 1 [.int .i64 x.1, .int .i64 x.2] rfl rfl news2 news2_one (by unfold maxLen; omega) (by omega) (by simp; omega) ?_)
        intro v' w5 hown5 hgrow _
        go_wp2_with fail
        go_ret
        refine ⟨_, rfl, ?_, ((hbwr.alloc hbwr.size _).grown hgrow (by simp; omega) fun j hj => by have := (hown.lt j hj).1; omega)⟩
        rw [Hp.out, List.length_append, flat2_app, flat2_one]
        exact own_base hown5 (by omega)
      · have Hd := Lib.hid hd
        have Hp : Hid (outS l x = putP l x) := by rw [Hid, outS, if_pos hd]
        clear hd
        go_wp2_with fail
        go_ret
        exact ⟨_, rfl, by rw [← Hp.out]; exact own_base hown (by omega), hbwr⟩
end Go.Proofs.YtgbbmcfhakliiaaGreatDoor
