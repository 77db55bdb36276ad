/-
  'raised' and 'Suc' of package level; 'more' of the reference.
-/
import Derived.Test.YtpahgbnfgnmlaaaDoorCopy
import Derived.Test.YtpahgbnfgnmlaaaDoorFits
import Derived.Test.YtpahgbnfgnmlaaaDoorRNormal
namespace Go.Proofs.YtpahgbnfgnmlaaaDoor
open Go Go.RowKit Go.Sort Go.Shelf

/-- as LvRes, and a list that is none has no room -/
def LvResN (B : Nat) (w' : World) (v : Value) (c : Int) (l : List (Int × Int)) : Prop :=
  ∃ A m cap, v = .agg #[.int .i64 c, .slice A m cap] ∧ PL w' w'.heap.size A m l ∧ m ≤ cap ∧ cap ≤ 9223372036854775807 ∧ (∀ b off, A = some ⟨b, off, none⟩ → B ≤ b) ∧ (A = none → cap = 0)
theorem LvResN.to {B : Nat} {w' : World} {v : Value} {c : Int} {l : List (Int × Int)} (h : LvResN B w' v c l) : LvRes B w' v c l := by
  obtain ⟨A, m, cap, h1, h2, h3, h4, h5, _⟩ := h
  exact ⟨A, m, cap, h1, h2, h3, h4, h5⟩
theorem own_none {w : World} {base : Nat} {e : TypeId} {size k n c : Nat} {A : Option Addr} {xs : List Value} (h : w.ownsRow base e size (.slice A n c) k xs) : A = none → c = 0 := by
  intro hA
  subst hA
  rcases h.2 with ⟨h1, _⟩ | ⟨g, cap, cur, h1, _⟩
  · injection h1
  · cases h1
/-- the parts with a number added -/
def rl (m : Int) (l : List (Int × Int)) : List (Int × Int) := l.map fun x => (x.1, x.2 + m)
theorem rl_snoc (m : Int) (l : List (Int × Int)) (x : Int × Int) : rl m (l ++ [x]) = rl m l ++ [(x.1, x.2 + m)] := by simp [rl]
theorem rl_len (m : Int) (l : List (Int × Int)) : (rl m l).length = l.length := by simp [rl]
theorem CB.start2 (w : World) (c d : Int) (A : Option Addr) (n cap : Nat) : CB w (((w.alloc (.cells #[.int .i64 c, .slice A n cap] 24)).alloc (.cells #[.int .i64 0, .slice none 0 0] 24)).alloc (.cells #[.int .i64 d, .slice none 0 0] 24)) d A n cap (.slice none 0 0) [] := by
  have e : ((w.alloc (.cells #[.int .i64 c, .slice A n cap] 24)).alloc (.cells #[.int .i64 0, .slice none 0 0] 24)).heap.size = w.heap.size + 1 + 1 := by simp
  refine ⟨((((Go.RowKit.Below.refl _ w).alloc (Nat.le_refl _) _).alloc (by simp) _).alloc (by simp; omega) _), by simp, ?_, ?_, ?_, ?_, ?_, ?_, ?_, ?_, World.ownsRow_nil _ _ _ _⟩
  · exact cell_alloc _ (cell_alloc _ (by simp))
  · exact cell_alloc _ (by simp)
  · exact cell_alloc _ (by simp)
  · rw [World.frozen?_alloc_old _ _ _ (by simp)]; simp
  · rw [World.frozen?_alloc_old _ _ _ (by simp)]; simp
  · exact (new_cells _ d _ e.symm).1
  · exact (new_cells _ d _ e.symm).2.1
  · exact (new_cells _ d _ e.symm).2.2

set_option maxRecDepth 100000 in
set_option maxHeartbeats 4000000 in
theorem raised_anyN (c : Int) (A : Option Addr) (n cap : Nat) (l : List (Int × Int)) (r : Int) (w : World) (h : PL w w.heap.size A n l) (hn : n ≤ 1000000) (hc0 : 0 ≤ c) (hc1 : c ≤ 1000) (hr0 : 0 ≤ r) (hr1 : r ≤ 1000)
    (hx : ∀ (k : Nat) (x : Int × Int), l[k]? = some x → 0 ≤ x.2 ∧ x.2 ≤ 1000) :
    Calls Tryd.prog 45 #[.agg #[.int .i64 c, .slice A n cap], .int .i64 r] w fun e w' => ∃ v, e = .returned v ∧ LvResN w.heap.size w' v (c + r) (rl r l) ∧ Go.RowKit.Below w.heap.size w w' := by
  obtain ⟨i0, hi, hz0, hz1, hz2⟩ := info_parts infoV
  have Hx := Lib.hid hx; clear hx
  go_enter Tryd.func45, Tryd.ntmps45
  go_wp2_with fail
  go_loopw [16] (fun i wr => ∃ k : Nat, k ≤ n ∧ i = .int .i64 k ∧ ∃ v, CB w wr (c + r) A n cap v (rl r (l.take k))) (fun i _ => n - (intOf i).toNat)
  case atStart => exact ⟨0, Nat.zero_le _, rfl, _, CB.start2 w c (c + r) A n cap⟩
  case round =>
    obtain ⟨k, hk, rfl, v, hcb⟩ := hrel
    by_cases hlt : k < n
    · obtain ⟨b, off, x, rfl, hbl, hx, hx0, hx1⟩ := (h.below hcb.bel).at_ hlt
      obtain ⟨q0, q1⟩ := Hx.out k x hx
      have Hst : Hid (rl r (l.take (k + 1)) = rl r (l.take k) ++ [(x.1, x.2 + r)]) := by rw [Hid, take_snoc hx, rl_snoc]
      have hql : (rl r (l.take k)).length ≤ 1000000 := by rw [rl_len, List.length_take]; omega
      generalize rl r (l.take k) = q at hcb Hst hql
      have s1 := hcb.s1
      have s3 := hcb.s3
      have hsz := hcb.size
      have hne : w.heap.size + 1 + 1 ≠ wr.heap.size := by omega
      have hne' : w.heap.size + 1 + 1 < wr.heap.size := by omega
      have hown := hcb.own
      go_wp2_with (at_builtin; refine wpList_append_own _ rfl _ _ 22 rfl (w.heap.size + 3) 50 i0 (.agg #[.int .i64 0, .int .i64 0]) 2 16 Tryd.underlying22 hi hz0 hz1 hz2 rfl (by decide) v q.length (flat2 q) rfl ((hown.alloc _).alloc _) _ 1 1 [.int .i64 x.1, .int .i64 (x.2 + r)] rfl rfl (news2' (x := (x.1, x.2 + r)) (by simp)) (news2_one (x := (x.1, x.2 + r))) (by unfold maxLen; omega) (by omega) (by simp; omega) ?_)
      intro v' w5 hown5 hgrow _
      have hown6 : w5.ownsRow (w.heap.size + 3) 50 2 v' (q ++ [(x.1, x.2 + r)]).length (flat2 (q ++ [(x.1, x.2 + r)])) := by rw [List.length_append, flat2_app, flat2_one]; exact hown5
      have hb5 : Go.RowKit.Below (w.heap.size + 3) wr w5 := (((Go.RowKit.Below.refl _ wr).alloc hsz _).alloc (by simp; omega) _).grown hgrow (by simp; omega) (fun j hj => (hown.lt j hj).1)
      clear hown5 hgrow
      obtain ⟨A5, c5, rfl, hl5, hm5, hp5, ho5⟩ := PL.of_own hown6
      have y1 := (hb5.cell (p := ⟨w.heap.size + 1 + 1, 1, none⟩) (show w.heap.size + 1 + 1 < _ by omega)).trans s1
      have y3 := (hb5.frozen (p := ⟨w.heap.size + 1 + 1, 1, none⟩) (show w.heap.size + 1 + 1 < _ by omega)).trans s3
      have hgo := hcb.go hb5 hown6
      rw [show (q ++ [(x.1, x.2 + r)]).length = q.length + 1 by simp] at hgo
      rw [show (q ++ [(x.1, x.2 + r)]).length = q.length + 1 by simp]
      clear s1 s3
      go_wp2_with fail
      go_roundw
      case rel => exact ⟨k + 1, by omega, by go_num, _, by rw [Hst.out]; exact hgo⟩
      case measure => simp [intOf]; omega
    · have hfull : l.take k = l := List.take_of_length_le (by have := h.1; omega)
      rw [hfull] at hcb
      clear hfull

      obtain ⟨A3, c3, rfl, hl3, hm3, hp3, ho3⟩ := PL.of_own hcb.own
      have s0 := hcb.s0
      have s1 := hcb.s1
      have r0 := hcb.r0
      have r1 := hcb.r1
      have r2 := hcb.r2
      have r3 := hcb.r3
      have e0 := World.cell?_setCell_same wr ⟨w.heap.size + 1, 0, none⟩ (.int .i64 (c + r)) hcb.r0
      have e1 := World.cell?_setCell_same (wr.setCell ⟨w.heap.size + 1, 0, none⟩ (.int .i64 (c + r))) ⟨w.heap.size + 1, 1, none⟩ (.slice A3 (rl r l).length c3) (keep_off (by decide) hcb.r1)
      go_wp2_with fail
      refine bodyPost_ret (v := .agg #[.int .i64 (c + r), .slice A3 (rl r l).length c3]) (by simp [results, Tryd.results45, go_sem, e0, e1]) rfl ?_
      have hoff : ∀ b off, A3 = some ⟨b, off, none⟩ → w.heap.size + 3 ≤ b := fun b off e => by
        rcases ho3 with rfl | ⟨g, rfl, hg, _⟩
        · cases e
        · injection e with e; injection e with e; subst e; exact hg
      refine ⟨_, rfl, ⟨A3, _, c3, rfl, ?_, hl3, by unfold maxLen at hm3; omega, fun b off e => by have := hoff b off e; omega, own_none hcb.own⟩, (hcb.bel.setCell (by show w.heap.size ≤ w.heap.size + 1; omega) _).setCell (by show w.heap.size ≤ w.heap.size + 1; omega) _⟩
      exact hp3.set2 _ _ (fun b off e => by have := hoff b off e; omega) (by simp)
theorem raised_any (c : Int) (A : Option Addr) (n cap : Nat) (l : List (Int × Int)) (r : Int) (w : World) (h : PL w w.heap.size A n l) (hn : n ≤ 1000000) (hc0 : 0 ≤ c) (hc1 : c ≤ 1000) (hr0 : 0 ≤ r) (hr1 : r ≤ 1000)
    (hx : ∀ (k : Nat) (x : Int × Int), l[k]? = some x → 0 ≤ x.2 ∧ x.2 ≤ 1000) :
    Calls Tryd.prog 45 #[.agg #[.int .i64 c, .slice A n cap], .int .i64 r] w fun e w' => ∃ v, e = .returned v ∧ LvRes w.heap.size w' v (c + r) (rl r l) ∧ Go.RowKit.Below w.heap.size w w' :=
  (raised_anyN c A n cap l r w h hn hc0 hc1 hr0 hr1 hx).mono fun _ _ ⟨v, h1, h2, h3⟩ => ⟨v, h1, h2.to, h3⟩
end Go.Proofs.YtpahgbnfgnmlaaaDoor
