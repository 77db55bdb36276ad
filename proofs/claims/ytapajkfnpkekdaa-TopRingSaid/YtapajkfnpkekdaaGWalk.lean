/-
  'walk' of package graph: the nodes that are reached and were not seen, each behind those that it leads to.
-/
import Derived.Test.YtapajkfnpkekdaaGKosM
import Derived.Test.YtapajkfnpkekdaaGSpr
import Derived.Test.YtapajkfnpkekdaaGSol
namespace Go.Proofs.Ytapajkfnpkekdaa
open Go Go.RowKit

/-- numbers of nodes as ints -/
def castN (l : List Nat) : List Int := l.map fun i : Nat => (i : Int)
theorem castN_len (l : List Nat) : (castN l).length = l.length := by simp [castN]
theorem castN_app (a b : List Nat) : castN (a ++ b) = castN a ++ castN b := by simp [castN]
/-- for each of N nodes a row of nodes; none of it lies in block Q -/
structure RR (w : World) (B Q G N : Nat) (next : Nat → List Nat) : Prop where
  row : ∀ v, v < N → ∃ A m c, w.cell? ⟨G, v, none⟩ = some (.slice A m c) ∧ IL w B A m (castN (next v)) ∧ m ≤ 100000 ∧ ∀ b off, A = some ⟨b, off, none⟩ → b ≠ Q
  lt : ∀ v, v < N → ∀ x ∈ next v, x < N
  g : G < B ∧ G ≠ Q
theorem RR.bb {w w' : World} {B Q G N : Nat} {next : Nat → List Nat} (h : RR w B Q G N next) (hb : BB B Q w w') : RR w' B Q G N next := by
  refine ⟨fun v hv => ?_, h.lt, h.g⟩
  obtain ⟨A, m, c, h1, h2, h3, h4⟩ := h.row v hv
  refine ⟨A, m, c, (hb.cell (p := ⟨G, v, none⟩) h.g.1 h.g.2).trans h1, ⟨h2.1, fun h0 => ?_⟩, h3, h4⟩
  obtain ⟨b, off, rfl, hb1, hb2⟩ := h2.2 h0
  exact ⟨b, off, rfl, hb1, fun j x hx => (hb.cell (p := ⟨b, off + j, none⟩) hb1 (h4 b off rfl)).trans (hb2 j x hx)⟩
/-- a node is marked -/
def sset (sl : List Bool) (x : Nat) : Prop := sl[x]? = some true
theorem sset_set {sl : List Bool} {v : Nat} (hv : v < sl.length) : sset (sl.set v true) = fun x => sset sl x ∨ x = v := by
  funext x
  refine propext ?_
  unfold sset
  rw [List.getElem?_set]
  by_cases h : v = x
  · subst h
    rw [if_pos rfl, if_pos hv]
    simp
  · rw [if_neg h]
    constructor
    · exact .inl
    · rintro (h1 | h1)
      · exact h1
      · exact absurd h1.symm h
/-- how many nodes are not marked -/
def un (N : Nat) (sl : List Bool) : Nat := (List.range N).countP fun x => !(sl[x]? == some true)
theorem un_le {N : Nat} {a b : List Bool} (h : ∀ x, sset a x → sset b x) : un N b ≤ un N a := by
  refine List.countP_mono_left fun x _ hx => ?_
  simp only [Bool.not_eq_true', beq_eq_false_iff_ne, ne_eq] at hx ⊢
  exact fun e => hx (h x e)
theorem un_lt {N v : Nat} {a b : List Bool} (h : ∀ x, sset a x → sset b x) (hv : v < N) (h1 : ¬ sset a v) (h2 : sset b v) : un N b < un N a := by
  refine count_lt (fun x _ hx => ?_) ⟨v, List.mem_range.2 hv, ?_, ?_⟩
  · simp only [Bool.not_eq_true', beq_eq_false_iff_ne, ne_eq] at hx ⊢
    exact fun e => hx (h x e)
  · simp only [Bool.not_eq_true', beq_eq_false_iff_ne, ne_eq]
    exact h1
  · have h3 : b[v]? = some true := h2
    rw [h3]; rfl
/-- different numbers below N are at most N -/
theorem nodup_len' : ∀ {K : Nat} {l : List Nat}, (∀ i ∈ l, i < K) → l.Nodup → l.length ≤ K
  | 0, l, h, _ => by
    cases l with
    | nil => exact Nat.le_refl _
    | cons a l => have := h a (by simp); omega
  | K + 1, l, h, hn => by
    by_cases hK : K ∈ l
    · have h1 : (l.erase K).length ≤ K := nodup_len' (fun i hi => by
        have h2 := (hn.mem_erase_iff).1 hi
        have h3 := h i h2.2
        have h4 := h2.1
        omega) (hn.erase K)
      rw [List.length_erase_of_mem hK] at h1
      omega
    · have h1 : l.length ≤ K := nodup_len' (fun i hi => by
        have h3 := h i hi
        have h4 : i ≠ K := fun e => hK (e ▸ hi)
        omega) hn
      omega
/-- what walk says -/
def WalkPost (base Q N : Nat) (next : Nat → List Nat) (v : Nat) (sl : List Bool) (O : List Nat) (w : World) (e : Ending) (w' : World) : Prop :=
  ∃ (M : List Nat) (sl' : List Bool) (u : Value), e = .returned u ∧ w'.ownsRow base 3 1 u (O ++ M).length (int1 (castN (O ++ M))) ∧ sl'.length = N ∧ w'.ownsRow 0 4 1 (.slice (some ⟨Q, 0, none⟩) N N) N (bool1 sl') ∧ Wn next v (sset sl) (sset sl') O M ∧ (∀ x ∈ M, x < N) ∧ BB base Q w w'

set_option maxRecDepth 100000 in
set_option maxHeartbeats 4000000 in
theorem walk_any (base Q G N : Nat) (next : Nat → List Nat) (hN : N ≤ 2000) (hQ : Q < base) : ∀ (k : Nat) (v : Nat) (sl : List Bool) (O : List Nat) (u : Value) (w : World), un N sl < k → v < N → base ≤ w.heap.size → RR w base Q G N next → sl.length = N → w.ownsRow 0 4 1 (.slice (some ⟨Q, 0, none⟩) N N) N (bool1 sl) → w.ownsRow base 3 1 u O.length (int1 (castN O)) → (∀ x ∈ O, x < N) → Wk next (sset sl) O →
    Calls Try.prog 22 #[.slice (some ⟨G, 0, none⟩) N N, .int .i64 v, .slice (some ⟨Q, 0, none⟩) N N, u] w (WalkPost base Q N next v sl O w) := by
  obtain ⟨i0, hi, hz0, hz1, hz2⟩ := info_parts infoI
  intro k
  induction k with
  | zero => intro v sl O u w hun; omega
  | succ k ih =>
    intro v sl O u w hun hv hbase hR hsl hseen hown hO hWk
    obtain ⟨q1, q2⟩ := own_cellB hseen (List.getElem?_eq_getElem (show v < sl.length by omega))
    have i1 : (v : Int) < (N : Int) := by omega
    cases hsv : sl[v]
    · rw [hsv] at q1
      have hnin : ¬ sset sl v := by unfold sset; rw [List.getElem?_eq_getElem (show v < sl.length by omega), hsv]; simp
      have hlt0 : un N (sl.set v true) < un N sl := un_lt (v := v) (fun x hx => by rw [sset_set (by omega)]; exact .inl hx) hv hnin (by rw [sset_set (by omega)]; exact .inr rfl)
      have hWl0 : Wl next v (sset sl) (sset (sl.set v true)) O [] [] := by rw [sset_set (by omega)]; exact Wl.begin hWk
      have hseen1 := own_storeB hseen v true
      have hQw : Q < w.heap.size := by omega
      have hbb1 : BB base Q w (w.setCell ⟨Q, v, none⟩ (.bool true)) := (BB.of (Below.refl _ _)).setT v _
      have hR1 := hR.bb hbb1
      have huQ : u.ownBlock ≠ some Q := fun e => by have := (hown.lt Q e).1; omega
      have hown1 := own_other hown huQ v (.bool true)
      obtain ⟨A, m, c, r1, r2, r3, r4⟩ := hR1.row v hv
      have hml : (next v).length = m := by have := r2.1; rwa [castN_len] at this
      have hGlt := hR.lt v hv
      have hs1 : base ≤ (w.setCell ⟨Q, v, none⟩ (.bool true)).heap.size := by rw [World.size_setCell]; exact hbase
      have HWk := Lib.hid hWk
      have Hnin := Lib.hid hnin
      have Hlt0 := Lib.hid hlt0
      have HR := Lib.hid hR
      have HO := Lib.hid hO
      have hsl1 : (sl.set v true).length = N := by rw [List.length_set]; exact hsl
      clear hseen hsv hWk hnin hlt0 hR1 hR hown hO
      go_enter Try.func22, Try.ntmps22
      go_wp2_with fail
      generalize hW1 : w.setCell ⟨Q, v, none⟩ (.bool true) = W1 at *
      go_loopw [3, 10, 24] (fun l nx i wr => ∃ j : Nat, j ≤ m ∧ i = .int .i64 j ∧ ∃ (Mj : List Nat) (sj : List Bool), wr.ownsRow base 3 1 l (O ++ Mj).length (int1 (castN (O ++ Mj))) ∧ sj.length = N ∧ wr.ownsRow 0 4 1 (.slice (some ⟨Q, 0, none⟩) N N) N (bool1 sj) ∧ Wl next v (sset sl) (sset sj) O Mj ((next v).take j) ∧ (∀ x ∈ Mj, x < N) ∧ BB base Q w wr ∧ base ≤ wr.heap.size) (fun _ _ i _ => m - (intOf i).toNat)
      case atStart => exact ⟨0, Nat.zero_le _, rfl, [], _, by rw [List.append_nil]; exact hown1, hsl1, hseen1, hWl0, fun x hx => (by cases hx), hbb1, hs1⟩
      case round =>
        clear hown1 hseen1 hWl0 hs1 r1
        obtain ⟨j, hj, rfl, Mj, sj, hown, hsj, hseen, hWl, hM, hbb, hsz⟩ := hrel
        by_cases hjm : j < m
        · have r2' : IL wr base A m (castN (next v)) := ⟨r2.1, fun h0 => by
            obtain ⟨b, off, rfl, hb1, hb2⟩ := r2.2 h0
            exact ⟨b, off, rfl, hb1, fun i x hx => ((hbb.cell (p := ⟨b, off + i, none⟩) hb1 (r4 b off rfl)).trans (hbb1.cell (p := ⟨b, off + i, none⟩) hb1 (r4 b off rfl)).symm).trans (hb2 i x hx)⟩⟩
          obtain ⟨b, off, x, rfl, hbl, hx, hc⟩ := r2'.at_ hjm
          obtain ⟨nx, hto⟩ : ∃ nx, (next v)[j]? = some nx := ⟨_, List.getElem?_eq_getElem (by omega)⟩
          obtain rfl : x = (nx : Int) := by
            simp [castN, hto] at hx
            exact hx.symm
          have hton : nx ∈ next v := List.mem_of_getElem? hto
          have htoN := hGlt nx hton
          have hji : (j : Int) < (m : Int) := by omega
          have hun2 : un N sj < k := by
            have h1 : un N sj ≤ un N (sl.set v true) := un_le fun y hy => by
              rw [sset_set (by omega)] at hy
              rw [hWl.all]
              rcases hy with h2 | h2
              · exact .inl h2
              · exact .inr (.inl h2)
            have := Hlt0.out
            omega
          have hC := Lib.hid (ih nx sj (O ++ Mj) _ wr hun2 htoN hsz (HR.out.bb hbb) hsj hseen hown (fun y hy => (List.mem_append.1 hy).elim (HO.out y) (hM y)) hWl.wk)
          have Hst : Hid ((next v).take (j + 1) = (next v).take j ++ [nx]) := take_snoc hto
          have HWl := Lib.hid hWl
          have Hton := Lib.hid hton
          clear hx hto hown hseen hWl hton
          go_wp2_with fail
          refine hC.out.mono ?_
          rintro e w2 ⟨M2, s2, u2, rfl, hown2, hs2, hseen2, hWn, hM2, hbb2⟩
          have hWl2 := HWl.out.step Hton.out hWn
          rw [← Hst.out] at hWl2
          rw [List.append_assoc] at hown2
          have HWl2 := Lib.hid hWl2
          clear hWl2 hWn hC
          go_wp2_with fail
          go_roundw
          case rel => exact ⟨j + 1, by omega, by go_num, Mj ++ M2, s2, hown2, hs2, hseen2, HWl2.out, fun y hy => (List.mem_append.1 hy).elim (hM y) (hM2 y), hbb.trans hbb2, Nat.le_trans hsz hbb2.size⟩
          case measure => simp [intOf]; omega
        · obtain rfl : m = j := by omega
          have hji : ¬ (m : Int) < (m : Int) := by omega
          rw [List.take_of_length_le (by omega)] at hWl
          have hWn := hWl.done HWk.out Hnin.out
          have HWn := Lib.hid hWn
          have hXX : Below wr.heap.size wr (wr.alloc (.cells #[.int .i64 v] 3)) := (Below.refl _ wr).alloc (Nat.le_refl _) _
          have hown4 := own_below hown hXX
          have hlen : (O ++ Mj).length ≤ 100000 := by
            have h1 := hWn.wk.nd
            have h2 : (O ++ (Mj ++ [v])).length ≤ N := nodup_len' (fun y hy => by
              rw [← List.append_assoc] at hy
              rcases List.mem_append.1 hy with hy | hy
              · exact (List.mem_append.1 hy).elim (HO.out y) (hM y)
              · rw [List.mem_singleton.1 hy]; exact hv) h1
            simp at h2 ⊢
            omega
          generalize hLL : (O ++ Mj).length = ll at *
          clear hWl hWn hown
          go_wp2_with (at_builtin; refine wpList_append_own _ rfl _ _ 33 rfl base 3 i0 (.int .i64 0) 1 8 Try.underlying33 hi hz0 hz1 hz2 rfl (by decide) _ ll (int1 (castN (O ++ Mj))) rfl hown4 ⟨wr.heap.size, 0, none⟩ 1 1 [.int .i64 v] rfl rfl (newI rfl) newI_one (by unfold maxLen; omega) (by omega) (by simp; omega) ?_)
          intro v5 w5 hown5 hgr5 _
          have hb5 : Below base wr w5 := (hXX.mono hsz).grown hgr5 (by simp; omega) fun j hj => (hown4.lt j hj).1
          have hseen5 : w5.ownsRow 0 4 1 (.slice (some ⟨Q, 0, none⟩) N N) N (bool1 sj) := own_grown (own_below hseen hXX) hgr5 fun k hk => by
            have h8 : base ≤ k := (hown4.lt k hk).1
            show some Q ≠ some k
            intro h9
            injection h9 with h9
            omega
          have hown6 : w5.ownsRow base 3 1 v5 (O ++ (Mj ++ [v])).length (int1 (castN (O ++ (Mj ++ [v])))) := by
            rw [← List.append_assoc, castN_app, int1_app, List.length_append, hLL]
            exact hown5
          clear hown5 hown4 hgr5
          go_wp2_with fail
          go_ret
          exact ⟨Mj ++ [v], sj, _, rfl, hown6, hsj, hseen5, HWn.out, fun y hy => (List.mem_append.1 hy).elim (hM y) fun h => by rw [List.mem_singleton.1 h]; exact hv, hbb.trans (BB.of hb5)⟩
    · rw [hsv] at q1
      have hin : sset sl v := by unfold sset; rw [List.getElem?_eq_getElem (show v < sl.length by omega), hsv]
      have hres := Wn.skip hWk hin
      have Hres := Lib.hid hres
      clear hres hin hsv hWk
      go_enter Try.func22, Try.ntmps22
      go_wp2_with fail
      go_ret
      exact ⟨[], sl, u, rfl, by rw [List.append_nil]; exact hown, hsl, hseen, Hres.out, fun x hx => (by cases hx), BB.of (Below.refl _ _)⟩
end Go.Proofs.Ytapajkfnpkekdaa
