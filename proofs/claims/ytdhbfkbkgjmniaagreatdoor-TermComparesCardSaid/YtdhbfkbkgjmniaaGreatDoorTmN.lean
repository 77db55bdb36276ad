/-
  How many nodes a term has, up to a limit; a long text in it: 'Nodes', 'long', 'Heavy' of tenetref00, 'heavy' of tenetlaw03.
-/
import Derived.Test.YtdhbfkbkgjmniaaGreatDoorTmM
import Derived.Deep.RegionHeld3
namespace Go.Proofs.YtdhbfkbkgjmniaaGreatDoor
open Go Go.RowKit

theorem Tm.sz_lt {t x : Tm} {j : Nat} (h : t.l[j]? = some x) : SizeOf.sizeOf x < SizeOf.sizeOf t := by
  cases t with
  | mk o n s u l =>
    have := List.sizeOf_lt_of_mem (List.mem_of_getElem? h)
    simp only [Tm.l] at this
    simp only [Tm.mk.sizeOf_spec]
    omega
theorem Tm.ind {P : Tm → Prop} (h : ∀ t, (∀ (j : Nat) x, t.l[j]? = some x → P x) → P t) (t : Tm) : P t := by
  have H : ∀ (k : Nat) (t : Tm), SizeOf.sizeOf t ≤ k → P t := by
    intro k
    induction k with
    | zero => intro t ht; exact h t fun j x hx => absurd (Tm.sz_lt hx) (by omega)
    | succ k ih => intro t ht; exact h t fun j x hx => ih x (by have := Tm.sz_lt hx; omega)
  exact H _ t (Nat.le_refl _)
/-- what 'Nodes' tells -/
def NdP (t : Tm) (m r : Int) : Prop := 0 ≤ r ∧ r ≤ m + 1 ∧ (r ≤ m → r = t.nd)
/-- the cells of a box of five, in every later world -/
theorem box5 {w W : World} {c0 c1 c2 c3 c4 : Value} {ty : TypeId} (h : Below (w.heap.size + 1) (w.alloc (.cells #[c0, c1, c2, c3, c4] ty)) W) :
    W.cell? ⟨w.heap.size, 0, none⟩ = some c0 ∧ W.cell? ⟨w.heap.size, 1, none⟩ = some c1 ∧ W.cell? ⟨w.heap.size, 2, none⟩ = some c2 ∧ W.cell? ⟨w.heap.size, 3, none⟩ = some c3 ∧ W.cell? ⟨w.heap.size, 4, none⟩ = some c4 :=
  ⟨(h.cell (p := ⟨w.heap.size, 0, none⟩) (by simp)).trans (by simp), (h.cell (p := ⟨w.heap.size, 1, none⟩) (by simp)).trans (by simp), (h.cell (p := ⟨w.heap.size, 2, none⟩) (by simp)).trans (by simp), (h.cell (p := ⟨w.heap.size, 3, none⟩) (by simp)).trans (by simp), (h.cell (p := ⟨w.heap.size, 4, none⟩) (by simp)).trans (by simp)⟩

set_option maxRecDepth 100000 in
set_option maxHeartbeats 4000000 in
theorem nodes_any (t : Tm) : ∀ (m : Int) (c0 c1 c2 c3 c4 : Value) (w : World), TmAt w w.heap.size c0 c1 c2 c3 c4 t → 0 ≤ m → m ≤ 1000000 →
    Calls Tryz.prog 83 #[.agg #[c0, c1, c2, c3, c4], .int .i64 m] w fun e w' => ∃ r, e = .returned (.int .i64 r) ∧ NdP t m r ∧ Below w.heap.size w w' := by
  induction t using Tm.ind
  rename_i t ih
  intro m c0 c1 c2 c3 c4 w h hm0 hm1
  obtain ⟨U, nu, cu, L, nl, cl, rfl, rfl, rfl, rfl, rfl, hu, hnu, hcu, hl, hnl, hcl⟩ := h.inv
  have hbx : Below w.heap.size w (w.alloc (.cells #[.int .i64 t.op, .int .i64 t.n, .string t.s, .slice U nu cu, .slice L nl cl] 25)) := (Below.refl _ _).alloc (Nat.le_refl _) _
  go_enter Tryz.func83, Tryz.ntmps83
  go_wp2_with fail
  go_loopw [5, 6] (fun v i wr => ∃ (k : Nat) (x : Int), k ≤ nu ∧ v = .int .i64 x ∧ i = .int .i64 k ∧ 1 ≤ x ∧ x ≤ 2 * m + 1 ∧ (x ≤ m → x = 1 + uN (t.u.take k)) ∧ Below (w.heap.size + 1) (w.alloc (.cells #[.int .i64 t.op, .int .i64 t.n, .string t.s, .slice U nu cu, .slice L nl cl] 25)) wr) (fun _ i _ => nu - (intOf i).toNat)
  case atStart => exact ⟨0, 1, Nat.zero_le _, rfl, rfl, by omega, by omega, fun _ => by simp [uN], Below.refl _ _⟩
  case round =>
    obtain ⟨k, x, hk, rfl, rfl, hx1, hx2, hx3, hbr⟩ := hrel
    obtain ⟨b0, b1, b2, b3, b4⟩ := box5 hbr
    have Hx3 := Lib.hid hx3
    clear hx3
    have hbw := hbx.trans (hbr.mono (Nat.le_succ _))
    by_cases hc : k < nu ∧ x ≤ m
    · obtain ⟨hk2, hxm⟩ := hc
      have hki : (k : Int) < (nu : Int) := by omega
      obtain ⟨b, off, y, A', q, cap, rfl, hbl, hy, y0, y1, hpl, hq, hcap, _⟩ := (hu.below hbw).at_ hk2
      have hql : y.2.length = q := hpl.1
      have Hy := Lib.hid hy
      clear hy hpl
      go_wp2_with fail
      go_roundw
      case rel =>
        refine ⟨k + 1, _, by omega, rfl, by go_num, ?_, ?_, fun hle => ?_, hbr⟩
        · split <;> omega
        · split <;> omega
        · rw [uN_snoc Hy.out]
          by_cases hqm : m < (q : Int)
          · rw [if_pos hqm] at hle
            omega
          · rw [if_neg hqm] at hle ⊢
            have := Hx3.out hxm
            omega
      case measure => simp [intOf]; omega
    · have Hx4 : Hid (x ≤ m → x = 1 + uN t.u) := Lib.hid fun h9 => by
        have h8 : k = nu := by
          have : ¬ k < nu := fun h7 => hc ⟨h7, h9⟩
          omega
        have h7 := Hx3.out h9
        rwa [List.take_of_length_le (by rw [hu.1]; omega)] at h7
      have hcond : ¬ (k : Int) < (nu : Int) ∨ (k : Int) < (nu : Int) ∧ ¬ x ≤ m := by omega
      clear hc Hx3 hu
      rcases hcond with c1 | ⟨c1, c2⟩
      all_goals
        go_wp2_with fail
        go_loopw [5, 7] (fun v i wr => ∃ (k : Nat) (x : Int), k ≤ nl ∧ v = .int .i64 x ∧ i = .int .i64 k ∧ 1 ≤ x ∧ x ≤ 2 * m + 1 ∧ (x ≤ m → x = 1 + uN t.u + ndL (t.l.take k)) ∧ Below (w.heap.size + 1) (w.alloc (.cells #[.int .i64 t.op, .int .i64 t.n, .string t.s, .slice U nu cu, .slice L nl cl] 25)) wr) (fun _ i _ => nl - (intOf i).toNat)
        case atStart => exact ⟨0, x, Nat.zero_le _, rfl, rfl, hx1, hx2, fun h9 => by rw [Hx4.out h9]; simp [ndL], hbr⟩
        case round =>
          clear c1 Hx4 hx1 hx2 hbr b0 b1 b2 b3 b4 hbw
          obtain ⟨k2, x2, hk2, rfl, rfl, hy1, hy2, hy3, hbr2⟩ := hrel
          obtain ⟨b0, b1, b2, b3, b4⟩ := box5 hbr2
          have hbw2 := hbx.trans (hbr2.mono (Nat.le_succ _))
          have Hy3 := Lib.hid hy3
          clear hy3
          by_cases hc2 : k2 < nl ∧ x2 ≤ m
          · obtain ⟨hk3, hxm⟩ := hc2
            have hki : (k2 : Int) < (nl : Int) := by omega
            obtain ⟨b, off, y, e0, e1, e2, e3, e4, rfl, hbl, hy, hT, y0, y1, y2, y3, y4⟩ := (hl.below hbw2).at_ hk3
            have HI := Lib.hid (ih k2 y hy (m - x2) e0 e1 e2 e3 e4 wr (hT.more hbw2.size) (by omega) (by omega))
            have Hy := Lib.hid hy
            have v1 : IntKind.i64.wrap (m - x2) = m - x2 := by rw [IntKind.wrap_i64]; omega
            clear hy hT
            go_wp2_with fail
            refine HI.out.mono ?_
            rintro e w3 ⟨r, rfl, ⟨r0, r1, r2⟩, hb3⟩
            have v2 : IntKind.i64.wrap (x2 + r) = x2 + r := by rw [IntKind.wrap_i64]; omega
            go_wp2_with fail
            go_roundw
            case rel =>
              refine ⟨k2 + 1, _, by omega, rfl, by go_num, by omega, by omega, fun hle => ?_, hbr2.trans (hb3.mono ?_)⟩
              · rw [ndL_snoc Hy.out]
                have := Hy3.out hxm
                have := r2 (by omega)
                omega
              · have := hbr2.size
                simp at this
                omega
            case measure => simp [intOf]; omega
          · have Hx5 : Hid (x2 ≤ m → x2 = t.nd) := Lib.hid fun h9 => by
              have h8 : k2 = nl := by
                have : ¬ k2 < nl := fun h7 => hc2 ⟨h7, h9⟩
                omega
              have h7 := Hy3.out h9
              rw [List.take_of_length_le (by rw [hl.1]; omega)] at h7
              rw [Tm.nd_eq]
              omega
            have hcond2 : ¬ (k2 : Int) < (nl : Int) ∨ (k2 : Int) < (nl : Int) ∧ ¬ x2 ≤ m := by omega
            clear hc2 Hy3 hl
            have v3 : IntKind.i64.wrap (m + 1) = m + 1 := by rw [IntKind.wrap_i64]; omega
            rcases hcond2 with d1 | ⟨d1, d2⟩
            all_goals
              by_cases h8 : m + 1 < x2
              all_goals
                go_wp2_with fail
                go_ret
                refine ⟨_, rfl, ⟨by omega, by omega, fun h9 => ?_⟩, hbw2⟩
                first
                  | exact Hx5.out h9
                  | omega

mutual
/-- has some node a text of more than 200 bytes? -/
def Tm.lg : Tm → Bool
  | .mk _ _ s _ l => decide (200 < s.size) || lgL l
def lgL : List Tm → Bool
  | [] => false
  | t :: l => t.lg || lgL l
end
theorem lgL_snoc {l : List Tm} {k : Nat} {t : Tm} (h : l[k]? = some t) : lgL (l.take (k + 1)) = (lgL (l.take k) || t.lg) := by
  have e : ∀ a b : List Tm, lgL (a ++ b) = (lgL a || lgL b) := by
    intro a
    induction a with
    | nil => intro b; simp [lgL]
    | cons x a ih => intro b; simp [lgL, ih, Bool.or_assoc]
  rw [take_snoc h, e]; simp [lgL]
theorem lgL_true {l : List Tm} {k : Nat} {t : Tm} (h : l[k]? = some t) (ht : t.lg = true) : lgL l = true := by
  induction l generalizing k with
  | nil => simp at h
  | cons x l ih =>
    cases k with
    | zero => simp at h; subst h; simp [lgL, ht]
    | succ k => simp at h; simp [lgL, ih h]
theorem Tm.lg_eq (t : Tm) : t.lg = (decide (200 < t.s.size) || lgL t.l) := by cases t; unfold Tm.lg; rfl

set_option maxRecDepth 100000 in
set_option maxHeartbeats 4000000 in
theorem long_any (t : Tm) : ∀ (c0 c1 c2 c3 c4 : Value) (w : World), TmAt w w.heap.size c0 c1 c2 c3 c4 t →
    Calls Tryz.prog 84 #[.agg #[c0, c1, c2, c3, c4]] w fun e w' => e = .returned (.bool t.lg) ∧ Below w.heap.size w w' := by
  induction t using Tm.ind
  rename_i t ih
  intro c0 c1 c2 c3 c4 w h
  obtain ⟨U, nu, cu, L, nl, cl, rfl, rfl, rfl, rfl, rfl, hu, hnu, hcu, hl, hnl, hcl⟩ := h.inv
  have hbx : Below w.heap.size w (w.alloc (.cells #[.int .i64 t.op, .int .i64 t.n, .string t.s, .slice U nu cu, .slice L nl cl] 25)) := (Below.refl _ _).alloc (Nat.le_refl _) _
  have He := Lib.hid t.lg_eq
  generalize t.lg = r at He ⊢
  by_cases hs : 200 < t.s.size
  · have hr : r = true := by rw [He.out]; simp [hs]
    subst hr
    have hs2 : (200 : Int) < (t.s.size : Int) := by omega
    go_enter Tryz.func84, Tryz.ntmps84
    go_wp2_with fail
    go_ret
    exact ⟨rfl, hbx⟩
  · have hs2 : ¬ (200 : Int) < (t.s.size : Int) := by omega
    have hr : r = lgL t.l := by rw [He.out]; simp [hs]
    clear He hs
    have Hr := Lib.hid hr
    clear hr
    go_enter Tryz.func84, Tryz.ntmps84
    go_wp2_with fail
    go_loopw [3] (fun i wr => ∃ k : Nat, k ≤ nl ∧ i = .int .i64 k ∧ lgL (t.l.take k) = false ∧ Below (w.heap.size + 1) (w.alloc (.cells #[.int .i64 t.op, .int .i64 t.n, .string t.s, .slice U nu cu, .slice L nl cl] 25)) wr) (fun i _ => nl - (intOf i).toNat)
    case atStart => exact ⟨0, Nat.zero_le _, rfl, by simp [lgL], Below.refl _ _⟩
    case round =>
      obtain ⟨k, hk, rfl, hno, hbr⟩ := hrel
      obtain ⟨b0, b1, b2, b3, b4⟩ := box5 hbr
      have hbw := hbx.trans (hbr.mono (Nat.le_succ _))
      have Hno := Lib.hid hno
      clear hno
      by_cases hkn : k < nl
      · have hki : (k : Int) < (nl : Int) := by omega
        obtain ⟨b, off, y, e0, e1, e2, e3, e4, rfl, hbl, hy, hT, y0, y1, y2, y3, y4⟩ := (hl.below hbw).at_ hkn
        have HI := Lib.hid (ih k y hy e0 e1 e2 e3 e4 wr (hT.more hbw.size))
        have Hy := Lib.hid hy
        clear hy hT
        go_wp2_with fail
        refine HI.out.mono ?_
        rintro e w3 ⟨rfl, hb3⟩
        have hsz := hbw.size
        cases hyl : y.lg
        · have Hn : Hid (lgL (t.l.take (k + 1)) = false) := Lib.hid (by rw [lgL_snoc Hy.out, Hno.out, hyl]; rfl)
          go_wp2_with fail
          go_roundw
          case rel =>
            refine ⟨k + 1, by omega, by go_num, Hn.out, hbr.trans (hb3.mono ?_)⟩
            have := hbr.size
            simp at this
            omega
          case measure => simp [intOf]; omega
        · have hr : r = true := by rw [Hr.out]; exact lgL_true Hy.out hyl
          go_wp2_with fail
          go_ret
          exact ⟨ret_bool hr.symm, hbw.trans (hb3.mono hsz)⟩
      · obtain rfl : k = nl := by omega
        have hr : r = false := by rw [Hr.out, ← Hno.out, List.take_of_length_le (by rw [hl.1]; omega)]
        have hkk : ¬ (k : Int) < (k : Int) := by omega
        go_wp2_with fail
        go_ret
        first | exact ⟨rfl, hbw⟩ | exact ⟨ret_bool hr.symm, hbw⟩

/-- some Bool is told; if it is false, P holds -/
def HvP (P : Prop) (e : Ending) : Prop := ∃ b : Bool, e = .returned (.bool b) ∧ (b = false → P)
set_option maxRecDepth 100000 in
set_option maxHeartbeats 4000000 in
theorem heavy1_any (t : Tm) (m : Int) (c0 c1 c2 c3 c4 : Value) (w : World) (h : TmAt w w.heap.size c0 c1 c2 c3 c4 t) (hm0 : 0 ≤ m) (hm1 : m ≤ 1000000) :
    Calls Tryz.prog 46 #[.agg #[c0, c1, c2, c3, c4], .int .i64 m] w fun e w' => HvP ((t.nd : Int) ≤ m ∧ t.lg = false) e ∧ Below w.heap.size w w' := by
  have hbx : Below w.heap.size w (w.alloc (.cells #[c0, c1, c2, c3, c4] 25)) := (Below.refl _ _).alloc (Nat.le_refl _) _
  have hT := h.lift hbx
  obtain ⟨U, nu, cu, L, nl, cl, rfl, rfl, rfl, rfl, rfl, _⟩ := h.inv
  have HN := Lib.hid (nodes_any t m _ _ _ _ _ _ hT hm0 hm1)
  clear h
  go_enter Tryz.func46, Tryz.ntmps46
  go_wp2_with fail
  refine HN.out.mono ?_
  rintro e w3 ⟨r, rfl, ⟨r0, r1, r2⟩, hb3⟩
  have hb3' : Below (w.heap.size + 1) (w.alloc (.cells #[.int .i64 t.op, .int .i64 t.n, .string t.s, .slice U nu cu, .slice L nl cl] 25)) w3 := hb3.mono (by simp)
  obtain ⟨b0, b1, b2, b3, b4⟩ := box5 hb3'
  have hbw := hbx.trans (hb3.mono hbx.size)
  by_cases hr : m < r
  · go_wp2_with fail
    go_ret
    exact ⟨⟨true, rfl, (fun h => by cases h)⟩, hbw⟩
  · have HL := Lib.hid (long_any t _ _ _ _ _ w3 (hT.lift hb3))
    clear hT
    go_wp2_with fail
    refine HL.out.mono ?_
    rintro e w4 ⟨rfl, hb4⟩
    go_wp2_with fail
    go_ret
    refine ⟨⟨_, rfl, fun h => ?_⟩, hbw.trans (hb4.mono hbw.size)⟩
    rw [Bool.or_eq_false_iff] at h
    exact ⟨by have := r2 (by omega); omega, h.2⟩

/-- a list of terms that are not heavy -/
def Light (l : List Tm) : Prop := l.length ≤ 40 ∧ ∀ t ∈ l, t.nd ≤ 400 ∧ t.lg = false
set_option maxRecDepth 100000 in
set_option maxHeartbeats 4000000 in
theorem heavyL_any (A : Option Addr) (n cap : Nat) (l : List Tm) (w : World) (h : TmL w w.heap.size A n l) (hn : n ≤ cap) (_ : cap ≤ 9223372036854775807) :
    Calls Tryz.prog 14 #[.slice A n cap] w fun e w' => HvP (Light l) e ∧ Below w.heap.size w w' := by
  go_enter Tryz.func14, Tryz.ntmps14
  go_wp2_with fail
  go_loopw [3] (fun i wr => ∃ k : Nat, k ≤ n ∧ i = .int .i64 k ∧ k ≤ 40 ∧ (∀ t ∈ l.take k, t.nd ≤ 400 ∧ t.lg = false) ∧ Below w.heap.size w wr) (fun i _ => n - (intOf i).toNat)
  case atStart => exact ⟨0, Nat.zero_le _, rfl, by omega, fun t ht => by simp at ht, Below.refl _ _⟩
  case round =>
    obtain ⟨k, hk, rfl, hk40, hno, hbr⟩ := hrel
    have Hno := Lib.hid hno
    clear hno
    by_cases hkn : k < n
    · have hki : (k : Int) < (n : Int) := by omega
      by_cases h40 : k = 40
      · subst h40
        go_wp2_with fail
        go_ret
        exact ⟨⟨true, rfl, (fun h => by cases h)⟩, hbr⟩
      · have h41 : ¬ (k : Int) = 40 := by omega
        have h42 : ((k : Int) == 40) = false := by simpa using h41
        obtain ⟨b, off, y, e0, e1, e2, e3, e4, rfl, hbl, hy, hT, y0, y1, y2, y3, y4⟩ := (h.below hbr).at_ hkn
        have HI := Lib.hid (heavy1_any y 400 e0 e1 e2 e3 e4 wr (hT.more hbr.size) (by omega) (by omega))
        have Hy := Lib.hid hy
        clear hy hT
        go_wp2_with fail
        refine HI.out.mono ?_
        rintro e w3 ⟨⟨x, rfl, hx⟩, hb3⟩
        have hsz := hbr.size
        cases x
        · have Hx := Lib.hid (hx rfl)
          clear hx
          go_wp2_with fail
          go_roundw
          case rel =>
            refine ⟨k + 1, by omega, by go_num, by omega, fun t ht => ?_, hbr.trans (hb3.mono hsz)⟩
            rw [take_snoc Hy.out] at ht
            rcases List.mem_append.1 ht with h1 | h1
            · exact Hno.out t h1
            · rw [List.mem_singleton.1 h1]
              exact ⟨by have := Hx.out.1; omega, Hx.out.2⟩
          case measure => simp [intOf]; omega
        · go_wp2_with fail
          go_ret
          exact ⟨⟨true, rfl, (fun h => by cases h)⟩, hbr.trans (hb3.mono hsz)⟩
    · obtain rfl : k = n := by omega
      have hkk : ¬ (k : Int) < (k : Int) := by omega
      have Hl := Lib.hid h.1
      clear h
      go_wp2_with fail
      go_ret
      refine ⟨⟨false, rfl, fun _ => ⟨by rw [Hl.out]; exact hk40, fun t ht => Hno.out t (by rwa [List.take_of_length_le (by rw [Hl.out]; omega)])⟩⟩, hbr⟩
end Go.Proofs.YtdhbfkbkgjmniaaGreatDoor
