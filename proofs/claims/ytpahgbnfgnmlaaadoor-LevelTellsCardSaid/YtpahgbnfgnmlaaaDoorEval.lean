/-
  'Eval' of package level and of its reference: the same number and the same error for every level and every list of numbers.
-/
import Derived.Test.YtpahgbnfgnmlaaaDoorRLeq
namespace Go.Proofs.YtpahgbnfgnmlaaaDoor
open Go Go.RowKit

/-- The slice value v reads, below block B of world w, as the list of numbers l. -/
def IL (w : World) (B : Nat) (A : Option Addr) (n : Nat) (l : List Int) : Prop :=
  l.length = n ∧ (0 < n → ∃ b off, A = some ⟨b, off, none⟩ ∧ b < B ∧ ∀ j x, l[j]? = some x → w.cell? ⟨b, off + j, none⟩ = some (.int .i64 x))
section
variable {w w' : World} {B B' n : Nat} {A : Option Addr} {l : List Int}
theorem IL.at_ {k : Nat} (h : IL w B A n l) (hk : k < n) : ∃ b off x, A = some ⟨b, off, none⟩ ∧ b < B ∧ l[k]? = some x ∧ w.cell? ⟨b, off + k, none⟩ = some (.int .i64 x) := by
  obtain ⟨b, off, e, hb, hc⟩ := h.2 (by omega)
  have hl : k < l.length := by have := h.1; omega
  exact ⟨b, off, l[k], e, hb, List.getElem?_eq_getElem hl, hc k _ (List.getElem?_eq_getElem hl)⟩
theorem IL.keep (h : IL w B A n l) (hk : ∀ p : Addr, p.block < B → w'.cell? p = w.cell? p) : IL w' B A n l :=
  ⟨h.1, fun hn => by
    obtain ⟨b, off, e, hb, hc⟩ := h.2 hn
    exact ⟨b, off, e, hb, fun j x hx => (hk ⟨b, off + j, none⟩ hb).trans (hc j x hx)⟩⟩
theorem IL.more (h : IL w B A n l) (hB : B ≤ B') : IL w B' A n l :=
  ⟨h.1, fun hn => by
    obtain ⟨b, off, e, hb, hc⟩ := h.2 hn
    exact ⟨b, off, e, by omega, hc⟩⟩
theorem IL.below (h : IL w B A n l) (hb : Below B w w') : IL w' B A n l := h.keep fun _ hp => hb.cell hp
end
theorem IL.lift {w wi : World} {n : Nat} {A : Option Addr} {l : List Int} (h : IL w w.heap.size A n l) (hb : Below w.heap.size w wi) : IL wi wi.heap.size A n l :=
  (h.below hb).more hb.size

/-- the number that a variable has -/
def asv (vals : List Int) (v : Int) : Int := match vals[v.toNat]? with | some z => if 0 < z then z else 0 | none => 0
theorem asv_nn (vals : List Int) (v : Int) : 0 ≤ asv vals v := by unfold asv; split <;> (try split) <;> omega
theorem asv_some {vals : List Int} {k : Nat} {z : Int} (h : vals[k]? = some z) : asv vals (k : Int) = if 0 < z then z else 0 := by simp [asv, h]
theorem asv_none {vals : List Int} {k : Nat} (h : vals.length ≤ k) : asv vals (k : Int) = 0 := by simp [asv, List.getElem?_eq_none h]

def evBad (vals : List Int) (l : List (Int × Int)) : Bool := l.any fun x => decide (2147483647 < asv vals x.1)
def evMax (c : Int) (vals : List Int) (l : List (Int × Int)) : Int := l.foldl (fun t x => if t < asv vals x.1 + x.2 then asv vals x.1 + x.2 else t) c
theorem evBad_snoc (vals : List Int) (l : List (Int × Int)) (x : Int × Int) : evBad vals (l ++ [x]) = (evBad vals l || decide (2147483647 < asv vals x.1)) := by simp [evBad]
theorem evMax_snoc (c : Int) (vals : List Int) (l : List (Int × Int)) (x : Int × Int) : evMax c vals (l ++ [x]) = if evMax c vals l < asv vals x.1 + x.2 then asv vals x.1 + x.2 else evMax c vals l := by unfold evMax; rw [List.foldl_append]; rfl
theorem evBad_of {vals : List Int} {l : List (Int × Int)} {x : Int × Int} {k : Nat} (hx : l[k]? = some x) (h : 2147483647 < asv vals x.1) : evBad vals l = true := by
  obtain ⟨q, rfl⟩ := List.getElem?_eq_some_iff.1 hx
  exact List.any_eq_true.2 ⟨_, List.getElem_mem q, by simpa using h⟩

noncomputable def evE (c : Int) (vals : List Int) (l : List (Int × Int)) : Int := if vld c l = true then (if evBad vals l = true then 1 else 0) else 4
noncomputable def evV (c : Int) (vals : List Int) (l : List (Int × Int)) : Int := if vld c l = true then (if evBad vals l = true then 0 else evMax c vals l) else 0

theorem ret_two {a a' b b' : Int} {k k' : IntKind} (h : a = a') (h' : b = b') : Ending.returned (.tuple #[.int k a, .int k' b]) = .returned (.tuple #[.int k a', .int k' b']) := by rw [h, h']

set_option maxRecDepth 100000 in
theorem assigned_any (A : Option Addr) (m cap : Nat) (vals : List Int) (v : Int) (w : World) (h : IL w w.heap.size A m vals) (_hm : m ≤ 9223372036854775807) (h0 : 0 ≤ v) (h1 : v ≤ 1199) :
    Calls Tryd.prog 52 #[.slice A m cap, .int .i64 v] w fun e w' => e = .returned (.int .i64 (asv vals v)) ∧ w' = w := by
  obtain ⟨k, rfl⟩ : ∃ k : Nat, v = k := ⟨v.toNat, by omega⟩
  have hm := _hm
  by_cases hk : k < m
  · obtain ⟨b, off, z, rfl, hbl, hz, hc⟩ := h.at_ hk
    have He : Hid (asv vals (k : Int) = if 0 < z then z else 0) := asv_some hz
    go_enter Tryd.func52, Tryd.ntmps52
    go_wp2
    all_goals go_ret
    all_goals exact ⟨ret_int (by rw [He.out]; split <;> omega), rfl⟩
  · have He : Hid (asv vals (k : Int) = 0) := asv_none (by have := h.1; omega)
    go_enter Tryd.func52, Tryd.ntmps52
    go_wp2
    go_ret
    exact ⟨ret_int (by rw [He.out]), rfl⟩

theorem vld_at {c : Int} {l : List (Int × Int)} {k : Nat} {x : Int × Int} (h : vld c l = true) (hx : l[k]? = some x) : (0 ≤ x.1 ∧ x.1 ≤ 1199) ∧ (0 ≤ x.2 ∧ x.2 ≤ 1000) := by
  have := (vld_iff.1 h).ok k x (List.getElem?_eq_some_iff.1 hx).1 hx
  exact ⟨this.1, this.2.1⟩

set_option maxRecDepth 100000 in
set_option maxHeartbeats 2000000 in
theorem eval_any (c : Int) (A : Option Addr) (n cap : Nat) (l : List (Int × Int)) (V : Option Addr) (m capV : Nat) (vals : List Int) (w : World)
    (h : PL w w.heap.size A n l) (hn : n ≤ cap) (hm : cap ≤ 9223372036854775807) (hv : IL w w.heap.size V m vals) (hmv : m ≤ 9223372036854775807) :
    Calls Tryd.prog 33 #[.agg #[.int .i64 c, .slice A n cap], .slice V m capV] w fun e w' => e = .returned (.tuple #[.int .i64 (evV c vals l), .int .i64 (evE c vals l)]) ∧ Below w.heap.size w w' := by
  have hbw : Below w.heap.size w (w.alloc (.cells #[.int .i64 c, .slice A n cap] 24)) := (Below.refl _ _).alloc (Nat.le_refl _) _
  have hval := valid_any c A n cap l _ (h.lift hbw) hn hm
  cases h1 : vld c l
  · have Hf : Hid (evV c vals l = 0) := by rw [Hid, evV, h1]; rfl
    have Hg : Hid (evE c vals l = 4) := by rw [Hid, evE, h1]; rfl
    rw [h1] at hval
    have Hv := Lib.hid hval; clear hval h1
    go_enter Tryd.func33, Tryd.ntmps33
    go_wp2_with fail
    refine Hv.out.mono ?_
    rintro e w1 ⟨rfl, hb1⟩
    go_wp2_with fail
    refine bodyPost_ret (v := .tuple #[.int .i64 0, .int .i64 4]) (by simp [results, Tryd.results33, go_sem]) rfl ?_
    exact ⟨ret_two Hf.out.symm Hg.out.symm, hbw.trans (hb1.mono hbw.size)⟩
  have Hat := Lib.hid (fun k (x : Int × Int) (hx : l[k]? = some x) => vld_at h1 hx)
  have Hf : Hid (evV c vals l = if evBad vals l = true then 0 else evMax c vals l) := by rw [Hid, evV, if_pos h1]
  have Hg : Hid (evE c vals l = if evBad vals l = true then 1 else 0) := by rw [Hid, evE, if_pos h1]
  have hlen : n ≤ 8 := by have := (vld_iff.1 h1).len; have := h.1; omega
  rw [h1] at hval
  have Hv := Lib.hid hval; clear hval h1
  go_enter Tryd.func33, Tryd.ntmps33
  go_wp2_with fail
  refine Hv.out.mono ?_
  rintro e w1 ⟨rfl, hb1⟩
  have hbb : Below (w.heap.size + 1) (w.alloc (.cells #[.int .i64 c, .slice A n cap] 24)) w1 := hb1.mono (by simp)
  have g1 : w1.cell? ⟨w.heap.size, 0, none⟩ = some (.int .i64 c) := (hbb.cell (p := ⟨w.heap.size, 0, none⟩) (by simp)).trans (by simp)
  have g2 : w1.cell? ⟨w.heap.size, 1, none⟩ = some (.slice A n cap) := (hbb.cell (p := ⟨w.heap.size, 1, none⟩) (by simp)).trans (by simp)
  go_wp2_with fail
  go_loopw [6, 18] (fun t i wr => ∃ k : Nat, k ≤ n ∧ i = .int .i64 k ∧ t = .int .i64 (evMax c vals (l.take k)) ∧ evBad vals (l.take k) = false ∧ Below (w.heap.size + 1) (w.alloc (.cells #[.int .i64 c, .slice A n cap] 24)) wr) (fun _ i _ => n - (intOf i).toNat)
  case atStart => exact ⟨0, Nat.zero_le _, rfl, rfl, rfl, hbb⟩
  case round =>
    obtain ⟨k, hk, rfl, rfl, hno, hbr⟩ := hrel
    have Hno := Lib.hid hno; clear hno g1 g2
    have hbwr := back0 hbr
    have hsr : w.heap.size + 1 ≤ wr.heap.size := by simpa using hbr.size
    by_cases hlt : k < n
    · obtain ⟨b, off, x, rfl, hbl, hx, hx0, hx1⟩ := (h.below hbwr).at_ hlt
      obtain ⟨⟨q1, q2⟩, q3, q4⟩ := Hat.out k x hx
      have hbx : Below w.heap.size w (wr.alloc (.cells #[.int .i64 x.1, .int .i64 x.2] 50)) := hbwr.alloc hbwr.size _
      have hcall := assigned_any V m capV vals x.1 (wr.alloc (.cells #[.int .i64 x.1, .int .i64 x.2] 50)) (hv.lift hbx) hmv q1 q2
      have hnn := asv_nn vals x.1
      have hbs := evBad_snoc vals (l.take k) x
      have hms := evMax_snoc c vals (l.take k) x
      have hbo := evBad_of (vals := vals) hx
      rw [← take_snoc hx] at hbs hms
      generalize asv vals x.1 = a at hcall hnn hbs hms hbo
      have Hms := Lib.hid hms; clear hms
      by_cases ha : 2147483647 < a
      · have Hb := Lib.hid (hbo ha); clear hbo hbs
        go_wp2_with (go_at_call 52; refine hcall.mono ?_; rintro e w4 ⟨rfl, rfl⟩)
        refine bodyPost_ret (v := .tuple #[.int .i64 0, .int .i64 1]) (by simp [results, Tryd.results33, go_sem]) rfl ?_
        exact ⟨ret_two (by rw [Hf.out, Hb.out]; rfl) (by rw [Hg.out, Hb.out]; rfl), hbx⟩
      · have Hb : Hid (evBad vals (l.take (k + 1)) = false) := by rw [Hid, hbs, Hno.out]; simp [ha]
        clear hbo hbs
        generalize evMax c vals (l.take k) = t at Hms ⊢
        go_wp2_with (go_at_call 52; refine hcall.mono ?_; rintro e w4 ⟨rfl, rfl⟩)
        go_roundw
        case rel => exact ⟨k + 1, by omega, by go_num, by rw [Hms.out], Hb.out, hbr.alloc hsr _⟩
        case measure => simp [intOf]; omega
    · have hfull : l.take k = l := List.take_of_length_le (by have := h.1; omega)
      rw [hfull] at Hno ⊢
      clear hfull
      go_wp2
      refine bodyPost_ret (v := .tuple #[.int .i64 (evMax c vals l), .int .i64 0]) (by simp [results, Tryd.results33, go_sem]) rfl ?_
      exact ⟨ret_two (by rw [Hf.out, Hno.out]; rfl) (by rw [Hg.out, Hno.out]; rfl), hbwr⟩
end Go.Proofs.YtpahgbnfgnmlaaaDoor
