/-
  Rows of numbers, of marks and of edges, as the walks of package graph meet them.
-/
import Derived.Test.YtapajkfnpkekdaaGVld
import Derived.Test.YtapajkfnpkekdaaGraM
import Derived.OwnWalk
import Derived.Laws.OwnMore
import Derived.Deep.RegionHeld3
import Derived.Deep.RegionLaw
import Derived.Deep.DeepCutAuto
namespace Go.Proofs.Ytapajkfnpkekdaa
open Go Go.RowKit

/-- the slice value (A, n) reads as these numbers -/
def IL (w : World) (B : Nat) (A : Option Addr) (n : Nat) (l : List Int) : Prop :=
  l.length = n ∧ (0 < n → ∃ b off, A = some ⟨b, off, none⟩ ∧ b < B ∧ ∀ j x, l[j]? = some x → w.cell? ⟨b, off + j, none⟩ = some (.int .i64 x))
section
variable {w w' : World} {B B' n : Nat} {A : Option Addr} {l : List Int}
theorem IL.at_ {k : Nat} (h : IL w B A n l) (hk : k < n) : ∃ b off x, A = some ⟨b, off, none⟩ ∧ b < B ∧ l[k]? = some x ∧ w.cell? ⟨b, off + k, none⟩ = some (.int .i64 x) := by
  obtain ⟨b, off, e, hb, hc⟩ := h.2 (by omega)
  have hl : k < l.length := by have := h.1; omega
  exact ⟨b, off, l[k], e, hb, List.getElem?_eq_getElem hl, hc k _ (List.getElem?_eq_getElem hl)⟩
theorem IL.keep (h : IL w B A n l) (hk : ∀ p : Addr, p.block < B → w'.cell? p = w.cell? p) : IL w' B A n l :=
  ⟨h.1, fun hn => by
    obtain ⟨b, off, e, hb, hc⟩ := h.2 hn
    exact ⟨b, off, e, hb, fun j x hx => (hk ⟨b, off + j, none⟩ hb).trans (hc j x hx)⟩⟩
theorem IL.more (h : IL w B A n l) (hB : B ≤ B') : IL w B' A n l :=
  ⟨h.1, fun hn => by
    obtain ⟨b, off, e, hb, hc⟩ := h.2 hn
    exact ⟨b, off, e, by omega, hc⟩⟩
theorem IL.below (h : IL w B A n l) (hb : Below B w w') : IL w' B A n l := h.keep fun _ hp => hb.cell hp
end
theorem IL.lift {w wi : World} {n : Nat} {A : Option Addr} {l : List Int} (h : IL w w.heap.size A n l) (hb : Below w.heap.size w wi) : IL wi wi.heap.size A n l :=
  (h.below hb).more hb.size

def int1 (l : List Int) : List Value := l.map (Value.int .i64)
theorem int1_len (l : List Int) : (int1 l).length = l.length := by simp [int1]
theorem int1_app (l r : List Int) : int1 (l ++ r) = int1 l ++ int1 r := by simp [int1]
theorem int1_at {l : List Int} {j : Nat} {x : Int} (h : l[j]? = some x) : (int1 l)[j]? = some (.int .i64 x) := by simp [int1, h]
theorem int1_set (l : List Int) (k : Nat) (z : Int) : (int1 l).set k (.int .i64 z) = int1 (l.set k z) := by simp [int1, List.map_set]
def bool1 (l : List Bool) : List Value := l.map Value.bool
theorem bool1_len (l : List Bool) : (bool1 l).length = l.length := by simp [bool1]
theorem bool1_at {l : List Bool} {j : Nat} {x : Bool} (h : l[j]? = some x) : (bool1 l)[j]? = some (.bool x) := by simp [bool1, h]
theorem bool1_set (l : List Bool) (k : Nat) (z : Bool) : (bool1 l).set k (.bool z) = bool1 (l.set k z) := by simp [bool1, List.map_set]
section
variable {w : World} {base g n cap : Nat} {e : TypeId}
theorem own_store {l : List Int} (h : w.ownsRow base e 1 (.slice (some ⟨g, 0, none⟩) n cap) n (int1 l)) (k : Nat) (z : Int) :
    (w.setCell ⟨g, k, none⟩ (.int .i64 z)).ownsRow base e 1 (.slice (some ⟨g, 0, none⟩) n cap) n (int1 (l.set k z)) := by
  have := (h.stored k (.int .i64 z)).1
  rw [int1_set] at this
  exact this
theorem own_cell {l : List Int} (h : w.ownsRow base e 1 (.slice (some ⟨g, 0, none⟩) n cap) n (int1 l)) {k : Nat} {z : Int} (hk : l[k]? = some z) :
    w.cell? ⟨g, k, none⟩ = some (.int .i64 z) ∧ w.frozen? ⟨g, k, none⟩ = false := by
  have hl := h.1
  rw [int1_len] at hl
  have hj := (List.getElem?_eq_some_iff.1 hk).1
  exact ⟨(h.cellAt k (by omega)).trans (int1_at hk), h.frozenAt k⟩
theorem own_storeB {l : List Bool} (h : w.ownsRow base e 1 (.slice (some ⟨g, 0, none⟩) n cap) n (bool1 l)) (k : Nat) (z : Bool) :
    (w.setCell ⟨g, k, none⟩ (.bool z)).ownsRow base e 1 (.slice (some ⟨g, 0, none⟩) n cap) n (bool1 (l.set k z)) := by
  have := (h.stored k (.bool z)).1
  rw [bool1_set] at this
  exact this
theorem own_cellB {l : List Bool} (h : w.ownsRow base e 1 (.slice (some ⟨g, 0, none⟩) n cap) n (bool1 l)) {k : Nat} {z : Bool} (hk : l[k]? = some z) :
    w.cell? ⟨g, k, none⟩ = some (.bool z) ∧ w.frozen? ⟨g, k, none⟩ = false := by
  have hl := h.1
  rw [bool1_len] at hl
  have hj := (List.getElem?_eq_some_iff.1 hk).1
  exact ⟨(h.cellAt k (by omega)).trans (bool1_at hk), h.frozenAt k⟩
theorem own_il {l : List Int} (h : w.ownsRow base e 1 (.slice (some ⟨g, 0, none⟩) n cap) n (int1 l)) (hg : g < w.heap.size) : IL w w.heap.size (some ⟨g, 0, none⟩) n l := by
  have hl := h.1
  rw [int1_len, Nat.mul_one] at hl
  exact ⟨hl, fun _ => ⟨g, 0, rfl, hg, fun j x hx => by rw [Nat.zero_add]; exact (own_cell h hx).1⟩⟩
theorem own_lt {xs : List Value} {size : Nat} (h : w.ownsRow base e size (.slice (some ⟨g, 0, none⟩) n cap) n xs) : base ≤ g ∧ g < w.heap.size := h.lt g rfl
end
theorem own_below {w w' : World} {base : Nat} {e : TypeId} {size n : Nat} {v : Value} {xs : List Value} (h : w.ownsRow base e size v n xs) (hb : Below w.heap.size w w') : w'.ownsRow base e size v n xs :=
  ⟨h.1, h.2.imp id fun ⟨g, cap, cur, e1, e2, e3, e4⟩ => ⟨g, cap, cur, e1, e2, (hb.block g (Array.getElem?_eq_some_iff.1 e3).1).trans e3, e4⟩⟩

/-- the number of a node -/
def gx (xs : List Int) (v : Nat) : Int := xs.getD v 0
theorem gx_at {xs : List Int} {v : Nat} {x : Int} (h : xs[v]? = some x) : gx xs v = x := by simp [gx, List.getD, h]
theorem gx_some {xs : List Int} {v : Nat} (h : v < xs.length) : xs[v]? = some (gx xs v) := by simp [gx, List.getD, h]
theorem gx_set (xs : List Int) (t : Nat) (v : Int) (ht : t < xs.length) : gx (xs.set t v) = upd (gx xs) t v := by
  funext u
  by_cases h : u = t
  · subst h; rw [upd_same]; simp [gx, List.getD, ht]
  · rw [upd_ne _ _ h]; simp [gx, List.getD, Ne.symm h]

/-- the four cells of an edge -/
def enc4 (e : Edg) : List Value := [.int .i64 e.f, .int .i64 e.t, .int .i64 e.b, .int .i64 e.k]
def flat4 (l : List Edg) : List Value := l.flatMap enc4
theorem flat4_len (l : List Edg) : (flat4 l).length = l.length * 4 := by
  induction l with
  | nil => rfl
  | cons x r ih => show (enc4 x ++ flat4 r).length = _; rw [List.length_append, ih]; simp [enc4]; omega
theorem flat4_app (l r : List Edg) : flat4 (l ++ r) = flat4 l ++ flat4 r := by simp [flat4]
theorem flat4_one (x : Edg) : flat4 [x] = [.int .i64 x.f, .int .i64 x.t, .int .i64 x.b, .int .i64 x.k] := by simp [flat4, enc4]
theorem flat4_at {l : List Edg} : ∀ {j : Nat} {x : Edg}, l[j]? = some x → (flat4 l)[j * 4]? = some (.int .i64 x.f) ∧ (flat4 l)[j * 4 + 1]? = some (.int .i64 x.t) ∧ (flat4 l)[j * 4 + 2]? = some (.int .i64 x.b) ∧ (flat4 l)[j * 4 + 3]? = some (.int .i64 x.k) := by
  induction l with
  | nil => intro j x h; simp at h
  | cons y r ih =>
    intro j x h
    have e : flat4 (y :: r) = .int .i64 y.f :: .int .i64 y.t :: .int .i64 y.b :: .int .i64 y.k :: flat4 r := rfl
    rw [e]
    cases j with
    | zero => simp at h; subst h; exact ⟨rfl, rfl, rfl, rfl⟩
    | succ j =>
      have h' : r[j]? = some x := by simpa using h
      obtain ⟨i1, i2, i3, i4⟩ := ih h'
      rw [show (j + 1) * 4 = j * 4 + 1 + 1 + 1 + 1 by omega]
      exact ⟨by simpa using i1, by simpa using i2, by simpa using i3, by simpa using i4⟩
/-- the slice value (A, n) reads as these edges -/
def EL (w : World) (B : Nat) (A : Option Addr) (n : Nat) (es : List Edg) : Prop :=
  es.length = n ∧ (0 < n → ∃ b off, A = some ⟨b, off, none⟩ ∧ b < B ∧ ∀ j e, es[j]? = some e → w.cell? ⟨b, off + j * 4, none⟩ = some (.int .i64 e.f) ∧ w.cell? ⟨b, off + j * 4 + 1, none⟩ = some (.int .i64 e.t) ∧ w.cell? ⟨b, off + j * 4 + 2, none⟩ = some (.int .i64 e.b) ∧ w.cell? ⟨b, off + j * 4 + 3, none⟩ = some (.int .i64 e.k))
theorem EL.at_ {w : World} {B n k : Nat} {A : Option Addr} {es : List Edg} (h : EL w B A n es) (hk : k < n) : ∃ b off e, A = some ⟨b, off, none⟩ ∧ b < B ∧ es[k]? = some e ∧ w.cell? ⟨b, off + k * 4, none⟩ = some (.int .i64 e.f) ∧ w.cell? ⟨b, off + k * 4 + 1, none⟩ = some (.int .i64 e.t) ∧ w.cell? ⟨b, off + k * 4 + 2, none⟩ = some (.int .i64 e.b) ∧ w.cell? ⟨b, off + k * 4 + 3, none⟩ = some (.int .i64 e.k) := by
  obtain ⟨b, off, e, hb, hc⟩ := h.2 (by omega)
  have hl : k < es.length := by have := h.1; omega
  exact ⟨b, off, es[k], e, hb, List.getElem?_eq_getElem hl, hc k _ (List.getElem?_eq_getElem hl)⟩
theorem EL.keep {w w' : World} {B n : Nat} {A : Option Addr} {es : List Edg} (h : EL w B A n es) (hk : ∀ b off, A = some ⟨b, off, none⟩ → b < B → ∀ i, w'.cell? ⟨b, i, none⟩ = w.cell? ⟨b, i, none⟩) : EL w' B A n es :=
  ⟨h.1, fun hn => by
    obtain ⟨b, off, e, hb, hc⟩ := h.2 hn
    refine ⟨b, off, e, hb, fun j x hx => ?_⟩
    obtain ⟨h0, h1, h2, h3⟩ := hc j x hx
    exact ⟨(hk b off e hb _).trans h0, (hk b off e hb _).trans h1, (hk b off e hb _).trans h2, (hk b off e hb _).trans h3⟩⟩
theorem EL.below {w w' : World} {B n : Nat} {A : Option Addr} {es : List Edg} (h : EL w B A n es) (hb : Below B w w') : EL w' B A n es := h.keep fun b _ _ hp i => hb.cell (p := ⟨b, i, none⟩) hp
theorem EL.more {w : World} {B B' n : Nat} {A : Option Addr} {es : List Edg} (h : EL w B A n es) (hB : B ≤ B') : EL w B' A n es :=
  ⟨h.1, fun hn => by
    obtain ⟨b, off, e, hb, hc⟩ := h.2 hn
    exact ⟨b, off, e, by omega, hc⟩⟩
theorem EL.lift {w w' : World} {n : Nat} {A : Option Addr} {es : List Edg} (h : EL w w.heap.size A n es) (hb : Below w.heap.size w w') : EL w' w'.heap.size A n es := (h.below hb).more hb.size
theorem EL.of_own {w : World} {base : Nat} {e : TypeId} {v : Value} {es : List Edg} (h : w.ownsRow base e 4 v es.length (flat4 es)) :
    ∃ A c, v = .slice A es.length c ∧ es.length ≤ c ∧ c ≤ maxLen ∧ EL w w.heap.size A es.length es ∧ (A = none ∧ es = [] ∧ c = 0 ∨ ∃ g, A = some ⟨g, 0, none⟩ ∧ base ≤ g ∧ g < w.heap.size) := by
  have h0 := h
  rcases h.2 with ⟨rfl, hn⟩ | ⟨g, cap, cur, rfl, hb, hg, hc, hm, hs, ht⟩
  · have : es = [] := List.eq_nil_of_length_eq_zero hn
    subst this
    exact ⟨none, 0, rfl, Nat.le_refl _, Nat.zero_le _, ⟨rfl, fun h => absurd h (by simp)⟩, .inl ⟨rfl, rfl, rfl⟩⟩
  · have hlt : g < w.heap.size := (Array.getElem?_eq_some_iff.1 hg).1
    refine ⟨_, cap, rfl, hc, hm, ⟨rfl, fun _ => ⟨g, 0, rfl, hlt, fun j x hx => ?_⟩⟩, .inr ⟨g, rfl, hb, hlt⟩⟩
    obtain ⟨f1, f2, f3, f4⟩ := flat4_at hx
    have hj : j < es.length := (List.getElem?_eq_some_iff.1 hx).1
    rw [Nat.zero_add]
    exact ⟨(h0.cellAt (j * 4) (by omega)).trans f1, (h0.cellAt (j * 4 + 1) (by omega)).trans f2, (h0.cellAt (j * 4 + 2) (by omega)).trans f3, (h0.cellAt (j * 4 + 3) (by omega)).trans f4⟩

/-- does the edge ask for more? -/
def ask (x : Nat → Int) (e : Edg) : Bool := decide (x e.t < x e.f + e.b)
def asksB (x : Nat → Int) (es : List Edg) : Bool := es.any (ask x)
theorem asksB_snoc (x : Nat → Int) (l : List Edg) (e : Edg) : asksB x (l ++ [e]) = (asksB x l || ask x e) := by simp [asksB]
theorem asksB_of {x : Nat → Int} {l : List Edg} {k : Nat} {e : Edg} (he : l[k]? = some e) (h : ask x e = true) : asksB x l = true := by
  simp only [asksB, List.any_eq_true]
  exact ⟨e, List.mem_of_getElem? he, h⟩
theorem asksB_false {x : Nat → Int} {l : List Edg} : asksB x l = false ↔ ∀ e ∈ l, hol x e := by
  simp only [asksB, List.any_eq_false, ask, decide_eq_true_eq, hol]
  exact ⟨fun h e he => by have := h e he; omega, fun h e he => by have := h e he; omega⟩
theorem asksB_true {x : Nat → Int} {l : List Edg} (h : asksB x l = true) : ∃ e ∈ l, x e.t < x e.f + e.b := by
  simp only [asksB, List.any_eq_true, ask, decide_eq_true_eq] at h
  exact h
/-- the edges' nodes are below N, and their numbers are small -/
def Ok (N : Nat) (es : List Edg) : Prop := ∀ e ∈ es, e.f < N ∧ e.t < N ∧ -1000000 ≤ e.b ∧ e.b ≤ 1000000
/-- the numbers are small -/
def Sm (xs : List Int) : Prop := ∀ z ∈ xs, -1000000000 ≤ z ∧ z ≤ 1000000000

set_option maxRecDepth 100000 in
set_option maxHeartbeats 2000000 in
theorem indexAsk_any (A : Option Addr) (n c : Nat) (es : List Edg) (g N cv : Nat) (xs : List Int) (bv : Nat) (w : World) (h : EL w w.heap.size A n es) (hn : n ≤ 9223372036854775807)
    (hx : IL w w.heap.size (some ⟨g, 0, none⟩) N xs) (hok : Ok N es) (hsm : Sm xs) (hbv : bv < w.heap.size) (hv : w.cell? ⟨bv, 0, none⟩ = some (.slice (some ⟨g, 0, none⟩) N cv)) :
    Calls Try.prog 53 #[.slice A n c, .func (.func 38) #[] #[.pointer (some ⟨bv, 0, none⟩)]] w fun e w' => ∃ i : Int, e = .returned (.int .i64 i) ∧ decide (0 ≤ i) = asksB (gx xs) es ∧ Below w.heap.size w w' := by
  go_enter Try.func53, Try.ntmps53
  go_wp2
  go_loopw [8] (fun i wr => ∃ k : Nat, k ≤ n ∧ i = .int .i64 k ∧ asksB (gx xs) (es.take k) = false ∧ Below w.heap.size w wr) (fun i _ => n - (intOf i).toNat)
  case atStart => exact ⟨0, Nat.zero_le _, rfl, rfl, Below.refl _ _⟩
  case round =>
    obtain ⟨k, hk, rfl, hno, hb⟩ := hrel
    have Hno := Lib.hid hno; clear hno
    by_cases hlt : k < n
    · obtain ⟨b, off, e, rfl, hbl, he, h0, h1, h2, h3⟩ := (h.below hb).at_ hlt
      obtain ⟨hf, ht, hb0, hb1⟩ := hok e (List.mem_of_getElem? he)
      have hvr : wr.cell? ⟨bv, 0, none⟩ = some (.slice (some ⟨g, 0, none⟩) N cv) := (hb.cell (p := ⟨bv, 0, none⟩) hbv).trans hv
      have hbw : bv < wr.heap.size := Nat.lt_of_lt_of_le hbv hb.size
      have hbn : bv ≠ wr.heap.size := by omega
      have hxl : xs.length = N := hx.1
      obtain ⟨g1, o1, x1, e1, hgl, hx1, u1⟩ := (hx.below hb).at_ hf
      obtain ⟨g2, o2, x2, e2, _, hx2, u2⟩ := (hx.below hb).at_ ht
      injection e1 with e1; injection e1 with e1 e1'; subst e1 e1'
      injection e2 with e2; injection e2 with e2 e2'; subst e2 e2'
      rw [Nat.zero_add] at u1 u2
      have s1 := hsm x1 (List.mem_of_getElem? hx1)
      have hgn : g ≠ wr.heap.size := by have := hb.size; omega
      have hgl' : g < wr.heap.size := by have := hb.size; omega
      have hff : (e.f : Int) < (N : Int) := by omega
      have htt : (e.t : Int) < (N : Int) := by omega
      have Hask : Hid (ask (gx xs) e = decide (x2 < x1 + e.b)) := by rw [Hid, ask, gx_at hx1, gx_at hx2]
      by_cases ha : x2 < x1 + e.b
      · have Hi : Hid (asksB (gx xs) es = true) := asksB_of he (by rw [Hask.out]; simpa using ha)
        clear he hx1 hx2
        go_wp2
        go_quiet (fail)
        go_wp2
        go_ret
        exact ⟨_, rfl, by rw [Hi.out]; simp, below_drewN (hb.alloc hb.size _) _⟩
      · have Hi : Hid (asksB (gx xs) (es.take (k + 1)) = false) := by rw [Hid, take_snoc he, asksB_snoc, Hno.out, Hask.out]; simpa using ha
        clear he hx1 hx2
        go_wp2
        go_quiet (fail)
        go_wp2
        go_roundw
        case rel => exact ⟨k + 1, by omega, by go_num, Hi.out, below_drewN (hb.alloc hb.size _) _⟩
        case measure => simp [intOf]; omega
    · have Hi : Hid (asksB (gx xs) es = false) := by
        have := Hno.out
        rwa [List.take_of_length_le (by have := h.1; omega)] at this
      go_wp2
      go_ret
      exact ⟨-1, rfl, by rw [Hi.out]; simp, hb⟩

set_option maxRecDepth 100000 in
set_option maxHeartbeats 1000000 in
theorem asks_any (A : Option Addr) (n c : Nat) (es : List Edg) (g N cv : Nat) (xs : List Int) (w : World) (h : EL w w.heap.size A n es) (hn : n ≤ 9223372036854775807)
    (hx : IL w w.heap.size (some ⟨g, 0, none⟩) N xs) (hok : Ok N es) (hsm : Sm xs) :
    Calls Try.prog 29 #[.slice (some ⟨g, 0, none⟩) N cv, .slice A n c] w fun e w' => e = .returned (.bool (asksB (gx xs) es)) ∧ Below w.heap.size w w' := by
  have hX : Below w.heap.size w (w.alloc (.cells #[.slice (some ⟨g, 0, none⟩) N cv] 33)) := (Below.refl _ w).alloc (Nat.le_refl _) _
  have hI := Lib.hid (indexAsk_any A n c es g N cv xs w.heap.size _ (h.lift hX) hn (hx.lift hX) hok hsm (by simp) (by simp))
  go_enter Try.func29, Try.ntmps29
  go_wp2_with (first | (go_at_call 53; refine hI.out.mono ?_; rintro e w1 ⟨i, rfl, hi, hb⟩) | go_in)
  go_ret
  exact ⟨rfl, hX.trans (hb.mono hX.size)⟩
end Go.Proofs.Ytapajkfnpkekdaa
