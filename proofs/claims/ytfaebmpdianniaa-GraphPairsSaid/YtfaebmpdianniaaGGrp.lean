/-
  'groups' of package graph: which nodes tight edges lead to from each other.
-/
import Derived.Test.YtfaebmpdianniaaGGrM
import Derived.Deep.RegionHeldLaw
import Derived.RangeFuncFrom
import Derived.RangeFuncCalls
import Derived.RangeFuncLeaves
import Derived.TacticsInMore
import Derived.LoopNIn
import Derived.LoopIn
import Derived.OwnWalkIn
import Derived.Lib.SliceRun
import Derived.Test.YtfaebmpdianniaaGSolve
namespace Go.Proofs.Ytfaebmpdianniaa
open Go Go.RowKit

/-- the two tables and the box that holds the second -/
def Tbl (w : World) (oA : Obj) (N : Nat) (x y : Value) (wx : World) : Prop := ∃ GA GB X : Nat, x = .slice (some ⟨GA, 0, none⟩) N N ∧ y = .pointer (some ⟨X, 0, none⟩) ∧ GA ≠ GB ∧ X ≠ GA ∧ X ≠ GB ∧ w.heap.size ≤ GA ∧ w.heap.size ≤ GB ∧ w.heap.size ≤ X ∧ wx.heap[GA]? = some oA ∧ wx.heap[GB]? = some oA ∧ wx.cell? ⟨X, 0, none⟩ = some (.slice (some ⟨GB, 0, none⟩) N N) ∧ Below w.heap.size w wx

theorem heap_threeD (w : World) (a b c : Obj) : (((w.alloc a).alloc b).alloc c).drew.heap[w.heap.size]? = some a ∧ (((w.alloc a).alloc b).alloc c).drew.heap[w.heap.size + 1]? = some b ∧ (((w.alloc a).alloc b).alloc c).drew.heap[w.heap.size + 1 + 1]? = some c := heap_three w a b c
theorem cell0 {W : World} {X : Nat} {v : Value} {ty : TypeId} {fr : Nat × Nat} (h : W.heap[X]? = some (.cells #[v] ty fr)) : W.cell? ⟨X, 0, none⟩ = some v := by simp [World.cell?, h]
theorem Tbl.of (w : World) (oA : Obj) (N : Nat) (a b c : Obj) (GB : Nat) {GA X : Nat} (hA : (((w.alloc a).alloc b).alloc c).drew.heap[GA]? = some oA) (hB : (((w.alloc a).alloc b).alloc c).drew.heap[GB]? = some oA) (hX : (((w.alloc a).alloc b).alloc c).drew.cell? ⟨X, 0, none⟩ = some (.slice (some ⟨GB, 0, none⟩) N N)) (n1 : GA ≠ GB) (n2 : X ≠ GA) (n3 : X ≠ GB) (l1 : w.heap.size ≤ GA) (l2 : w.heap.size ≤ GB) (l3 : w.heap.size ≤ X) :
    Tbl w oA N (.slice (some ⟨GA, 0, none⟩) N N) (.pointer (some ⟨X, 0, none⟩)) (((w.alloc a).alloc b).alloc c).drew :=
  ⟨GA, GB, X, rfl, rfl, n1, n2, n3, l1, l2, l3, hA, hB, hX, ((((Below.refl _ w).alloc (Nat.le_refl _) _).alloc (by simp) _).alloc (by simp; omega) _).drew⟩
theorem made_nil (N : Nat) : (madeCells #[Value.slice none 0 0] N).toList = (List.range N).map fun _ => Value.slice none 0 0 := by
  refine List.ext_getElem? fun j => ?_
  by_cases hj : j < N
  · simp [madeCells, hj, Nat.mod_one]
  · rw [List.getElem?_eq_none (by simp [madeCells]; omega), List.getElem?_eq_none (by simp; omega)]
theorem own_madeS {w : World} {G N : Nat} (h : w.heap[G]? = some (.cells (madeCells #[Value.slice none 0 0] N) 42)) (hN : N ≤ 2000) : w.ownsRow 0 42 1 (.slice (some ⟨G, 0, none⟩) N N) N ((List.range N).map fun _ => Value.slice none 0 0) := by
  refine ⟨by simp, .inr ⟨G, N, madeCells #[Value.slice none 0 0] N, rfl, Nat.zero_le _, h, Nat.le_refl _, by unfold maxLen; omega, by simp [madeCells], ?_⟩⟩
  simp only [Nat.mul_one]
  rw [List.take_of_length_le (by simp [madeCells])]
  exact made_nil N
/-- the tables as they are made -/
theorem RW.made {w : World} {GA GB N : Nat} (hA : w.heap[GA]? = some (.cells (madeCells #[Value.slice none 0 0] N) 42)) (hB : w.heap[GB]? = some (.cells (madeCells #[Value.slice none 0 0] N) 42)) (hn : GA ≠ GB) (hN : N ≤ 2000) :
    RW w w.heap.size (fun b => cond b GA GB) N (fun _ _ => .slice none 0 0) (fun _ _ => []) :=
  ⟨fun b => by
    cases b
    · exact own_madeS hB hN
    · exact own_madeS hA hN, fun _ _ _ => World.ownsRow_nil _ _ _ _, fun _ _ _ _ _ _ _ q hq => by simp [Value.ownBlock] at hq, hn⟩

/-- where tight edges lead, and where they come from -/
def tnb (V : List Int) (D : List Edg) (b : Bool) (x : Nat) : List Nat := cond b (tn V D x) ((D.filter fun e => e.t == x && tg V e).map (·.f))
theorem tnb_no {V : List Int} {D : List Edg} {e : Edg} (h : tg V e = false) : tnb V (D ++ [e]) = tnb V D := by
  funext b x
  unfold tnb tn
  rw [List.filter_append, List.filter_append]
  simp [h]
theorem tnb_yes {V : List Int} {D : List Edg} {e : Edg} (h : tg V e = true) : tnb V (D ++ [e]) = fun c x => if c = false ∧ x = e.t then (if false = true ∧ e.t = e.f then tnb V D true e.f ++ [e.t] else tnb V D false e.t) ++ [e.f] else (if c = true ∧ x = e.f then tnb V D true e.f ++ [e.t] else tnb V D c x) := by
  funext c x
  unfold tnb tn
  cases c
  · by_cases hx : x = e.t
    · subst hx; simp [List.filter_append, h]
    · have : ¬ e.t = x := fun e => hx e.symm
      simp [List.filter_append, hx, this]
  · by_cases hx : x = e.f
    · subst hx; simp [List.filter_append, h]
    · have : ¬ e.f = x := fun e => hx e.symm
      simp [List.filter_append, hx, this]
theorem tnb_len (V : List Int) (D : List Edg) (b : Bool) (x : Nat) : (tnb V D b x).length ≤ D.length := by
  unfold tnb tn
  cases b
  · simp only [cond_false, List.length_map]; exact List.length_filter_le _ _
  · simp only [cond_true, List.length_map]; exact List.length_filter_le _ _
/-- the edges of the first v nodes -/
def dnE (out : Nat → List Edg) (v : Nat) : List Edg := (List.range v).flatMap out
theorem dnE_succ (out : Nat → List Edg) (v : Nat) : dnE out (v + 1) = dnE out v ++ out v := by
  unfold dnE
  rw [List.range_succ, List.flatMap_append]
  simp
theorem dnE_le (out : Nat → List Edg) (v N : Nat) (h : v ≤ N) : (dnE out v).length ≤ (dnE out N).length := by
  induction N with
  | zero => obtain rfl : v = 0 := by omega
            exact Nat.le_refl _
  | succ N ih =>
    by_cases hv : v = N + 1
    · subst hv; exact Nat.le_refl _
    · rw [dnE_succ, List.length_append]
      have := ih (by omega)
      omega

/-- what an append to a row, with its store, leaves -/
theorem RW.step {a w2 wd w5 : World} {B EB N : Nat} {G : Bool → Nat} {val : Bool → Nat → Value} {ls : Bool → Nat → List Nat} {C : Array Value} (h : RW w2 B G N val ls) (hbg : BG2 B G a w2) (hB : B ≤ w2.heap.size) (hE : w2.heap[EB]? = some (.cells C 93)) (hb : Below w2.heap.size w2 wd) (hs : wd.heap.size = w2.heap.size + 1)
    {b : Bool} {v t g cap : Nat} (hv : v < N) (hg : wd.grownBy w5 (val b v).ownBlock) (ho : w5.ownsRow B 3 1 (.slice (some ⟨g, 0, none⟩) ((ls b v).length + 1) cap) ((ls b v).length + 1) (int1 (castN (ls b v)) ++ [.int .i64 t])) (hl : (val b v).ownBlock = some g ∨ g = w2.heap.size + 1) :
    ∃ val', RW (w5.setCell ⟨G b, v, none⟩ (.slice (some ⟨g, 0, none⟩) ((ls b v).length + 1) cap)) B G N val' (fun c x => if c = b ∧ x = v then ls b v ++ [t] else ls c x) ∧ BG2 B G a (w5.setCell ⟨G b, v, none⟩ (.slice (some ⟨g, 0, none⟩) ((ls b v).length + 1) cap)) ∧ (w5.setCell ⟨G b, v, none⟩ (.slice (some ⟨g, 0, none⟩) ((ls b v).length + 1) cap)).heap[EB]? = some (.cells C 93) := by
  have hd := h.below hb
  have hlt : EB < w2.heap.size := (Array.getElem?_eq_some_iff.1 hE).1
  have hEd : wd.heap[EB]? = some (.cells C 93) := (hb.block EB hlt).trans hE
  refine ⟨_, hd.put hv hg ho (hl.imp id fun h1 => by rw [h1, hs]), ((hbg.then hb hB).grown hg (by rw [hs]; omega) fun k hk => ((hd.own b v hv).lt k hk).1).set b v _, ?_⟩
  have h1 : EB ≠ G b := fun e => own_ne (hd.row b) ⟨_, _, hEd⟩ (by decide) (by rw [e]; rfl)
  have h2 : (val b v).ownBlock ≠ some EB := own_ne (hd.own b v hv) ⟨_, _, hEd⟩ (by decide)
  exact (Below.heap_setCell _ _ _ EB h1).trans ((hg.block EB (by rw [hs]; omega) (fun e => h2 e.symm)).trans hEd)

/-- what groups says -/
def GrpPost (N : Nat) (next : Nat → List Nat) (w : World) (e : Ending) (w' : World) : Prop :=
  ∃ (g : Nat) (gs : List Int), e = .returned (.slice (some ⟨g, 0, none⟩) N N) ∧ gs.length = N ∧ w'.ownsRow w.heap.size 3 1 (.slice (some ⟨g, 0, none⟩) N N) N (int1 gs) ∧ (∀ x y, x < N → y < N → (gx gs x = gx gs y ↔ Mut next x y)) ∧ Below w.heap.size w w' ∧ ∀ x, x < N → 0 ≤ gx gs x ∧ gx gs x < N
theorem Qs.range {next : Nat → List Nat} {N : Nat} {O : List Nat} {sl : List Bool} {gs : List Int} (hlt : ∀ a, ∀ y ∈ next a, y < N) (hall : ∀ x, x < N → x ∈ O) (h : Qs next N O 0 sl gs) : ∀ x, x < N → 0 ≤ gx gs x ∧ gx gs x < N := by
  intro x hx
  obtain ⟨i, hi⟩ := List.mem_iff_getElem?.1 (hall x hx)
  obtain ⟨r, h1, _, h2⟩ := h.root x (h.done i x (Nat.zero_le _) hi)
  have hr : r < N := by
    unfold Rch at h2
    cases h2 with
    | refl _ => exact hx
    | step _ h3 _ => exact hlt _ _ h3
  rw [h1]
  omega
theorem dnE_mem {out : Nat → List Edg} {N : Nat} {e : Edg} (h : e ∈ dnE out N) : ∃ v, v < N ∧ e ∈ out v := by
  unfold dnE at h
  rw [List.mem_flatMap] at h
  obtain ⟨v, hv, he⟩ := h
  exact ⟨v, List.mem_range.1 hv, he⟩
theorem tnb_back {V : List Int} {D : List Edg} (a b : Nat) : b ∈ tnb V D true a ↔ a ∈ tnb V D false b := by
  simp only [tnb, tn, cond_true, cond_false, List.mem_map, List.mem_filter, Bool.and_eq_true, beq_iff_eq]
  constructor
  · rintro ⟨e, ⟨h1, h2, h3⟩, h4⟩; exact ⟨e, ⟨h1, h4, h3⟩, h2⟩
  · rintro ⟨e, ⟨h1, h2, h3⟩, h4⟩; exact ⟨e, ⟨h1, h4, h3⟩, h2⟩
theorem tnb_lt {V : List Int} {D : List Edg} {N : Nat} (hD : ∀ e ∈ D, e.f < N ∧ e.t < N) (b : Bool) (v : Nat) : ∀ x ∈ tnb V D b v, x < N := by
  intro x hx
  cases b
  · simp only [tnb, cond_false, List.mem_map, List.mem_filter] at hx
    obtain ⟨e, ⟨h1, _⟩, rfl⟩ := hx
    exact (hD e h1).1
  · simp only [tnb, tn, cond_true, List.mem_map, List.mem_filter] at hx
    obtain ⟨e, ⟨h1, _⟩, rfl⟩ := hx
    exact (hD e h1).2
theorem made_zerosG (n : Nat) : (madeCells #[Value.int .i64 0] n).toList = int1 (List.replicate n 0) := by
  refine List.ext_getElem? fun j => ?_
  by_cases hj : j < n
  · simp [madeCells, int1, hj, Nat.mod_one]
  · rw [List.getElem?_eq_none (by simp [madeCells]; omega), List.getElem?_eq_none (by simp [int1]; omega)]
theorem BB.setCells {B T : Nat} {a : World} : ∀ (vs : List Value) (o : Nat) {w : World}, BB B T a w → BB B T a (w.setCells T o vs)
  | [], _, _, h => h
  | v :: vs, o, _, h => BB.setCells vs (o + 1) (h.setT o v)
theorem heap_setC {T i : Nat} (hi : i ≠ T) : ∀ (vs : List Value) (o : Nat) (w : World), (w.setCells T o vs).heap[i]? = w.heap[i]?
  | [], _, _ => rfl
  | _ :: vs, o, w => (heap_setC hi vs (o + 1) _).trans (Below.heap_setCell w ⟨T, o, none⟩ _ i hi)
theorem size_setC (T : Nat) : ∀ (vs : List Value) (o : Nat) (w : World), (w.setCells T o vs).heap.size = w.heap.size
  | [], _, _ => rfl
  | _ :: vs, o, _ => (size_setC T vs (o + 1) _).trans (World.size_setCell _ _ _)
theorem BB.bel {B T D : Nat} {w w' : World} (h : BB B T w w') (hD : D ≤ B) (hT : D ≤ T) : Below D w w' :=
  ⟨h.os, h.tape, h.output, h.size, fun k hk => h.block k (by omega) (by omega)⟩
theorem own_heap {w w' : World} {base g n c size : Nat} {e : TypeId} {xs : List Value} (h : w.ownsRow base e size (.slice (some ⟨g, 0, none⟩) n c) n xs) (hg : w'.heap[g]? = w.heap[g]?) : w'.ownsRow base e size (.slice (some ⟨g, 0, none⟩) n c) n xs :=
  ⟨h.1, h.2.imp id fun ⟨g', cap, cur, e1, e2, e3, e4⟩ => ⟨g', cap, cur, e1, e2, by cases e1; exact hg.trans e3, e4⟩⟩
/-- a place and a node -/
abbrev Nd (N : Nat) := { p : Nat × Nat // p.2 < N }
def ndE {N : Nat} (x : Nd N) : Array Value := #[.int .i64 (x.1.1 : Int), .int .i64 (x.1.2 : Int)]
theorem getD_lt {N : Nat} {O : List Nat} (hN : 0 < N) (h : ∀ x ∈ O, x < N) (i : Nat) : O.getD i 0 < N := by
  rw [List.getD_eq_getElem?_getD]
  cases hi : O[i]? with
  | none => exact hN
  | some x => exact h x (List.mem_of_getElem? hi)
/-- the nodes from behind, with their places -/
def ndF {N : Nat} {O : List Nat} (hN : 0 < N) (h : ∀ x ∈ O, x < N) (k : Nat) : Nd N := ⟨(O.length - 1 - k, O.getD (O.length - 1 - k) 0), getD_lt hN h _⟩
theorem ndF_enc {N : Nat} {O : List Nat} (hN : 0 < N) (h : ∀ x ∈ O, x < N) : ∀ m, m < (castN O).length → ndE (ndF hN h ((castN O).length - (m + 1))) = #[.int .i64 (m : Int), .int .i64 ((castN O).getD m 0)] := fun m hm => by
  rw [castN_len] at hm ⊢
  have e1 : O.length - 1 - (O.length - (m + 1)) = m := by omega
  unfold ndE ndF
  simp only [e1]
  have e2 : (castN O).getD m 0 = ((O.getD m 0 : Nat) : Int) := by
    rw [List.getD_eq_getElem?_getD, List.getD_eq_getElem?_getD]
    unfold castN
    rw [List.getElem?_map, List.getElem?_eq_getElem hm]
    rfl
  rw [e2]
/-- between two rounds of the second pass -/
structure It (next : Nat → List Nat) (N : Nat) (O : List Nat) (F : Nat → Nd N) (w w8 : World) (Q Gp : Nat) (pre : List (Nd N)) (W : World) (sl : List Bool) (gs : List Int) : Prop where
  sll : sl.length = N
  gl : gs.length = N
  qs : pre = upF F pre.length → pre.length ≤ O.length → Qs next N O (O.length - pre.length) sl gs
  seen : W.ownsRow 0 4 1 (.slice (some ⟨Q, 0, none⟩) N N) N (bool1 sl)
  grp : W.ownsRow w.heap.size 3 1 (.slice (some ⟨Gp, 0, none⟩) N N) N (int1 gs)
  bg : BG2 w8.heap.size (fun b => cond b Q Gp) w8 W
theorem It.own (next : Nat → List Nat) (N : Nat) (O : List Nat) (F : Nat → Nd N) (w w8 : World) (Q Gp : Nat) : OwnFrom w8.heap.size (fun pre W => ∃ sl gs, It next N O F w w8 Q Gp pre W sl gs) := fun pre W W' row ⟨sl, gs, h⟩ hg hr => by
  have hno : ∀ {base g n c size : Nat} {e : TypeId} {xs : List Value}, W.ownsRow base e size (.slice (some ⟨g, 0, none⟩) n c) n xs → ∀ q, row = some q → (Value.slice (some ⟨g, 0, none⟩) n c).ownBlock ≠ some q := fun {_ g _ _ _ _ _} ho q hq he => by
    obtain ⟨cs, fr, hc⟩ := row_ty ho
    obtain ⟨_, o, ho2, hn⟩ := hr q hq
    have e1 : g = q := by simpa [Value.ownBlock] using he
    subst e1
    rw [hc] at ho2
    cases ho2
    cases hn
  exact ⟨sl, gs, h.sll, h.gl, h.qs, own_grown h.seen hg (hno h.seen), own_grown h.grp hg (hno h.grp), h.bg.grown hg h.bg.size fun q hq => (hr q hq).1⟩
theorem It.bb {next : Nat → List Nat} {N : Nat} {O : List Nat} {F : Nat → Nd N} {w w8 W : World} {Q Gp B : Nat} {pre : List (Nd N)} {sl : List Bool} {gs : List Int} (h : It next N O F w w8 Q Gp pre W sl gs) (hB : B ≤ w8.heap.size) (hG : B ≤ Gp) : BB B Q w8 W :=
  ⟨h.bg.os, h.bg.tape, h.bg.output, h.bg.size, fun k hk hn => h.bg.block k (by omega) (fun b => by cases b; (show k ≠ Gp; omega); (show k ≠ Q; exact hn))⟩
theorem RR.more {w : World} {B B' Q G N : Nat} {next : Nat → List Nat} (h : RR w B Q G N next) (hB : B ≤ B') : RR w B' Q G N next :=
  ⟨fun v hv => by
    obtain ⟨A, m, c, h1, h2, h3, h4⟩ := h.row v hv
    exact ⟨A, m, c, h1, h2.more hB, h3, h4⟩, h.lt, ⟨Nat.lt_of_lt_of_le h.g.1 hB, h.g.2⟩⟩
/-- one round: a walk back, and the numbers of the group written -/
theorem It.next {next back : Nat → List Nat} (hb : ∀ a b, b ∈ next a ↔ a ∈ back b) {N : Nat} {O : List Nat} (hN : 0 < N) (hlt : ∀ x ∈ O, x < N) {w w8 W W5 W6 : World} {Q Gp : Nat} {pre : List (Nd N)} {x : Nd N} {sl sl' : List Bool} {gs : List Int} {M : List Nat}
    (h : It next N O (ndF hN hlt) w w8 Q Gp pre W sl gs) (hO : Ks next O) (hall : ∀ x, x < N → x ∈ O) (hbl : ∀ x, ∀ y ∈ back x, y < N) (hne : Q ≠ Gp)
    (hl : sl'.length = N) (hM : ∀ x ∈ M, x < N) (hw : Wn back x.1.2 (sset sl) (sset sl') [] M) (hs5 : W5.ownsRow 0 4 1 (.slice (some ⟨Q, 0, none⟩) N N) N (bool1 sl')) (hb5 : BB W.heap.size Q W W5) (hg6 : W6.ownsRow w.heap.size 3 1 (.slice (some ⟨Gp, 0, none⟩) N N) N (int1 (setAll gs M (x.1.2 : Int)))) (hb6 : BB W5.heap.size Gp W5 W6) :
    It next N O (ndF hN hlt) w w8 Q Gp (pre ++ [x]) W6 sl' (setAll gs M (x.1.2 : Int)) where
  sll := hl
  gl := by rw [setAll_len]; exact h.gl
  qs := fun he hle => by
    rw [List.length_append, List.length_singleton] at he hle ⊢
    rw [upF_snoc] at he
    obtain ⟨e1, e2⟩ := List.append_inj' he rfl
    have e2 : x = ndF hN hlt pre.length := by simpa using e2
    have hq := h.qs e1 (by omega)
    rw [show O.length - pre.length = O.length - (pre.length + 1) + 1 by omega] at hq
    refine Qs.step hb hO hall hbl hq ?_ hl hM hw
    rw [e2]
    show _ = some (O.getD (O.length - 1 - pre.length) 0)
    rw [List.getD_eq_getElem?_getD, show O.length - 1 - pre.length = O.length - (pre.length + 1) by omega, List.getElem?_eq_getElem (show O.length - (pre.length + 1) < O.length by omega)]
    rfl
  seen := own_heap hs5 (hb6.block Q (by have := (own_lt hs5).2; omega) hne)
  grp := hg6
  bg := ⟨hb6.os.trans (hb5.os.trans h.bg.os), hb6.tape.trans (hb5.tape.trans h.bg.tape), hb6.output.trans (hb5.output.trans h.bg.output), Nat.le_trans h.bg.size (Nat.le_trans hb5.size hb6.size), fun k hk hn => by
    have hq : k ≠ Q := hn true
    have hg : k ≠ Gp := hn false
    have h1 := h.bg.size
    have h2 := hb5.size
    exact (hb6.block k (by omega) hg).trans ((hb5.block k (by omega) hq).trans (h.bg.block k hk hn))⟩
/-- a return alone, behind a loop over an iterator; what a panic's scratch holds does not matter: there is none -/
def PostM0 (fn : Func) (R : Ending → World → Prop) : Exit → Act → World → Prop
  | .normal, a, w | .ret, a, w => LeavesInM Fence.wide 6 Try.prog fn a.tmps R a.defers .returning w
  | _, _, _ => False
theorem PostM0.le (fn : Func) (R : Ending → World → Prop) : ∀ e a w, PostM0 fn R e a w → bodyPostM Fence.wide 6 Try.prog fn R e a w := fun e a w h => by
  cases e <;> first | exact h | exact h.elim

attribute [local go_sem] Oper.semAt_some

set_option linter.unusedSimpArgs false in
set_option maxRecDepth 100000 in
set_option maxHeartbeats 8000000 in
theorem groups_any (S OF OU ON N K V c : Nat) (fo out : Nat → List Edg) (on : Nat → Bool) (xs : List Int) (w : World) (hse : SE w S OF OU ON N K fo out on) (hvs : VS w S ON N V c xs) (hG : GE N K fo out) (hx : ∀ v, 0 ≤ gx xs v ∧ gx xs v ≤ 2000000) (hN : N ≤ 2000) (hD : (dnE out N).length ≤ 100000) (hN0 : 0 < N) :
    Calls Try.prog 25 #[.pointer (some ⟨S, 0, none⟩)] w (GrpPost N (tnb xs (dnE out N) true) w) := by
  obtain ⟨s0, hs, hs0, hs1, hs2⟩ := info_parts infoS
  obtain ⟨i0, hi, hz0, hz1, hz2⟩ := info_parts infoI
  obtain ⟨oA, hoA⟩ : ∃ oA, oA = Obj.cells (madeCells (Value.slice none 0 0).cells (N * 1)) 42 := ⟨_, rfl⟩
  have hmk : ∀ W : World, (Instr.makeSlice 25 (.int .i64 N) (.int .i64 N)).run Try.prog W = .ok (.slice (some ⟨W.heap.size, 0, none⟩) N N) (W.alloc oA) := fun W => by
    have h := run_make (P := Try.prog) W 25 42 s0 (.slice none 0 0) Try.underlying25 hs hs0 .i64 .i64 N N (by omega) (Int.le_refl _) (by rw [hs2]; omega) (by omega)
    rw [hs1] at h
    rw [hoA]
    exact h
  have HoA : Hid (Obj.cells (madeCells #[.slice none 0 0] N) 42 = oA) := by rw [Hid, hoA]; simp [Value.cells]
  clear hoA
  have Hse := Lib.hid hse
  have Hvs := Lib.hid hvs
  have v3 := hvs.s3
  clear hse hvs
  let Qt : Exit → Act → World → Prop := bodyPost Try.prog Try.f25 (fun _ _ => True)
  refine (callsIn_wide (n := 6)).1 ?_
  refine callsIn_of_wp_marks Try.func25 rfl trivial ?_ rfl
  refine wpIn_mono (Q := PostM0 Try.f25 _) ?_ (PostM0.le _ _)
  refine wpIn_wide.2 ?_
  simp only [Try.ntmps25, List.size_toArray, List.length_cons, List.length_nil, Nat.reduceAdd, Nat.reduceSub, Array.replicate_succ, Array.replicate_zero, List.push_toArray, List.append_toArray, List.nil_append, List.cons_append]
  go_wp2_with fail
  go_cut [4, 5] (fun x y wx => Tbl w oA N x y wx)
  case first =>
    go_region_held3 (fun _ => True) (trivial) (fail)
    all_goals (go_wp2_with fail; go_meet)
    · exact Tbl.of w oA N _ _ _ (w.heap.size + 1) (heap_threeD w _ _ _).1 (heap_threeD w _ _ _).2.1 (cell0 (heap_threeD w _ _ _).2.2) (by omega) (by omega) (by omega) (by omega) (by omega) (by omega)
    · exact Tbl.of w oA N _ _ _ (w.heap.size + 1 + 1) (heap_threeD w _ _ _).1 (heap_threeD w _ _ _).2.2 (cell0 (heap_threeD w _ _ _).2.1) (by omega) (by omega) (by omega) (by omega) (by omega) (by omega)
    · exact Tbl.of w oA N _ _ _ w.heap.size (heap_threeD w _ _ _).2.1 (heap_threeD w _ _ _).1 (cell0 (heap_threeD w _ _ _).2.2) (by omega) (by omega) (by omega) (by omega) (by omega) (by omega)
    · exact Tbl.of w oA N _ _ _ w.heap.size (heap_threeD w _ _ _).2.2 (heap_threeD w _ _ _).1 (cell0 (heap_threeD w _ _ _).2.1) (by omega) (by omega) (by omega) (by omega) (by omega) (by omega)
    · exact Tbl.of w oA N _ _ _ (w.heap.size + 1 + 1) (heap_threeD w _ _ _).2.1 (heap_threeD w _ _ _).2.2 (cell0 (heap_threeD w _ _ _).1) (by omega) (by omega) (by omega) (by omega) (by omega) (by omega)
    · exact Tbl.of w oA N _ _ _ (w.heap.size + 1) (heap_threeD w _ _ _).2.2 (heap_threeD w _ _ _).2.1 (cell0 (heap_threeD w _ _ _).1) (by omega) (by omega) (by omega) (by omega) (by omega) (by omega)
  case rest =>
    obtain ⟨GA, GB, X, rfl, rfl, n1, n2, n3, l1, l2, l3, hA, hB, hX, hb0⟩ := hcut
    rw [← HoA.out] at hA hB
    have hRW := RW.made hA hB n1 hN
    clear hmk HoA hA hB
    have hsw := Hse.out.lt
    have u1 := (hb0.cell (p := ⟨S, 1, none⟩) hsw.1).trans Hse.out.s1
    have u3 := (hb0.cell (p := ⟨S, 3, none⟩) hsw.1).trans v3
    generalize hGG : (fun b => cond b GA GB) = G at *
    have hGA : G true = GA := by rw [← hGG]; rfl
    have hGB : G false = GB := by rw [← hGG]; rfl
    subst hGA hGB
    have HG2 : Hid (∀ b, w.heap.size ≤ G b) := fun b => by
      cases b
      · exact l2
      · exact l1
    clear hGG
    have hszc := hb0.size
    have hXc : X < wc.heap.size := by
      refine Nat.lt_of_not_le fun h => ?_
      have : wc.heap[X]? = none := Array.getElem?_eq_none h
      simp [World.cell?, this] at hX
    have HXc := Lib.hid hX
    have Hb0 := Lib.hid hb0
    have HD := Lib.hid hD
    have HOut : Hid (∀ v, v < N → ∃ A m cc, wc.cell? ⟨OU, v, none⟩ = some (.slice A m cc) ∧ EL wc w.heap.size A m (out v)) := fun v hv => by
      obtain ⟨A, m, cc, h1, h2, _⟩ := Hse.out.o v hv
      exact ⟨A, m, cc, (hb0.cell (p := ⟨OU, v, none⟩) hsw.2.2.1).trans h1, h2.below hb0⟩
    have HV3 := Lib.hid (own_below Hvs.out.own hb0)
    have hVlt := (own_lt Hvs.out.own).2
    clear hX hb0 hD
    obtain ⟨wo, hwo⟩ : ∃ wo, wo = wc := ⟨_, rfl⟩
    subst hwo
    have hD0 : dnE out 0 = [] := rfl
    have hT0 : (fun _ _ => [] : Bool → Nat → List Nat) = tnb xs [] := by funext b x; cases b <;> rfl
    rw [hT0] at hRW
    go_wp2_with fail
    go_loopw [32] (fun i wr => ∃ v : Nat, v ≤ N ∧ i = .int .i64 v ∧ ∃ val, RW wr wo.heap.size G N val (tnb xs (dnE out v)) ∧ BG2 wo.heap.size G wo wr) (fun i _ => N - (intOf i).toNat)
    case atStart => exact ⟨0, Nat.zero_le _, rfl, _, hRW, BG2.refl _⟩
    case round =>
      clear hRW hT0 hD0
      obtain ⟨v, hv, rfl, val, hRW, hbg⟩ := hrel
      by_cases hvN : v < N
      · obtain ⟨A, m, cc, a1, a2⟩ := HOut.out v hvN
        have hml : (out v).length = m := a2.1
        have hm : m ≤ 100000 := by
          have h1 := dnE_le out (v + 1) N (by omega)
          rw [dnE_succ, List.length_append] at h1
          have := HD.out
          omega
        have a1' := (hbg.cell (p := ⟨OU, v, none⟩) (show OU < wo.heap.size by omega) (fun b => show OU ≠ G b by have := HG2.out b; omega)).trans a1
        have hvi : (v : Int) < (N : Int) := by omega
        obtain ⟨wv, hwv⟩ : ∃ wv, wv = wr := ⟨_, rfl⟩
        subst hwv
        have hsv := hbg.size
        go_wp2_with fail
        go_loopw [38] (fun i wr => ∃ j : Nat, j ≤ m ∧ i = .int .i64 j ∧ ∃ val, RW wr wo.heap.size G N val (tnb xs (dnE out v ++ (out v).take j)) ∧ BG2 wo.heap.size G wo wr) (fun i _ => m - (intOf i).toNat)
        case atStart => exact ⟨0, Nat.zero_le _, rfl, val, by simpa using hRW, hbg⟩
        case round =>
          clear hRW hbg a1'
          obtain ⟨j, hj, rfl, val, hRW, hbg⟩ := hrel
          by_cases hjm : j < m
          · obtain ⟨b, off, e, rfl, hbl, he, h0, h1, h2, h3⟩ := a2.at_ hjm
            obtain ⟨efv, et, _, eb0, eb1⟩ := hG.ok.ok v e (List.mem_of_getElem? he)
            have ef : e.f < N := by omega
            have hbc : ∀ (q i : Nat), q < w.heap.size → wr.cell? ⟨q, i, none⟩ = wo.cell? ⟨q, i, none⟩ := fun q i hq => hbg.cell (show q < wo.heap.size by omega) (fun c => show q ≠ G c by have := HG2.out c; omega)
            have k0 := (hbc b (off + j * 4) hbl).trans h0
            have k1 := (hbc b (off + j * 4 + 1) hbl).trans h1
            have k2 := (hbc b (off + j * 4 + 2) hbl).trans h2
            have k3 := (hbc b (off + j * 4 + 3) hbl).trans h3
            have s3 := (hbc S 3 hsw.1).trans u3
            have hxl := Hvs.out.len
            have vf := (hbc V e.f hVlt).trans (own_cell HV3.out (gx_some (xs := xs) (v := e.f) (by omega))).1
            have vt := (hbc V e.t hVlt).trans (own_cell HV3.out (gx_some (xs := xs) (v := e.t) (by omega))).1
            obtain ⟨x0, x1⟩ := hx e.f
            have Hst : Hid (dnE out v ++ (out v).take (j + 1) = (dnE out v ++ (out v).take j) ++ [e]) := by rw [Hid, take_snoc he, List.append_assoc]
            have hql : (dnE out v ++ (out v).take j).length ≤ 100000 := by
              have h1 := dnE_le out (v + 1) N (by omega)
              rw [dnE_succ, List.length_append] at h1
              have := HD.out
              rw [List.length_append, List.length_take]
              omega
            generalize dnE out v ++ (out v).take j = D at hRW Hst hql
            have Htg : Hid (tg xs e = decide (gx xs e.f + e.b = gx xs e.t)) := rfl
            have efi : (e.f : Int) < (N : Int) := by omega
            have eti : (e.t : Int) < (N : Int) := by omega
            have hsz := hbg.size
            generalize gx xs e.f = gf at *
            generalize gx xs e.t = gt at *
            clear hbc he h0 h1 h2 h3
            have hbA : Below wr.heap.size wr (wr.alloc (.cells #[.int .i64 e.f, .int .i64 e.t, .int .i64 e.b, .int .i64 e.k] 93)) := (Below.refl _ wr).alloc (Nat.le_refl _) _
            have hSr : S < wr.heap.size := by omega
            have hVr : V < wr.heap.size := by omega
            have S3 := (hbA.cell (p := ⟨S, 3, none⟩) hSr).trans s3
            have VF := (hbA.cell (p := ⟨V, e.f, none⟩) hVr).trans vf
            have VT := (hbA.cell (p := ⟨V, e.t, none⟩) hVr).trans vt
            have hRW1 := hRW.below hbA
            have hbg1 := hbg.then hbA hsz
            have hEB : (wr.alloc (.cells #[.int .i64 e.f, .int .i64 e.t, .int .i64 e.b, .int .i64 e.k] 93)).heap[wr.heap.size]? = some (.cells #[.int .i64 e.f, .int .i64 e.t, .int .i64 e.b, .int .i64 e.k] 93) := heap_new _ _
            rw [← efv] at *
            go_wp2_with fail
            generalize wr.alloc (.cells #[.int .i64 e.f, .int .i64 e.t, .int .i64 e.b, .int .i64 e.k] 93) = W1 at S3 VF VT hRW1 hbg1 hEB ⊢
            clear hbA hRW hbg k0 k1 k2 k3 s3 vf vt
            generalize wr.heap.size = EB at *
            have E0 : W1.cell? ⟨EB, 0, none⟩ = some (.int .i64 e.f) := by simp [World.cell?, hEB]
            have E1 : W1.cell? ⟨EB, 1, none⟩ = some (.int .i64 e.t) := by simp [World.cell?, hEB]
            have E2 : W1.cell? ⟨EB, 2, none⟩ = some (.int .i64 e.b) := by simp [World.cell?, hEB]
            have hEBl : EB < W1.heap.size := (Array.getElem?_eq_some_iff.1 hEB).1
            by_cases ht : gf + e.b = gt
            · have Hyes := Lib.hid (tnb_yes (V := xs) (D := D) (e := e) (by rw [Htg.out]; exact decide_eq_true ht))
              have hlA := tnb_len xs D true e.f
              have hlB := tnb_len xs D false e.t
              go_quiet (fail)
              have hbd : Below W1.heap.size W1 (W1.drewN nq) := below_drewN (Below.refl _ _) _
              have hRW2 := hRW1.below hbd
              have hbg2 := hbg1.then hbd (by have := hbg1.size; omega)
              have F0 := (hbd.cell (p := ⟨EB, 0, none⟩) hEBl).trans E0
              have F1 := (hbd.cell (p := ⟨EB, 1, none⟩) hEBl).trans E1
              have hEB2 : EB < (W1.drewN nq).heap.size := Nat.lt_of_lt_of_le hEBl hbd.size
              have hEB1 : (W1.drewN nq).heap[EB]? = some (.cells #[.int .i64 e.f, .int .i64 e.t, .int .i64 e.b, .int .i64 e.k] 93) := (hbd.block EB hEBl).trans hEB
              have hB2 : wo.heap.size ≤ (W1.drewN nq).heap.size := by have := hbg2.size; exact this
              generalize W1.drewN nq = W2 at hRW2 hbg2 F0 F1 hEB2 hB2 hEB1 ⊢
              clear hbd S3 VF VT hRW1 hbg1 hEB E0 E1 E2 hEBl
              generalize tnb xs D = ls at hRW2 Hyes hlA hlB
              obtain ⟨t1, t2⟩ := hRW2.cell true ef
              have hown := hRW2.own true e.f ef
              have hne1 : EB ≠ G true := fun h => own_ne (hRW2.row true) ⟨_, _, hEB1⟩ (by decide) (by rw [h]; rfl)
              have hne3 := own_ne hown ⟨_, _, hEB1⟩ (by decide)
              obtain ⟨_, hGl⟩ := hRW2.lt true
              go_upto_region 10 with fail
              go_cut [73] (fun _ wx => ∃ val', RW wx wo.heap.size G N val' (fun c x => if c = true ∧ x = e.f then ls true e.f ++ [e.t] else ls c x) ∧ BG2 wo.heap.size G wo wx ∧ wx.heap[EB]? = some (.cells #[.int .i64 e.f, .int .i64 e.t, .int .i64 e.b, .int .i64 e.k] 93))
              case first =>
                have HK : Hid (∀ W, Below W2.heap.size W2 W → W.cell? ⟨EB, 0, none⟩ = some (.int .i64 e.f) ∧ W.cell? ⟨EB, 1, none⟩ = some (.int .i64 e.t)) := fun W hW => ⟨(hW.cell (p := ⟨EB, 0, none⟩) hEB2).trans F0, (hW.cell (p := ⟨EB, 1, none⟩) hEB2).trans F1⟩
                have hzr : Below W2.heap.size W2 W2 := Below.refl _ _
                have hal : Below W2.heap.size W2 (W2.alloc (.cells #[.int .i64 e.t] 3)) := hzr.alloc (Nat.le_refl _) _
                have hsal : (W2.alloc (.cells #[.int .i64 e.t] 3)).heap.size = W2.heap.size + 1 := by simp
                refine wp_region_held_drew (S := fun w' => w'.cell? ⟨EB, 0, none⟩ = some (.int .i64 e.f) ∧ w'.cell? ⟨EB, 1, none⟩ = some (.int .i64 e.t)) (by kernel_rfl) (HK.out _ hzr.drew) (fun hHeld => ?_)
                refine wpAnyH_take (i := 0) (v := ?_) rfl (by kernel_rfl) (by kernel_rfl) (by kernel_rfl) (fun _ _ _ h => h) (Or.inl ⟨by rfl, ?_⟩) (by assumption) ?_
                rotate_left
                · (intro w hSw; (try dsimp only at hSw); go_simp; try with_reducible rfl)
                try simp only [Act.put, List.setIfInBounds_toArray, List.set_cons_zero, List.set_cons_succ]
                refine wpAnyH_take (i := 1) (v := ?_) rfl (by kernel_rfl) (by kernel_rfl) (by kernel_rfl) (fun _ _ _ h => h) (Or.inl ⟨by rfl, ?_⟩) (by assumption) ?_
                rotate_left
                · (intro w hSw; (try dsimp only at hSw); go_simp; try with_reducible rfl)
                try simp only [Act.put, List.setIfInBounds_toArray, List.set_cons_zero, List.set_cons_succ]
                refine wpAnyH_take (i := 2) (v := ?_) rfl (by kernel_rfl) (by kernel_rfl) (by kernel_rfl) (fun _ _ _ h => h) (Or.inl ⟨by rfl, ?_⟩) (by assumption) ?_
                rotate_left
                · (intro w hSw; (try dsimp only at hSw); go_simp; try with_reducible rfl)
                try simp only [Act.put, List.setIfInBounds_toArray, List.set_cons_zero, List.set_cons_succ]
                refine wpAnyH_take (i := 3) (v := ?_) rfl (by kernel_rfl) (by kernel_rfl) (by kernel_rfl) (fun _ _ _ h => h) (Or.inl ⟨by rfl, ?_⟩) (by assumption) ?_
                rotate_left
                · (intro w hSw; (try dsimp only at hSw); go_simp; try with_reducible rfl)
                try simp only [Act.put, List.setIfInBounds_toArray, List.set_cons_zero, List.set_cons_succ]
                refine wpAnyH_take (i := 4) (v := ?_) rfl (by kernel_rfl) (by kernel_rfl) (by kernel_rfl) (fun _ _ _ h => h) (Or.inl ⟨by rfl, ?_⟩) (by assumption) ?_
                rotate_left
                · (intro w hSw; (try dsimp only at hSw); go_simp; try with_reducible rfl)
                try simp only [Act.put, List.setIfInBounds_toArray, List.set_cons_zero, List.set_cons_succ]
                refine wpAnyH_take (i := 5) (v := ?_) rfl (by kernel_rfl) (by kernel_rfl) (by kernel_rfl) (fun _ _ _ h => h) (Or.inl ⟨by rfl, ?_⟩) (by assumption) ?_
                rotate_left
                · (intro w hSw; (try dsimp only at hSw); go_simp; try with_reducible rfl)
                try simp only [Act.put, List.setIfInBounds_toArray, List.set_cons_zero, List.set_cons_succ]
                refine wpAnyH_take (i := 6) (v := ?_) rfl (by kernel_rfl) (by kernel_rfl) (by kernel_rfl) (fun _ _ _ h => h) (Or.inl ⟨by rfl, ?_⟩) (by assumption) ?_
                rotate_left
                · (intro w hSw; (try dsimp only at hSw); go_simp; try with_reducible rfl)
                try simp only [Act.put, List.setIfInBounds_toArray, List.set_cons_zero, List.set_cons_succ]
                refine wpAnyH_take (i := 8) (v := ?_) rfl (by kernel_rfl) (by kernel_rfl) (by kernel_rfl) (fun _ _ _ h => h) (Or.inl ⟨by rfl, ?_⟩) (by assumption) ?_
                rotate_left
                · (intro w hSw; (try dsimp only at hSw); go_simp; try with_reducible rfl)
                try simp only [Act.put, List.setIfInBounds_toArray, List.set_cons_zero, List.set_cons_succ]
                refine wpAnyH_take (i := 9) (v := ?_) rfl (by kernel_rfl) (by kernel_rfl) (by kernel_rfl) (fun _ _ _ h => h) (Or.inl ⟨by rfl, ?_⟩) (by assumption) ?_
                rotate_left
                · (intro w hSw; (try dsimp only at hSw); go_simp; try with_reducible rfl)
                try simp only [Act.put, List.setIfInBounds_toArray, List.set_cons_zero, List.set_cons_succ]
                refine wpAnyH_ready (rs := [7, 10]) (by kernel_rfl) (by simp) (AllReadyH.cons rfl (fun K hK => ?_) (AllReadyH.cons rfl (fun K hK => ?_) AllReadyH.nil))
                · go_simp
                  refine hK.out _ _ (HK.out _ hzr.drew) (fun hHeld => ?_)
                  clear hK K
                  try simp only [Act.put, List.setIfInBounds_toArray, List.set_cons_zero, List.set_cons_succ]
                  refine wpAnyH_ready (rs := [10]) (by kernel_rfl) (by simp) (AllReadyH.cons rfl (fun K hK => ?_) AllReadyH.nil)
                  go_simp
                  refine hK.out _ _ (HK.out _ hal.drew) (fun hHeld => ?_)
                  clear hK K
                  try simp only [Act.put, List.setIfInBounds_toArray, List.set_cons_zero, List.set_cons_succ]
                  refine wpAnyH_ready (rs := [11]) (by kernel_rfl) (by simp) (AllReadyH.cons rfl (fun K hK => ?_) AllReadyH.nil)
                  refine step_append_lies _ rfl (.tmp 69) (.tmp 72) 42 rfl wo.heap.size 3 i0 (.int .i64 0) 1 8 Try.underlying42 hi hz0 hz1 hz2 rfl (by decide) (val true e.f) (ls true e.f).length (int1 (castN (ls true e.f))) rfl (own_below hown hal.drew) ⟨W2.heap.size, 0, none⟩ 1 1 [.int .i64 e.t] rfl rfl (World.news_of_block (heap_new W2 _)) newI_one (by decide) (by unfold maxLen; omega) (by omega) (by simp; omega) (W2.heap.size + 1) (by simp) ?_
                  intro g cap w5 hown5 hgrow hlies hg5
                  have y1 := (hgrow.cell_far ⟨EB, 0, none⟩ (by simp; omega) (fun h9 => hne3 h9.symm)).trans ((hal.drew.cell (p := ⟨EB, 0, none⟩) hEB2).trans F0)
                  have y2 := (hgrow.cell_far ⟨EB, 1, none⟩ (by simp; omega) (fun h9 => hne3 h9.symm)).trans ((hal.drew.cell (p := ⟨EB, 1, none⟩) hEB2).trans F1)
                  obtain ⟨y3, y4⟩ := (hRW2.below hal.drew).far ef hgrow true ef
                  refine hK.out _ _ (⟨y1, y2⟩) (fun hHeld => ?_)
                  clear hK K
                  try simp only [Act.put, List.setIfInBounds_toArray, List.set_cons_zero, List.set_cons_succ]
                  refine wpAnyH_ready (rs := [12]) (by kernel_rfl) (by simp) (AllReadyH.cons rfl (fun K hK => ?_) AllReadyH.nil)
                  go_simp
                  refine hK.out _ _ (⟨y1, y2⟩) (fun hHeld => ?_)
                  clear hK K
                  try simp only [Act.put, List.setIfInBounds_toArray, List.set_cons_zero, List.set_cons_succ]
                  refine wpAnyH_ready (rs := [13]) (by kernel_rfl) (by simp) (AllReadyH.cons rfl (fun K hK => ?_) AllReadyH.nil)
                  go_simp
                  refine hK.out _ _ (⟨keep_set hne1 y1, keep_set hne1 y2⟩) (fun hHeld => ?_)
                  clear hK K
                  try simp only [Act.put, List.setIfInBounds_toArray, List.set_cons_zero, List.set_cons_succ]
                  refine wpAnyH_done (by kernel_rfl) ?_ _
                  clear y1 y2 y3 y4
                  have hst := RW.step hRW2 hbg2 hB2 hEB1 hal.drew hsal ef hgrow hown5 hlies
                  go_wp2_with fail
                  go_meet
                  exact hst
                · go_simp
                  refine hK.out _ _ (HK.out _ hal.drew) (fun hHeld => ?_)
                  clear hK K
                  try simp only [Act.put, List.setIfInBounds_toArray, List.set_cons_zero, List.set_cons_succ]
                  refine wpAnyH_ready (rs := [7]) (by kernel_rfl) (by simp) (AllReadyH.cons rfl (fun K hK => ?_) AllReadyH.nil)
                  go_simp
                  refine hK.out _ _ (HK.out _ hal.drew) (fun hHeld => ?_)
                  clear hK K
                  try simp only [Act.put, List.setIfInBounds_toArray, List.set_cons_zero, List.set_cons_succ]
                  refine wpAnyH_ready (rs := [11]) (by kernel_rfl) (by simp) (AllReadyH.cons rfl (fun K hK => ?_) AllReadyH.nil)
                  refine step_append_lies _ rfl (.tmp 69) (.tmp 72) 42 rfl wo.heap.size 3 i0 (.int .i64 0) 1 8 Try.underlying42 hi hz0 hz1 hz2 rfl (by decide) (val true e.f) (ls true e.f).length (int1 (castN (ls true e.f))) rfl (own_below hown hal.drew) ⟨W2.heap.size, 0, none⟩ 1 1 [.int .i64 e.t] rfl rfl (World.news_of_block (heap_new W2 _)) newI_one (by decide) (by unfold maxLen; omega) (by omega) (by simp; omega) (W2.heap.size + 1) (by simp) ?_
                  intro g cap w5 hown5 hgrow hlies hg5
                  have y1 := (hgrow.cell_far ⟨EB, 0, none⟩ (by simp; omega) (fun h9 => hne3 h9.symm)).trans ((hal.drew.cell (p := ⟨EB, 0, none⟩) hEB2).trans F0)
                  have y2 := (hgrow.cell_far ⟨EB, 1, none⟩ (by simp; omega) (fun h9 => hne3 h9.symm)).trans ((hal.drew.cell (p := ⟨EB, 1, none⟩) hEB2).trans F1)
                  obtain ⟨y3, y4⟩ := (hRW2.below hal.drew).far ef hgrow true ef
                  refine hK.out _ _ (⟨y1, y2⟩) (fun hHeld => ?_)
                  clear hK K
                  try simp only [Act.put, List.setIfInBounds_toArray, List.set_cons_zero, List.set_cons_succ]
                  refine wpAnyH_ready (rs := [12]) (by kernel_rfl) (by simp) (AllReadyH.cons rfl (fun K hK => ?_) AllReadyH.nil)
                  go_simp
                  refine hK.out _ _ (⟨y1, y2⟩) (fun hHeld => ?_)
                  clear hK K
                  try simp only [Act.put, List.setIfInBounds_toArray, List.set_cons_zero, List.set_cons_succ]
                  refine wpAnyH_ready (rs := [13]) (by kernel_rfl) (by simp) (AllReadyH.cons rfl (fun K hK => ?_) AllReadyH.nil)
                  go_simp
                  refine hK.out _ _ (⟨keep_set hne1 y1, keep_set hne1 y2⟩) (fun hHeld => ?_)
                  clear hK K
                  try simp only [Act.put, List.setIfInBounds_toArray, List.set_cons_zero, List.set_cons_succ]
                  refine wpAnyH_done (by kernel_rfl) ?_ _
                  clear y1 y2 y3 y4
                  have hst := RW.step hRW2 hbg2 hB2 hEB1 hal.drew hsal ef hgrow hown5 hlies
                  go_wp2_with fail
                  go_meet
                  exact hst
              case rest =>
                obtain ⟨val', hRW3, hbg3, hEB3⟩ := hcut
                clear hRW2 hbg2 hEB1 F0 F1 hown t1 t2 hne3 hGl hB2 hEB2 hne1
                obtain ⟨ls2, hls2⟩ : ∃ ls2, ls2 = fun (c : Bool) (x : Nat) => if c = true ∧ x = e.f then ls true e.f ++ [e.t] else ls c x := ⟨_, rfl⟩
                rw [← hls2] at hRW3
                have Hyes2 : Hid (tnb xs (D ++ [e]) = fun c x => if c = false ∧ x = e.t then ls2 false e.t ++ [e.f] else ls2 c x) := by rw [Hid, hls2]; exact Hyes.out
                have hlC : (ls2 false e.t).length ≤ D.length := by rw [hls2]; simpa using hlB
                clear hls2 Hyes hlA hlB
                have hB3 : wo.heap.size ≤ wc.heap.size := hbg3.size
                have X2 := (hbg3.cell (p := ⟨X, 0, none⟩) hXc (fun b => by cases b; exact n3; exact n2)).trans HXc.out
                have hX2 : X < wc.heap.size := by omega
                have F0 : wc.cell? ⟨EB, 0, none⟩ = some (.int .i64 e.f) := by simp [World.cell?, hEB3]
                have F1 : wc.cell? ⟨EB, 1, none⟩ = some (.int .i64 e.t) := by simp [World.cell?, hEB3]
                have hEB2 : EB < wc.heap.size := (Array.getElem?_eq_some_iff.1 hEB3).1
                obtain ⟨t1, t2⟩ := hRW3.cell false et
                have hown := hRW3.own false e.t et
                have hne1 : EB ≠ G false := fun h => own_ne (hRW3.row false) ⟨_, _, hEB3⟩ (by decide) (by rw [h]; rfl)
                have hne3 := own_ne hown ⟨_, _, hEB3⟩ (by decide)
                have hneX : (val' false e.t).ownBlock ≠ some X := fun h => by have := (hown.lt X h).1; omega
                obtain ⟨_, hGl⟩ := hRW3.lt false
                have HK : Hid (∀ W, Below wc.heap.size wc W → W.cell? ⟨X, 0, none⟩ = some (.slice (some ⟨G false, 0, none⟩) N N) ∧ W.cell? ⟨EB, 0, none⟩ = some (.int .i64 e.f) ∧ W.cell? ⟨EB, 1, none⟩ = some (.int .i64 e.t)) := fun W hW => ⟨(hW.cell (p := ⟨X, 0, none⟩) hX2).trans X2, (hW.cell (p := ⟨EB, 0, none⟩) hEB2).trans F0, (hW.cell (p := ⟨EB, 1, none⟩) hEB2).trans F1⟩
                have hzr : Below wc.heap.size wc wc := Below.refl _ _
                have hal : Below wc.heap.size wc (wc.alloc (.cells #[.int .i64 e.f] 3)) := hzr.alloc (Nat.le_refl _) _
                have hsal : (wc.alloc (.cells #[.int .i64 e.f] 3)).heap.size = wc.heap.size + 1 := by simp
                have hXG : X ≠ G false := n3
                go_wp2_with fail
                refine wp_region_held_drew (S := fun w' => w'.cell? ⟨X, 0, none⟩ = some (.slice (some ⟨G false, 0, none⟩) N N) ∧ w'.cell? ⟨EB, 0, none⟩ = some (.int .i64 e.f) ∧ w'.cell? ⟨EB, 1, none⟩ = some (.int .i64 e.t)) (by kernel_rfl) (HK.out _ hzr.drew) (fun hHeld => ?_)
                refine wpAnyH_take (i := 0) (v := ?_) rfl (by kernel_rfl) (by kernel_rfl) (by kernel_rfl) (fun _ _ _ h => h) (Or.inl ⟨by rfl, ?_⟩) (by assumption) ?_
                rotate_left
                · (intro w hSw; (try dsimp only at hSw); go_simp; try with_reducible rfl)
                try simp only [Act.put, List.setIfInBounds_toArray, List.set_cons_zero, List.set_cons_succ]
                refine wpAnyH_take (i := 1) (v := ?_) rfl (by kernel_rfl) (by kernel_rfl) (by kernel_rfl) (fun _ _ _ h => h) (Or.inl ⟨by rfl, ?_⟩) (by assumption) ?_
                rotate_left
                · (intro w hSw; (try dsimp only at hSw); go_simp; try with_reducible rfl)
                try simp only [Act.put, List.setIfInBounds_toArray, List.set_cons_zero, List.set_cons_succ]
                refine wpAnyH_take (i := 2) (v := ?_) rfl (by kernel_rfl) (by kernel_rfl) (by kernel_rfl) (fun _ _ _ h => h) (Or.inl ⟨by rfl, ?_⟩) (by assumption) ?_
                rotate_left
                · (intro w hSw; (try dsimp only at hSw); go_simp; try with_reducible rfl)
                try simp only [Act.put, List.setIfInBounds_toArray, List.set_cons_zero, List.set_cons_succ]
                refine wpAnyH_take (i := 3) (v := ?_) rfl (by kernel_rfl) (by kernel_rfl) (by kernel_rfl) (fun _ _ _ h => h) (Or.inl ⟨by rfl, ?_⟩) (by assumption) ?_
                rotate_left
                · (intro w hSw; (try dsimp only at hSw); go_simp; try with_reducible rfl)
                try simp only [Act.put, List.setIfInBounds_toArray, List.set_cons_zero, List.set_cons_succ]
                refine wpAnyH_take (i := 4) (v := ?_) rfl (by kernel_rfl) (by kernel_rfl) (by kernel_rfl) (fun _ _ _ h => h) (Or.inl ⟨by rfl, ?_⟩) (by assumption) ?_
                rotate_left
                · (intro w hSw; (try dsimp only at hSw); go_simp; try with_reducible rfl)
                try simp only [Act.put, List.setIfInBounds_toArray, List.set_cons_zero, List.set_cons_succ]
                refine wpAnyH_take (i := 5) (v := ?_) rfl (by kernel_rfl) (by kernel_rfl) (by kernel_rfl) (fun _ _ _ h => h) (Or.inl ⟨by rfl, ?_⟩) (by assumption) ?_
                rotate_left
                · (intro w hSw; (try dsimp only at hSw); go_simp; try with_reducible rfl)
                try simp only [Act.put, List.setIfInBounds_toArray, List.set_cons_zero, List.set_cons_succ]
                refine wpAnyH_take (i := 6) (v := ?_) rfl (by kernel_rfl) (by kernel_rfl) (by kernel_rfl) (fun _ _ _ h => h) (Or.inl ⟨by rfl, ?_⟩) (by assumption) ?_
                rotate_left
                · (intro w hSw; (try dsimp only at hSw); go_simp; try with_reducible rfl)
                try simp only [Act.put, List.setIfInBounds_toArray, List.set_cons_zero, List.set_cons_succ]
                refine wpAnyH_take (i := 8) (v := ?_) rfl (by kernel_rfl) (by kernel_rfl) (by kernel_rfl) (fun _ _ _ h => h) (Or.inl ⟨by rfl, ?_⟩) (by assumption) ?_
                rotate_left
                · (intro w hSw; (try dsimp only at hSw); go_simp; try with_reducible rfl)
                try simp only [Act.put, List.setIfInBounds_toArray, List.set_cons_zero, List.set_cons_succ]
                refine wpAnyH_take (i := 9) (v := ?_) rfl (by kernel_rfl) (by kernel_rfl) (by kernel_rfl) (fun _ _ _ h => h) (Or.inl ⟨by rfl, ?_⟩) (by assumption) ?_
                rotate_left
                · (intro w hSw; (try dsimp only at hSw); go_simp; try with_reducible rfl)
                try simp only [Act.put, List.setIfInBounds_toArray, List.set_cons_zero, List.set_cons_succ]
                refine wpAnyH_ready (rs := [7, 10]) (by kernel_rfl) (by simp) (AllReadyH.cons rfl (fun K hK => ?_) (AllReadyH.cons rfl (fun K hK => ?_) AllReadyH.nil))
                · go_simp
                  refine hK.out _ _ (HK.out _ hzr.drew) (fun hHeld => ?_)
                  clear hK K
                  try simp only [Act.put, List.setIfInBounds_toArray, List.set_cons_zero, List.set_cons_succ]
                  refine wpAnyH_ready (rs := [10]) (by kernel_rfl) (by simp) (AllReadyH.cons rfl (fun K hK => ?_) AllReadyH.nil)
                  go_simp
                  refine hK.out _ _ (HK.out _ hal.drew) (fun hHeld => ?_)
                  clear hK K
                  try simp only [Act.put, List.setIfInBounds_toArray, List.set_cons_zero, List.set_cons_succ]
                  refine wpAnyH_ready (rs := [11]) (by kernel_rfl) (by simp) (AllReadyH.cons rfl (fun K hK => ?_) AllReadyH.nil)
                  refine step_append_lies _ rfl (.tmp 82) (.tmp 85) 42 rfl wo.heap.size 3 i0 (.int .i64 0) 1 8 Try.underlying42 hi hz0 hz1 hz2 rfl (by decide) (val' false e.t) (ls2 false e.t).length (int1 (castN (ls2 false e.t))) rfl (own_below hown hal.drew) ⟨wc.heap.size, 0, none⟩ 1 1 [.int .i64 e.f] rfl rfl (World.news_of_block (heap_new wc _)) newI_one (by decide) (by unfold maxLen; omega) (by omega) (by simp; omega) (wc.heap.size + 1) (by simp) ?_
                  intro g cap w5 hown5 hgrow hlies hg5
                  have y0 := (hgrow.cell_far ⟨X, 0, none⟩ (by simp; omega) (fun h9 => hneX h9.symm)).trans ((hal.drew.cell (p := ⟨X, 0, none⟩) hX2).trans X2)
                  have y1 := (hgrow.cell_far ⟨EB, 0, none⟩ (by simp; omega) (fun h9 => hne3 h9.symm)).trans ((hal.drew.cell (p := ⟨EB, 0, none⟩) hEB2).trans F0)
                  have y2 := (hgrow.cell_far ⟨EB, 1, none⟩ (by simp; omega) (fun h9 => hne3 h9.symm)).trans ((hal.drew.cell (p := ⟨EB, 1, none⟩) hEB2).trans F1)
                  obtain ⟨y3, y4⟩ := (hRW3.below hal.drew).far et hgrow false et
                  refine hK.out _ _ (⟨y0, y1, y2⟩) (fun hHeld => ?_)
                  clear hK K
                  try simp only [Act.put, List.setIfInBounds_toArray, List.set_cons_zero, List.set_cons_succ]
                  refine wpAnyH_ready (rs := [12]) (by kernel_rfl) (by simp) (AllReadyH.cons rfl (fun K hK => ?_) AllReadyH.nil)
                  go_simp
                  refine hK.out _ _ (⟨y0, y1, y2⟩) (fun hHeld => ?_)
                  clear hK K
                  try simp only [Act.put, List.setIfInBounds_toArray, List.set_cons_zero, List.set_cons_succ]
                  refine wpAnyH_ready (rs := [13]) (by kernel_rfl) (by simp) (AllReadyH.cons rfl (fun K hK => ?_) AllReadyH.nil)
                  go_simp
                  refine hK.out _ _ (⟨keep_set hXG y0, keep_set hne1 y1, keep_set hne1 y2⟩) (fun hHeld => ?_)
                  clear hK K
                  try simp only [Act.put, List.setIfInBounds_toArray, List.set_cons_zero, List.set_cons_succ]
                  refine wpAnyH_done (by kernel_rfl) ?_ _
                  clear y0 y1 y2 y3 y4
                  obtain ⟨val2, r1, r2, _⟩ := RW.step hRW3 hbg3 hB3 hEB3 hal.drew hsal et hgrow hown5 hlies
                  go_wp2_with fail
                  go_roundw
                  case rel => exact ⟨j + 1, by omega, by go_num, val2, by rw [Hst.out, Hyes2.out]; exact r1, r2⟩
                  case measure => simp [intOf]; omega
                · go_simp
                  refine hK.out _ _ (HK.out _ hal.drew) (fun hHeld => ?_)
                  clear hK K
                  try simp only [Act.put, List.setIfInBounds_toArray, List.set_cons_zero, List.set_cons_succ]
                  refine wpAnyH_ready (rs := [7]) (by kernel_rfl) (by simp) (AllReadyH.cons rfl (fun K hK => ?_) AllReadyH.nil)
                  go_simp
                  refine hK.out _ _ (HK.out _ hal.drew) (fun hHeld => ?_)
                  clear hK K
                  try simp only [Act.put, List.setIfInBounds_toArray, List.set_cons_zero, List.set_cons_succ]
                  refine wpAnyH_ready (rs := [11]) (by kernel_rfl) (by simp) (AllReadyH.cons rfl (fun K hK => ?_) AllReadyH.nil)
                  refine step_append_lies _ rfl (.tmp 82) (.tmp 85) 42 rfl wo.heap.size 3 i0 (.int .i64 0) 1 8 Try.underlying42 hi hz0 hz1 hz2 rfl (by decide) (val' false e.t) (ls2 false e.t).length (int1 (castN (ls2 false e.t))) rfl (own_below hown hal.drew) ⟨wc.heap.size, 0, none⟩ 1 1 [.int .i64 e.f] rfl rfl (World.news_of_block (heap_new wc _)) newI_one (by decide) (by unfold maxLen; omega) (by omega) (by simp; omega) (wc.heap.size + 1) (by simp) ?_
                  intro g cap w5 hown5 hgrow hlies hg5
                  have y0 := (hgrow.cell_far ⟨X, 0, none⟩ (by simp; omega) (fun h9 => hneX h9.symm)).trans ((hal.drew.cell (p := ⟨X, 0, none⟩) hX2).trans X2)
                  have y1 := (hgrow.cell_far ⟨EB, 0, none⟩ (by simp; omega) (fun h9 => hne3 h9.symm)).trans ((hal.drew.cell (p := ⟨EB, 0, none⟩) hEB2).trans F0)
                  have y2 := (hgrow.cell_far ⟨EB, 1, none⟩ (by simp; omega) (fun h9 => hne3 h9.symm)).trans ((hal.drew.cell (p := ⟨EB, 1, none⟩) hEB2).trans F1)
                  obtain ⟨y3, y4⟩ := (hRW3.below hal.drew).far et hgrow false et
                  refine hK.out _ _ (⟨y0, y1, y2⟩) (fun hHeld => ?_)
                  clear hK K
                  try simp only [Act.put, List.setIfInBounds_toArray, List.set_cons_zero, List.set_cons_succ]
                  refine wpAnyH_ready (rs := [12]) (by kernel_rfl) (by simp) (AllReadyH.cons rfl (fun K hK => ?_) AllReadyH.nil)
                  go_simp
                  refine hK.out _ _ (⟨y0, y1, y2⟩) (fun hHeld => ?_)
                  clear hK K
                  try simp only [Act.put, List.setIfInBounds_toArray, List.set_cons_zero, List.set_cons_succ]
                  refine wpAnyH_ready (rs := [13]) (by kernel_rfl) (by simp) (AllReadyH.cons rfl (fun K hK => ?_) AllReadyH.nil)
                  go_simp
                  refine hK.out _ _ (⟨keep_set hXG y0, keep_set hne1 y1, keep_set hne1 y2⟩) (fun hHeld => ?_)
                  clear hK K
                  try simp only [Act.put, List.setIfInBounds_toArray, List.set_cons_zero, List.set_cons_succ]
                  refine wpAnyH_done (by kernel_rfl) ?_ _
                  clear y0 y1 y2 y3 y4
                  obtain ⟨val2, r1, r2, _⟩ := RW.step hRW3 hbg3 hB3 hEB3 hal.drew hsal et hgrow hown5 hlies
                  go_wp2_with fail
                  go_roundw
                  case rel => exact ⟨j + 1, by omega, by go_num, val2, by rw [Hst.out, Hyes2.out]; exact r1, r2⟩
                  case measure => simp [intOf]; omega
            · have Hno : Hid (tnb xs (D ++ [e]) = tnb xs D) := tnb_no (by rw [Htg.out]; exact decide_eq_false ht)
              go_quiet (fail)
              have hbd : Below W1.heap.size W1 (W1.drewN nq) := below_drewN (Below.refl _ _) _
              have hRW2 := hRW1.below hbd
              have hbg2 := hbg1.then hbd (by have := hbg1.size; omega)
              go_wp2_with fail
              go_roundw
              case rel => exact ⟨j + 1, by omega, by go_num, val, by rw [Hst.out, Hno.out]; exact hRW2, hbg2⟩
              case measure => simp [intOf]; omega
          · obtain rfl : j = m := by omega
            have hji : ¬ (j : Int) < (j : Int) := by omega
            rw [List.take_of_length_le (by omega), ← dnE_succ] at hRW
            go_wp2_with fail
            go_roundw
            case rel => exact ⟨v + 1, by omega, by go_num, val, hRW, hbg⟩
            case measure => simp [intOf]; omega
      · have hvN2 : N = v := by omega
        subst hvN2
        obtain ⟨b0, hbi, hbz, hbs, hbb⟩ := info_parts infoB
        have hDf : ∀ e ∈ dnE out N, e.f < N ∧ e.t < N := fun e he => by
          obtain ⟨u, hu, he⟩ := dnE_mem he
          obtain ⟨h1, h2, _⟩ := hG.ok.ok u e he
          exact ⟨by omega, h2⟩
        have Hf : Hid (∀ b v, ∀ x ∈ tnb xs (dnE out N) b v, x < N) := fun b v => tnb_lt hDf b v
        have Hln : Hid (∀ b v, (tnb xs (dnE out N) b v).length ≤ 100000) := fun b v => Nat.le_trans (tnb_len _ _ _ _) HD.out
        have Hbk : Hid (∀ a b, b ∈ tnb xs (dnE out N) true a ↔ a ∈ tnb xs (dnE out N) false b) := tnb_back
        generalize tnb xs (dnE out N) = T at *
        have hX1 := (hbg.cell (p := ⟨X, 0, none⟩) hXc (fun b => by cases b; exact n3; exact n2)).trans HXc.out
        have hbw : Below w.heap.size w wr := Hb0.out.trans (hbg.bel hszc HG2.out)
        have hszr := hbg.size
        have hNN : ¬ (N : Int) < (N : Int) := by omega
        have hXr : X < wr.heap.size := by omega
        clear HOut HV3 u1 u3 HXc Hb0 hDf HD hbg hvN Hvs Hse
        go_wp2_with (refine wpList_make_full _ rfl (.tmp 90) (.tmp 90) 62 rfl wr.heap.size 4 b0 (.bool false) 1 Try.underlying62 hbi hbz hbs .i64 .i64 N N N rfl rfl rfl rfl (by rw [hbb]; omega) (by unfold maxLen; omega) (Nat.le_refl _) ?_)
        intro w2 hown2 hgrow2
        have hb2 : Below wr.heap.size wr w2 := (Below.refl _ wr).grown hgrow2 (Nat.le_refl _) (fun j hj => by cases hj)
        have hmk := made_false N
        simp only [Value.cells, Nat.mul_one] at hmk
        rw [hmk] at hown2
        have hs2 := (own_lt hown2).2
        obtain ⟨w3, hw3⟩ : ∃ w3, w3 = w2.alloc (.cells #[.slice (some ⟨wr.heap.size, 0, none⟩) N N] 62) := ⟨_, rfl⟩
        have hb23 : Below w2.heap.size w2 w3 := by rw [hw3]; exact (Below.refl _ w2).alloc (Nat.le_refl _) _
        have hs3 : w3.heap.size = w2.heap.size + 1 := by rw [hw3]; simp
        have hb3 : Below wr.heap.size wr w3 := hb2.trans (hb23.mono hb2.size)
        have hX2 : w3.cell? ⟨w2.heap.size, 0, none⟩ = some (.slice (some ⟨wr.heap.size, 0, none⟩) N N) := by rw [hw3]; simp
        have hown3 := own_more (own_below hown2 hb23) (Nat.zero_le wr.heap.size)
        have hRA := RR.of_rw hRW hb3 true (Q := wr.heap.size) (base := w3.heap.size) (fun v _ => Hf.out true v) (fun v _ => Hln.out true v) (Nat.le_refl _) hb3.size
        have hRB := RR.of_rw hRW hb3 false (Q := wr.heap.size) (base := w3.heap.size) (fun v _ => Hf.out false v) (fun v _ => Hln.out false v) (Nat.le_refl _) hb3.size
        have hX3 := (hb3.cell (p := ⟨X, 0, none⟩) hXr).trans hX1
        have hbw3 : Below w.heap.size w w3 := hbw.trans (hb3.mono (by omega))
        have hPs0 := Ps.begin (base := w3.heap.size) (Q := wr.heap.size) (N := N) (next := T true) hown3
        have hszw3 : w.heap.size ≤ w3.heap.size := hbw3.size
        have hXQ : X ≠ wr.heap.size := by omega
        have hX3l : X < w3.heap.size := by omega
        have hQ3 : wr.heap.size < w3.heap.size := by omega
        have HRA := Lib.hid hRA
        have HRB := Lib.hid hRB
        have HX3 := Lib.hid hX3
        have HX2 := Lib.hid hX2
        have hwQ : w.heap.size ≤ wr.heap.size := by omega
        clear hRW hX1 hown2 hgrow2 hmk hown3 hRA hRB hX3 hb2 hb23 hbw hb3 hX2
        generalize hQe : wr.heap.size = Q at *
        generalize hX2e : w2.heap.size = X2 at *
        have hX2Q : X2 ≠ Q := by omega
        have hX2l : X2 < w3.heap.size := by omega
        go_wp2_with fail
        rw [← hw3]
        clear hw3 hs3 hs2 hX2e hQe
        go_loopw [10, 93] (fun o i wx => ∃ k : Nat, k ≤ N ∧ i = .int .i64 k ∧ ∃ (sl : List Bool) (O : List Nat), Ps w3 wx w3.heap.size Q N (T true) sl O o ∧ ∀ x, x < k → x ∈ O) (fun _ i _ => N - (intOf i).toNat)
        case atStart => exact ⟨0, Nat.zero_le _, rfl, _, _, hPs0, fun x hx => by omega⟩
        case round =>
          clear hPs0
          obtain ⟨k, hk, rfl, sl, O, hps, hall⟩ := hrel
          have hszx := hps.bb.size
          by_cases hkN : k < N
          · have hki : (k : Int) < (N : Int) := by omega
            have y2 := (hps.bb.cell (p := ⟨X2, 0, none⟩) hX2l hX2Q).trans HX2.out
            have HW := Lib.hid (walk_any w3.heap.size Q (G true) N (T true) hN hQ3 (un N sl + 1) k sl O u10 wr (by omega) hkN hszx (HRA.out.bb hps.bb) hps.sll hps.seen hps.ord hps.lt hps.wk)
            have Hps := Lib.hid hps
            have Hall := Lib.hid hall
            clear hps hall
            go_wp2_with fail
            with_reducible refine HW.out.mono ?_
            intro e w5 hp
            obtain ⟨u', sl', O', rfl, hps', hv', hsub⟩ := Hps.out.walk hp
            have hall' : ∀ x, x < k + 1 → x ∈ O' := fun x hx => by
              by_cases hxk : x = k
              · subst hxk; exact hv'
              · exact hsub x (Hall.out x (by omega))
            have Hps' := Lib.hid hps'
            have Hall' := Lib.hid hall'
            clear hp hps' hv' hsub hall' HW
            go_wp2_with fail
            go_roundw
            case rel => exact ⟨k + 1, by omega, by go_num, _, _, Hps'.out, Hall'.out⟩
            case measure => simp [intOf]; omega
          · obtain rfl : k = N := by omega
            have hOl : 0 < O.length := List.length_pos_iff.2 fun e => by have := hall 0 hN0; rw [e] at this; cases this
            have hOn : O.length ≤ k := nodup_len' hps.lt hps.wk.nd
            obtain ⟨og, oc, ho⟩ := own_some hps.ord hOl
            subst ho
            have hord := hps.ord
            have hog := (hord.lt og rfl)
            have hseen := hps.seen
            have hbb := hps.bb
            have Hks := Lib.hid hps.wk.ks
            have Hlt := Lib.hid hps.lt
            have Hall := Lib.hid hall
            have hsll := hps.sll
            clear hps hall
            go_wp2_with (refine wpList_make_full _ rfl (.tmp 102) (.tmp 102) 42 rfl wr.heap.size 3 i0 (.int .i64 0) 1 Try.underlying42 hi hz0 hz1 .i64 .i64 k k k rfl rfl rfl rfl (by rw [hz2]; omega) (by unfold maxLen; omega) (Nat.le_refl _) ?_)
            intro w5 hown5 hgrow5
            have hb5 : Below wr.heap.size wr w5 := (Below.refl _ wr).grown hgrow5 (Nat.le_refl _) (fun j hj => by cases hj)
            have hmk := made_zerosG k
            have hown5' : w5.ownsRow wr.heap.size 3 1 (.slice (some ⟨wr.heap.size, 0, none⟩) k k) k (int1 (List.replicate k 0)) := by rw [← hmk]; exact hown5
            have hg5 := (own_lt hown5').2
            have hX5 : Below w5.heap.size w5 (w5.alloc (.cells #[.slice (some ⟨wr.heap.size, 0, none⟩) k k] 42)) := (Below.refl _ w5).alloc (Nat.le_refl _) _
            obtain ⟨w6, hw6⟩ : ∃ w6, w6 = w5.alloc (.cells #[.slice (some ⟨wr.heap.size, 0, none⟩) k k] 42) := ⟨_, rfl⟩
            have hX6 : w6.cell? ⟨w5.heap.size, 0, none⟩ = some (.slice (some ⟨wr.heap.size, 0, none⟩) k k) := by rw [hw6]; simp
            have hs6 : w6.heap.size = w5.heap.size + 1 := by rw [hw6]; simp
            have hb56 : Below w5.heap.size w5 w6 := by rw [hw6]; exact hX5
            have hb6 : Below wr.heap.size wr w6 := hb5.trans (hb56.mono hb5.size)
            have hown6 := own_below hown5' hb56
            have hseen6 := own_below hseen hb6
            have hord6 := own_below hord hb6
            have hbb6 := hbb.then hb6 hszx
            have y2 := (hbb6.cell (p := ⟨X2, 0, none⟩) hX2l hX2Q).trans HX2.out
            have hclr := Lib.run_clear_slice (P := Try.prog) w6 62 4 0 (.bool false) Try.underlying62 (fun _ => Try.zeroValue4 _) rfl rfl Q 0 k k hN0 (fun j hj => by
              rw [Nat.zero_add, (own_cellB hseen6 (List.getElem?_eq_getElem (show j < sl.length by omega))).1]; rfl) (fun j hj => by
              rw [Nat.zero_add]; exact (own_cellB hseen6 (List.getElem?_eq_getElem (show j < sl.length by omega))).2)
            have Hown6 := Lib.hid hown6
            have Hord6 := Lib.hid hord6
            have Hseen6 := Lib.hid hseen6
            have Hbb6 := Lib.hid hbb6
            have HX6 := Lib.hid hX6
            have Hb6 := Lib.hid hb6
            clear hown5 hgrow5 hmk hown5' hX5 hb56 hb5 hown6 hord6 hseen6 hbb6 hX6 hseen hord hbb
            rw [hw6] at y2 hclr
            go_wp2_with fail
            refine (backward_any _ _ _ _).mono ?_
            rintro e w9 ⟨rfl, rfl⟩
            rw [← hw6] at *
            obtain ⟨w7, hw7⟩ : ∃ w7, w7 = w6.setCells Q 0 (List.replicate k (Value.bool false)) := ⟨_, rfl⟩
            have hs7 : w7.heap.size = w6.heap.size := by rw [hw7]; exact size_setC _ _ _ _
            rw [← hw7]
            have hQ6 : Q ≠ wr.heap.size := by omega
            have hBB7 : BB w3.heap.size Q w3 w7 := by rw [hw7]; exact Hbb6.out.setCells _ _
            have hk7 : ∀ b, b < w6.heap.size → b ≠ Q → w7.heap[b]? = w6.heap[b]? := fun b _ h2 => by rw [hw7]; exact heap_setC h2 _ _ _
            have hseen7 : w7.ownsRow 0 4 1 (.slice (some ⟨Q, 0, none⟩) k k) k (bool1 (List.replicate k false)) := by rw [hw7]; exact own_clear Hseen6.out
            have hgrp7 : w7.ownsRow wr.heap.size 3 1 (.slice (some ⟨wr.heap.size, 0, none⟩) k k) k (int1 (List.replicate k 0)) := own_heap Hown6.out (hk7 _ (by omega) (by omega))
            have hogQ : og ≠ Q := by omega
            have hord7 : w7.ownsRow w3.heap.size 3 1 (.slice (some ⟨og, 0, none⟩) O.length oc) O.length (int1 (castN O)) := own_heap Hord6.out (hk7 og (by have := Hb6.out.size; omega) hogQ)
            have hX37 : w7.cell? ⟨w5.heap.size, 0, none⟩ = some (.slice (some ⟨wr.heap.size, 0, none⟩) k k) := (World.cell?_of_block (a := ⟨w5.heap.size, 0, none⟩) (hk7 w5.heap.size (by omega) (by omega))).trans HX6.out
            obtain ⟨w8, hw8⟩ : ∃ w8, w8 = w7.alloc (.cells #[.slice (some ⟨og, 0, none⟩) O.length oc] 42) := ⟨_, rfl⟩
            have hs8 : w8.heap.size = w7.heap.size + 1 := by rw [hw8]; simp
            have hb8 : Below w7.heap.size w7 w8 := by rw [hw8]; exact (Below.refl _ _).alloc (Nat.le_refl _) _
            have hBs8 : w8.cell? ⟨w7.heap.size, 0, none⟩ = some (.slice (some ⟨og, 0, none⟩) O.length oc) := by rw [hw8]; simp
            have hBB8 : BB w3.heap.size Q w3 w8 := hBB7.then hb8 (by omega)
            have hbw8 : Below w.heap.size w w8 := hbw3.trans (hBB8.bel hszw3 hwQ)
            have hseen8 := own_below hseen7 hb8
            have hgrp8 := own_more (own_below hgrp7 hb8) (show w.heap.size ≤ wr.heap.size by omega)
            have hord8 := own_below hord7 hb8
            have hX38 := (hb8.cell (p := ⟨w5.heap.size, 0, none⟩) (show w5.heap.size < w7.heap.size by omega)).trans hX37
            have hX28 := (hBB8.cell (p := ⟨X2, 0, none⟩) hX2l hX2Q).trans HX2.out
            have hX8 := (hBB8.cell (p := ⟨X, 0, none⟩) hX3l hXQ).trans HX3.out
            have hRR8 := HRB.out.bb hBB8
            have hit0 : It (T true) k O (ndF hN0 Hlt.out) w w8 Q wr.heap.size [] w8 (List.replicate k false) (List.replicate k 0) := ⟨by simp, by simp, fun _ _ => Qs.begin (by simp), hseen8, hgrp8, BG2.refl _⟩
            rw [← hw8]
            have hszs : w5.heap.size < w7.heap.size ∧ w7.heap.size < w8.heap.size ∧ wr.heap.size < w5.heap.size ∧ w3.heap.size ≤ wr.heap.size := by omega
            clear hw8 hw7 hw6 hclr y2 hs6 hs7 hs8
            go_wp2_with fail
            have hzs : ∀ j, j < (castN O).length → w8.cell? ⟨og, 0 + j, none⟩ = some (.int .i64 ((castN O).getD j 0)) := fun j hj => by
              rw [Nat.zero_add]
              refine (own_cell hord8 ?_).1
              rw [List.getD_eq_getElem?_getD, List.getElem?_eq_getElem hj]
              rfl
            have hcl : (castN O).length = O.length := castN_len O
            refine (wpIn_wide (n := 6)).1 ?_
            refine wpIn_rangeFunc_ownF (F := Fence.wide) rfl (by omega) (gf := 61) (lb := #[.pointer (some ⟨w7.heap.size, 0, none⟩)]) rfl trivial (enters_of Try.func61 (by kernel_rfl) rfl)
              (back_stops ndE (ndF hN0 Hlt.out) (6 - 1) (by omega) w7.heap.size og 0 oc (castN O) (by rw [hcl]; omega) (ndF_enc hN0 Hlt.out) w8 (by omega) (by have := (own_lt hord8).2; omega) (by rw [hcl]; exact hBs8) hzs) KeepsB.trans (keepsB_b (n := w8.heap.size) (fun b hb => by
                have := (own_lt hord8).2
                simp only [List.mem_cons, List.not_mem_nil, or_false] at hb
                omega)) (Below.refl _ _) (fun _ => rfl)
              (fun pre W => ∃ sl gs, It (T true) k O (ndF hN0 Hlt.out) w w8 Q wr.heap.size pre W sl gs) (fun _ _ _ => False) (It.own _ _ _ _ _ _ _ _) (fun _ _ _ _ _ hs _ _ => hs) ⟨_, _, hit0⟩ ?a1 ?assign ?body ?done ?stop
            case assign =>
              intro l x W K hK
              simp only [ndE, List.size_toArray, List.length_cons, List.length_nil, Nat.reduceAdd, List.zip_toArray, List.zip_cons_cons, List.zip_nil_right, List.foldl_toArray', List.foldl_cons, List.foldl_nil, List.setIfInBounds_toArray, List.set_cons_succ, List.set_cons_zero]
              gi_wp2
              exact hK
            case body =>
              rintro l pre x W ⟨sl2, gs, hit⟩ hlen
              generalize hGe : wr.heap.size = Gp at *
              obtain ⟨⟨pa, v⟩, hvk⟩ := x
              have hbX : w3.heap.size ≤ w8.heap.size := hBB8.size
              have hsW : w8.heap.size ≤ W.heap.size := hit.bg.size
              have hbbW : BB w3.heap.size Q w8 W := hit.bb hbX hszs.2.2.2
              have y1 := (hbbW.cell (p := ⟨X, 0, none⟩) hX3l hXQ).trans hX8
              have y2 := (hbbW.cell (p := ⟨X2, 0, none⟩) hX2l hX2Q).trans hX28
              have y3 := (hit.bg.cell (p := ⟨w5.heap.size, 0, none⟩) (show w5.heap.size < w8.heap.size by omega) (fun b => by cases b; (show w5.heap.size ≠ Gp; omega); (show w5.heap.size ≠ Q; omega))).trans hX38
              have HC := Lib.hid (CallsIn.inRound (F := Fence.wide) (n := 3) l (callsIn_wide.2 (walk_any W.heap.size Q (G false) k (T false) hN (by omega) (un k sl2 + 1) v sl2 [] (.slice none 0 0) W (by omega) hvk (Nat.le_refl _) ((hRR8.bb hbbW).more (by omega)) hit.sll hit.seen (World.ownsRow_nil _ _ _ _) (fun x hx => by cases hx) wk_nil)))
              have Hit := Lib.hid hit
              have hOgW : og < Gp := hog.2
              clear hit hRR8 hX8 hX28 hX38 hit0 hzs hBs8 hseen8 hgrp8 hord8 hord7 hgrp7 hseen7 hX37
              show Code.wpIn _ _ _ _ _ (Act.mk _ _) _
              gi_wp2_with fail
              refine ⟨trivial, ?_⟩
              with_reducible refine HC.out.mono ?_
              intro e w6 hp
              obtain ⟨M, sl3, u, rfl, hown, hsl3, hseen3, hwn, hMl, hbb3⟩ := hp
              rw [List.nil_append] at hown
              obtain ⟨A, cu, rfl, hIL⟩ := il_own hown
              have hMn : M.length ≤ k := nodup_len' hMl hwn.wk.nd
              have y4 := (hbb3.cell (p := ⟨w5.heap.size, 0, none⟩) (show w5.heap.size < W.heap.size by omega) (show w5.heap.size ≠ Q by omega)).trans y3
              have hsz3 := hbb3.size
              have hgr3 := own_heap Hit.out.grp (hbb3.block Gp (by omega) (by omega))
              have hlow := hown.lt
              gi_wp2
              gi_loopw [114] (fun i wx => ∃ j : Nat, j ≤ M.length ∧ i = .int .i64 j ∧ wx.ownsRow w.heap.size 3 1 (.slice (some ⟨Gp, 0, none⟩) k k) k (int1 (setAll gs (M.take j) (v : Int))) ∧ BB w6.heap.size Gp w6 wx)
                (fun i _ => M.length - (intOf i).toNat)
              case atStart => exact ⟨0, Nat.zero_le _, rfl, hgr3, BB.of (Below.refl _ _)⟩
              case round =>
                obtain ⟨j, hj, rfl, hrow, hbx⟩ := hrel
                have hsx := hbx.size
                by_cases hjM : j < M.length
                · have hji : (j : Int) < (M.length : Int) := by omega
                  obtain ⟨b', off, z, rfl, hb', hz, hc⟩ := hIL.at_ (k := j) hjM
                  have hlb := hlow b' rfl
                  obtain ⟨m, hm⟩ : ∃ m, M[j]? = some m := ⟨_, List.getElem?_eq_getElem hjM⟩
                  obtain rfl : z = (m : Int) := by
                    unfold castN at hz
                    rw [List.getElem?_map, hm] at hz
                    exact (Option.some.inj hz).symm
                  have hmk := hMl m (List.mem_of_getElem? hm)
                  have hmi : (m : Int) < (k : Int) := by omega
                  have y5 := (hbx.cell (p := ⟨b', off + j, none⟩) hb' (show b' ≠ Gp by omega)).trans hc
                  have y6 := (hbx.cell (p := ⟨w5.heap.size, 0, none⟩) (show w5.heap.size < w6.heap.size by omega) (show w5.heap.size ≠ Gp by omega)).trans y4
                  have hgl : (setAll gs (M.take j) (v : Int)).length = k := by rw [setAll_len]; exact Hit.out.gl
                  obtain ⟨y7, y8⟩ := own_cell hrow (k := m) (List.getElem?_eq_getElem (by rw [hgl]; exact hmk))
                  have Hst : Hid (setAll gs (M.take (j + 1)) (v : Int) = (setAll gs (M.take j) (v : Int)).set m v) := by
                    rw [Hid, List.take_add_one, hm, Option.toList_some, setAll_snoc]
                  have Hrow2 := Lib.hid (own_store hrow m (v : Int))
                  have Hbx2 := Lib.hid (hbx.setT m (.int .i64 (v : Int)))
                  clear hrow hbx hIL hlow hown hz hc
                  gi_wp2
                  go_roundw
                  case rel => exact ⟨j + 1, by omega, by go_num, by rw [Hst.out]; exact Hrow2.out, Hbx2.out⟩
                  case measure => simp [intOf]; omega
                · obtain rfl : j = M.length := by omega
                  have hji : ¬ (M.length : Int) < (M.length : Int) := by omega
                  rw [List.take_length] at hrow
                  have hfin := It.next (x := (⟨(pa, v), hvk⟩ : Nd k)) Hbk.out hN0 Hlt.out Hit.out Hks.out Hall.out (fun x y hy => Hf.out false x y hy) hQ6 hsl3 hMl hwn hseen3 hbb3 hrow hbx
                  have hkb : ∀ b, b < w8.heap.size → b ≠ Q → b ≠ Gp → wr.heap[b]? = W.heap[b]? := fun b h1 h2 h3 => (hbx.block b (by omega) h3).trans (hbb3.block b (by omega) h2)
                  have hokn : KeepsOthers W wr := ⟨Nat.le_trans hsz3 hsx, fun i o hi ho => by
                    have hiW := (Array.getElem?_eq_some_iff.1 hi).1
                    by_cases e1 : i = Q
                    · subst e1
                      obtain ⟨cs, fr, h9⟩ := row_ty Hit.out.seen
                      rw [h9] at hi; cases hi; cases ho
                    by_cases e2 : i = Gp
                    · subst e2
                      obtain ⟨cs, fr, h9⟩ := row_ty Hit.out.grp
                      rw [h9] at hi; cases hi; cases ho
                    exact ((hbx.block i (by omega) e2).trans (hbb3.block i hiW e1)).trans hi⟩
                  have hkB : KeepsB [w7.heap.size, og] W wr := fun b hb => by
                    simp only [List.mem_cons, List.not_mem_nil, or_false] at hb
                    exact hkb b (by omega) (by omega) (by omega)
                  have Hfin := Lib.hid hfin
                  clear hfin hbx hrow hkb hIL hown hlow
                  gi_wp2
                  exact ⟨hokn, hkB, _, _, Hfin.out⟩
            case done =>
              intro D ys W hD hys ⟨sl2, gs, hit⟩ hdf
              have y3 := (hit.bg.cell (p := ⟨w5.heap.size, 0, none⟩) (show w5.heap.size < w8.heap.size by omega) (fun b => by cases b; (show w5.heap.size ≠ wr.heap.size; omega); (show w5.heap.size ≠ Q; omega))).trans hX38
              obtain ⟨sl4, gs4, hit4⟩ := OwnFrom.putObj (It.own _ _ _ _ _ _ _ _) (.deferred none) ⟨_, _, hit⟩ hD hdf rfl
              have hlen : ys.length = O.length := by rw [hys, upF_len, hcl]
              have hqs := hit4.qs (by rw [hlen, ← hcl]; exact hys) (by omega)
              rw [hlen, Nat.sub_self] at hqs
              have Hpost : GrpPost k (T true) w (.returned (.slice (some ⟨wr.heap.size, 0, none⟩) k k)) (W.putObj D (.deferred none)) := ⟨_, gs4, rfl, hit4.gl, hit4.grp, Qs.fin Hall.out hqs, hbw8.trans (hit4.bg.bel hbw8.size fun b => by cases b; (show w.heap.size ≤ wr.heap.size; omega); (show w.heap.size ≤ Q; omega)), Qs.range (fun a y hy => Hf.out true a y hy) Hall.out hqs⟩
              go_wp2_with fail
              refine ⟨by simp, .inl ⟨_, _, rfl, run_takeDeferred hdf, ?_⟩⟩
              refine ⟨_, results_tmp rfl _ _ _, ?_⟩
              exact Hpost
            case stop =>
              intro D c pre W _ _ h _
              exact h.elim
end Go.Proofs.Ytfaebmpdianniaa
