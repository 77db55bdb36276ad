/-
  'walk' of package term with a visitor that leaves the term alone.
-/
import Derived.Test.YtdhbfkbkgjmniaaGreatDoorTmSh
import Derived.Deep.DeepCutAuto
namespace Go.Proofs.YtdhbfkbkgjmniaaGreatDoor
open Go Go.RowKit

/-- the node at a place of memory reads as the tree -/
def NdAt (w : World) (B b off : Nat) (t : Tm) : Prop := b < B ∧ ∃ c0 c1 c2 c3 c4, TmAt w B c0 c1 c2 c3 c4 t ∧ w.cell? ⟨b, off, none⟩ = some c0 ∧ w.cell? ⟨b, off + 1, none⟩ = some c1 ∧ w.cell? ⟨b, off + 2, none⟩ = some c2 ∧ w.cell? ⟨b, off + 3, none⟩ = some c3 ∧ w.cell? ⟨b, off + 4, none⟩ = some c4
theorem NdAt.below {w w' : World} {B b off : Nat} {t : Tm} (h : NdAt w B b off t) (hb : Below B w w') : NdAt w' B b off t := by
  obtain ⟨hB, c0, c1, c2, c3, c4, ht, h0, h1, h2, h3, h4⟩ := h
  exact ⟨hB, c0, c1, c2, c3, c4, ht.stay hb, (hb.cell (p := ⟨b, off, none⟩) hB).trans h0, (hb.cell (p := ⟨b, off + 1, none⟩) hB).trans h1, (hb.cell (p := ⟨b, off + 2, none⟩) hB).trans h2, (hb.cell (p := ⟨b, off + 3, none⟩) hB).trans h3, (hb.cell (p := ⟨b, off + 4, none⟩) hB).trans h4⟩
theorem NdAt.inv {w : World} {B b off : Nat} {t : Tm} (h : NdAt w B b off t) : b < B ∧ ∃ U nu cu L nl cl, w.cell? ⟨b, off, none⟩ = some (.int .i64 t.op) ∧ w.cell? ⟨b, off + 1, none⟩ = some (.int .i64 t.n) ∧ w.cell? ⟨b, off + 2, none⟩ = some (.string t.s) ∧ w.cell? ⟨b, off + 3, none⟩ = some (.slice U nu cu) ∧ w.cell? ⟨b, off + 4, none⟩ = some (.slice L nl cl) ∧ LvL w B U nu t.u ∧ nu ≤ cu ∧ cu ≤ 9223372036854775807 ∧ TmL w B L nl t.l ∧ nl ≤ cl ∧ cl ≤ 9223372036854775807 := by
  obtain ⟨hB, c0, c1, c2, c3, c4, ht, h0, h1, h2, h3, h4⟩ := h
  obtain ⟨U, nu, cu, L, nl, cl, rfl, rfl, rfl, rfl, rfl, r⟩ := ht.inv
  exact ⟨hB, U, nu, cu, L, nl, cl, h0, h1, h2, h3, h4, r⟩
theorem TmL.nd {w : World} {B n k : Nat} {A : Option Addr} {l : List Tm} (h : TmL w B A n l) (hk : k < n) : ∃ b off t, A = some ⟨b, off, none⟩ ∧ l[k]? = some t ∧ NdAt w B b (off + k * 5) t := by
  obtain ⟨b, off, t, c0, c1, c2, c3, c4, e, hb, hl, ht, h0, h1, h2, h3, h4⟩ := h.at_ hk
  exact ⟨b, off, t, e, hl, hb, c0, c1, c2, c3, c4, ht, h0, h1, h2, h3, h4⟩

section
variable {σ : Type} (stp : σ → Tm → Nat → Nat → σ) (go : σ → Tm → Nat → Nat → Bool)
mutual
/-- what a walk does to the visitor's state -/
def runT (s : σ) : Tm → Nat → Nat → σ
  | .mk o n x u l, b, d => if go s (.mk o n x u l) b d then runL (stp s (.mk o n x u l) b d) o l.length 0 l b d else stp s (.mk o n x u l) b d
def runL (s : σ) (o : Int) (c i : Nat) : List Tm → Nat → Nat → σ
  | [], _, _ => s
  | t :: l, b, d => runL (runT s t (b + (bndB o c i).toNat) (d + 1)) o c (i + 1) l b d
end
theorem runL_snoc (l : List Tm) (t : Tm) : ∀ (s : σ) (o : Int) (c i b d : Nat), runL stp go s o c i (l ++ [t]) b d = runT stp go (runL stp go s o c i l b d) t (b + (bndB o c (i + l.length)).toNat) (d + 1) := by
  induction l with
  | nil => intro s o c i b d; simp [runL]
  | cons x l ih => intro s o c i b d; simp only [List.cons_append, runL, ih, List.length_cons]; rw [show i + 1 + l.length = i + (l.length + 1) by omega]
theorem runT_eq (s : σ) (t : Tm) (b d : Nat) : runT stp go s t b d = if go s t b d then runL stp go (stp s t b d) t.op t.l.length 0 t.l b d else stp s t b d := by
  cases t; rfl

/-- a node of a tree -/
inductive Sub : Tm → Tm → Prop
  | refl (t : Tm) : Sub t t
  | part {t y x : Tm} {j : Nat} : t.l[j]? = some y → Sub x y → Sub x t
/-- what a walk asks of its visitor -/
structure Vis (Pn : Tm → Prop) (kf : Nat) (caps : Array Value) (bV bD B : Nat) (w0 : World) (I : σ → World → Prop) : Prop where
  en : ∀ args w, (callFunc kf args).run Tryz.prog w = .ok (.enter kf args) w
  bel : ∀ s W, I s W → Below B w0 W
  shp : ∀ s W, I s W → Shp W
  fn : ∀ s W, I s W → bV < W.heap.size ∧ W.cell? ⟨bV, 0, none⟩ = some (.func (.func kf) #[] caps)
  down : ∀ s W, I s W → bD < W.heap.size ∧ W.cell? ⟨bD, 0, none⟩ = some (.func (.func 87) #[] #[.pointer (some ⟨bV, 0, none⟩), .pointer (some ⟨bD, 0, none⟩)])
  keep : ∀ s W W', I s W → Below W.heap.size W W' → I s W'
  size : ∀ s W, I s W → B ≤ W.heap.size
  call : ∀ s W (x : Tm) (b off bd dp : Nat), Pn x → I s W → NdAt W B b off x → bd ≤ 100000000 → dp ≤ 1000000 → Calls Tryz.prog kf (#[.pointer (some ⟨b, off, none⟩), .int .i64 bd, .int .i64 dp] ++ caps) W fun e W' => e = .returned (.bool (go s x bd dp)) ∧ I (stp s x bd dp) W'

theorem dig_le : ∀ (r i : Nat), 0 ≤ digB r i ∧ digB r i ≤ 9 := fun r i => by
  unfold digB
  cases hx : shTab[r]? with
  | none => exact ⟨Int.le_refl _, (by decide : (0 : Int) ≤ 9)⟩
  | some x =>
    show 0 ≤ (if x.binds.size ≤ i then (0 : Int) else _) ∧ (if x.binds.size ≤ i then (0 : Int) else _) ≤ 9
    by_cases hs : x.binds.size ≤ i
    · rw [if_pos hs]; omega
    · rw [if_neg hs, ← shTab_dig hx (by omega)]
      have h1 := List.all_eq_true.1 shTab_digits x (List.mem_of_getElem? hx)
      have hi2 : i < x.binds.data.size := Nat.lt_of_not_le hs
      have h2 := of_decide_eq_true (List.all_eq_true.1 h1 x.binds.data[i] (by rw [Array.mem_toList_iff]; exact Array.getElem_mem hi2))
      have e1 : x.binds[i]'(Nat.lt_of_not_le hs) = x.binds.data[i] := rfl
      rw [e1]
      omega
theorem bnd_le (op : Int) (c i : Nat) : 0 ≤ bndB op c i ∧ bndB op c i ≤ 9 := by
  unfold bndB metB
  have := dig_le op.toNat i
  split
  · split
    · split <;> omega
    · exact this
  · omega
theorem nd_pos (t : Tm) : 1 ≤ t.nd := by rw [Tm.nd_eq]; omega
theorem nd_child {t x : Tm} {k : Nat} (h : t.l[k]? = some x) : x.nd + 1 ≤ t.nd := by
  rw [Tm.nd_eq t]
  have : ∀ (l : List Tm) (k : Nat), l[k]? = some x → x.nd ≤ ndL l := by
    intro l
    induction l with
    | nil => intro k h; simp at h
    | cons y l ih =>
      intro k h
      cases k with
      | zero => simp at h; subst h; simp [ndL]
      | succ k => simp at h; have := ih k h; simp [ndL]; omega
  have := this _ _ h
  omega

set_option maxRecDepth 100000 in
set_option maxHeartbeats 4000000 in
theorem down_any {Pn : Tm → Prop} {kf : Nat} {caps : Array Value} {bV bD B : Nat} {w0 : World} {I : σ → World → Prop} (V : Vis stp go Pn kf caps bV bD B w0 I) (t : Tm) :
    ∀ (s : σ) (w : World) (b off bd dp : Nat), (∀ x, Sub x t → Pn x) → I s w → NdAt w0 B b off t → bd + 9 * t.nd ≤ 100000000 → dp + t.nd ≤ 1000000 →
    Calls Tryz.prog 87 #[.pointer (some ⟨b, off, none⟩), .int .i64 bd, .int .i64 dp, .pointer (some ⟨bV, 0, none⟩), .pointer (some ⟨bD, 0, none⟩)] w fun e w' => e = .returned (.tuple #[]) ∧ I (runT stp go s t bd dp) w' := by
  induction t using Tm.ind
  rename_i t ih
  intro s w b off bd dp hP hI hN hbd hdp
  have hnp := nd_pos t
  obtain ⟨hv0, hv1⟩ := V.fn s w hI
  have HC := Lib.hid (V.call s w t b off bd dp (hP t (.refl t)) hI (hN.below (V.bel s w hI)) (by omega) (by omega))
  have eg := V.en
  rw [runT_eq]
  generalize go s t bd dp = g at HC ⊢
  generalize stp s t bd dp = s1 at HC ⊢
  obtain ⟨hbl, U, nu, cu, L, nl, cl, m0, _, _, _, m4, _, _, _, hl, hnl, hcl⟩ := hN.inv
  cases g
  · go_enter Tryz.func87, Tryz.ntmps87
    go_wp2_with fail
    refine HC.out.mono ?_
    rintro e w1 ⟨rfl, hI1⟩
    go_wp2_with fail
    refine bodyPost_ret (v := .tuple #[]) (by simp [results, Tryz.results87]) rfl ?_
    exact ⟨rfl, hI1⟩
  · have HF : Hid (∀ s W, I s W → W.cell? ⟨b, off, none⟩ = some (.int .i64 t.op) ∧ W.cell? ⟨b, off + 4, none⟩ = some (.slice L nl cl) ∧ W.cell? ⟨bD, 0, none⟩ = some (.func (.func 87) #[] #[.pointer (some ⟨bV, 0, none⟩), .pointer (some ⟨bD, 0, none⟩)])) := Lib.hid fun s W hI => ⟨((V.bel s W hI).cell (p := ⟨b, off, none⟩) hbl).trans m0, ((V.bel s W hI).cell (p := ⟨b, off + 4, none⟩) hbl).trans m4, (V.down s W hI).2⟩
    clear m0 m4
    go_enter Tryz.func87, Tryz.ntmps87
    go_wp2_with fail
    refine HC.out.mono ?_
    rintro e w1 ⟨rfl, hI1⟩
    clear HC hv0 hv1
    obtain ⟨n0, n4, nd⟩ := HF.out s1 w1 hI1
    have Hll := Lib.hid hl.1
    go_wp2_with fail
    go_loopw [20] (fun i wr => ∃ k : Nat, k ≤ nl ∧ i = .int .i64 k ∧ I (runL stp go s1 t.op nl 0 (t.l.take k) bd dp) wr) (fun i _ => nl - (intOf i).toNat)
    case atStart => exact ⟨0, Nat.zero_le _, rfl, by simpa [runL] using hI1⟩
    case round =>
      obtain ⟨k, hk, rfl, hIk⟩ := hrel
      clear n0 n4 nd hI1
      generalize hsk : runL stp go s1 t.op nl 0 (t.l.take k) bd dp = sk at hIk
      have Hsk := Lib.hid hsk
      clear hsk
      by_cases hkn : k < nl
      · have hki : (k : Int) < (nl : Int) := by omega
        obtain ⟨b2, off2, x, rfl, hx, hNx⟩ := hl.nd hkn
        have hxn := nd_child hx
        have hst : ∀ W, Below wr.heap.size wr W → I sk W := fun W hW => V.keep sk wr W hIk hW
        obtain ⟨z, hz⟩ : ∃ z : Nat, bndB t.op nl k = z := ⟨(bndB t.op nl k).toNat, by have := (bnd_le t.op nl k).1; omega⟩
        have hz9 : z ≤ 9 := by have := (bnd_le t.op nl k).2; omega
        have HBn : Hid (∀ W, Below wr.heap.size wr W → Calls Tryz.prog 88 #[.int .i64 t.op, .int .i64 nl, .int .i64 k] W fun e w' => e = .returned (.int .i64 z) ∧ Below wr.heap.size wr w') := Lib.hid fun W hW => (binders_any t.op nl k W (V.shp sk W (hst W hW)) (by omega) (by omega)).mono fun e w' ⟨he, hw⟩ => ⟨by rw [← hz]; exact he, by rw [← hw]; exact hW⟩
        have HD : Hid (∀ W, Below wr.heap.size wr W → Calls Tryz.prog 87 #[.pointer (some ⟨b2, off2 + k * 5, none⟩), .int .i64 ((bd : Int) + (z : Int)), .int .i64 ((dp : Int) + 1), .pointer (some ⟨bV, 0, none⟩), .pointer (some ⟨bD, 0, none⟩)] W fun e w' => e = .returned (.tuple #[]) ∧ I (runT stp go sk x (bd + z) (dp + 1)) w') := Lib.hid fun W hW => by
          rw [← Int.natCast_add, show ((dp : Int) + 1) = ((dp + 1 : Nat) : Int) by omega]
          exact ih k x hx sk W b2 (off2 + k * 5) (bd + z) (dp + 1) (fun z hz => hP z (.part hx hz)) (hst W hW) hNx (by omega) (by omega)
        have HS : Hid (∀ W, Below wr.heap.size wr W → W.cell? ⟨b, off, none⟩ = some (.int .i64 t.op) ∧ W.cell? ⟨b, off + 4, none⟩ = some (.slice (some ⟨b2, off2, none⟩) nl cl) ∧ W.cell? ⟨bD, 0, none⟩ = some (.func (.func 87) #[] #[.pointer (some ⟨bV, 0, none⟩), .pointer (some ⟨bD, 0, none⟩)])) := Lib.hid fun W hW => HF.out sk W (hst W hW)
        have v1 : IntKind.i64.wrap ((bd : Int) + (z : Int)) = (bd : Int) + (z : Int) := by rw [IntKind.wrap_i64]; omega
        have v2 : IntKind.i64.wrap ((dp : Int) + 1) = (dp : Int) + 1 := by rw [IntKind.wrap_i64]; omega
        have hz0 : Below wr.heap.size wr wr := Below.refl _ _
        have hz1 : Below wr.heap.size wr wr.drew := hz0.drew
        have Hst := Lib.hid hst
        have Hn : Hid (runL stp go s1 t.op nl 0 (t.l.take (k + 1)) bd dp = runT stp go sk x (bd + z) (dp + 1)) := Lib.hid (by
          rw [take_snoc hx, runL_snoc, Hsk.out, List.length_take, Nat.zero_add, Nat.min_eq_left (by rw [Hll.out]; omega), hz, Int.toNat_natCast])
        clear hst hNx hl hx hz
        go_wp2_with fail
        go_region_held3 (fun w' => w'.cell? ⟨b, off, none⟩ = some (.int .i64 t.op) ∧ w'.cell? ⟨b, off + 4, none⟩ = some (.slice (some ⟨b2, off2, none⟩) nl cl) ∧ w'.cell? ⟨bD, 0, none⟩ = some (.func (.func 87) #[] #[.pointer (some ⟨bV, 0, none⟩), .pointer (some ⟨bD, 0, none⟩)])) (first | exact HS.out _ (by assumption) | exact HF.out _ _ (by assumption)) (first
          | (go_at_call 88; with_reducible refine (HBn.out _ (by assumption)).mono ?_; rintro e w5 ⟨rfl, hb5⟩)
          | (go_at_call 87; with_reducible refine (HD.out _ (by assumption)).mono ?_; rintro e w6 ⟨rfl, hI6⟩))
        go_wp2_with fail
        go_roundw
        case rel => exact ⟨k + 1, by omega, by go_num, by rw [Hn.out]; exact hI6⟩
        case measure => simp [intOf]; omega
      · obtain rfl : k = nl := by omega
        have hkk : ¬ (k : Int) < (k : Int) := by omega
        rw [List.take_of_length_le (by rw [Hll.out]; omega)] at Hsk
        go_wp2_with fail
        refine bodyPost_end (v := .tuple #[]) (by simp [results, Tryz.results87]) rfl ?_
        exact ⟨rfl, by rw [Hll.out, Hsk.out]; exact hIk⟩

/-- memory below B, and from n1 on, is left alone -/
def KX (n1 B : Nat) (W W' : World) : Prop := Below B W W' ∧ ∀ j, n1 ≤ j → j < W.heap.size → W'.heap[j]? = W.heap[j]?
theorem KX.of_below {n1 B : Nat} {W W' : World} (h : Below W.heap.size W W') (hB : B ≤ W.heap.size) : KX n1 B W W' := ⟨h.mono hB, fun j _ hj => h.block j hj⟩
theorem heap2 (w : World) (a b : Obj) : ((w.alloc a).alloc b).heap[w.heap.size]? = some a ∧ ((w.alloc a).alloc b).heap[w.heap.size + 1]? = some b := by
  constructor
  · show ((w.heap.push a).push b)[w.heap.size]? = some a
    rw [Array.getElem?_push_lt (by simp), Array.getElem_push_eq]
  · show ((w.heap.push a).push b)[w.heap.size + 1]? = some b
    rw [show w.heap.size + 1 = (w.heap.push a).size by simp, Array.getElem?_push_size]
theorem frz_one {w : World} {q : Nat} {cs : Array Value} {ty : TypeId} (h : w.heap[q]? = some (.cells cs ty)) (i : Nat) : w.frozen? ⟨q, i, none⟩ = false := by
  unfold World.frozen?
  rw [h]
  simp
theorem cell_heap {w : World} {q i : Nat} {cs : Array Value} {ty : TypeId} (h : w.heap[q]? = some (.cells cs ty)) : w.cell? ⟨q, i, none⟩ = cs[i]? := by
  simp [World.cell?, h]
theorem cell_of_block {W W' : World} {q i : Nat} (h : W'.heap[q]? = W.heap[q]?) : W'.cell? ⟨q, i, none⟩ = W.cell? ⟨q, i, none⟩ := by
  simp [World.cell?, h]

set_option maxRecDepth 100000 in
set_option maxHeartbeats 4000000 in
theorem walk_any (Pn : Tm → Prop) (kf : Nat) (caps : Array Value) (B : Nat) (w : World) (I : σ → World → Prop) (s : σ) (t : Tm) (b off : Nat)
    (en : ∀ args w, (callFunc kf args).run Tryz.prog w = .ok (.enter kf args) w) (hs : I s w) (hsh : Shp w) (hG : 0 < B) (hB : B ≤ w.heap.size) (hN : NdAt w B b off t) (hnd : t.nd ≤ 100000) (hP : ∀ x, Sub x t → Pn x)
    (keep : ∀ s W W', I s W → w.heap.size ≤ W.heap.size → Below W.heap.size W W' → I s W')
    (call : ∀ s W (x : Tm) (b off bd dp : Nat), Pn x → I s W → Below B w W → Shp W → w.heap.size ≤ W.heap.size → NdAt W B b off x → bd ≤ 100000000 → dp ≤ 1000000 → Calls Tryz.prog kf (#[.pointer (some ⟨b, off, none⟩), .int .i64 bd, .int .i64 dp] ++ caps) W fun e W' => e = .returned (.bool (go s x bd dp)) ∧ I (stp s x bd dp) W' ∧ KX w.heap.size B W W') :
    Calls Tryz.prog 49 #[.pointer (some ⟨b, off, none⟩), .func (.func kf) #[] caps] w fun e w' => e = .returned (.tuple #[]) ∧ I (runT stp go s t 0 1) w' ∧ Below B w w' := by
  have V : Vis stp go Pn kf caps w.heap.size (w.heap.size + 1) B w (fun s W => I s W ∧ Below B w W ∧ w.heap.size + 2 ≤ W.heap.size ∧ W.cell? ⟨w.heap.size, 0, none⟩ = some (.func (.func kf) #[] caps) ∧ W.cell? ⟨w.heap.size + 1, 0, none⟩ = some (.func (.func 87) #[] #[.pointer (some ⟨w.heap.size, 0, none⟩), .pointer (some ⟨w.heap.size + 1, 0, none⟩)])) := {
    en := en
    bel := fun s W h => h.2.1
    shp := fun s W h => hsh.below hG h.2.1
    fn := fun s W h => ⟨by have := h.2.2.1; omega, h.2.2.2.1⟩
    down := fun s W h => ⟨by have := h.2.2.1; omega, h.2.2.2.2⟩
    keep := fun s W W' h hb => ⟨keep s W W' h.1 (by have := h.2.2.1; omega) hb, h.2.1.trans (hb.mono (by have := h.2.2.1; omega)), by have := h.2.2.1; have := hb.size; omega, (hb.cell (p := ⟨w.heap.size, 0, none⟩) (show w.heap.size < W.heap.size by have := h.2.2.1; omega)).trans h.2.2.2.1, (hb.cell (p := ⟨w.heap.size + 1, 0, none⟩) (show w.heap.size + 1 < W.heap.size by have := h.2.2.1; omega)).trans h.2.2.2.2⟩
    size := fun s W h => by have := h.2.2.1; omega
    call := fun s W x b off bd dp hp h hN h1 h2 => (call s W x b off bd dp hp h.1 h.2.1 (hsh.below hG h.2.1) (by have := h.2.2.1; omega) hN h1 h2).mono fun e W' ⟨he, hI, hb, hk⟩ => ⟨he, hI, h.2.1.trans hb, by have := h.2.2.1; have := hb.size; omega, (cell_of_block (hk _ (Nat.le_refl _) (by have := h.2.2.1; omega))).trans h.2.2.2.1, (cell_of_block (hk _ (Nat.le_succ _) (by have := h.2.2.1; omega))).trans h.2.2.2.2⟩ }
  have hN9 := hN
  have HD := Lib.hid (fun W (hW : I s W ∧ Below B w W ∧ w.heap.size + 2 ≤ W.heap.size ∧ W.cell? ⟨w.heap.size, 0, none⟩ = some (.func (.func kf) #[] caps) ∧ W.cell? ⟨w.heap.size + 1, 0, none⟩ = some (.func (.func 87) #[] #[.pointer (some ⟨w.heap.size, 0, none⟩), .pointer (some ⟨w.heap.size + 1, 0, none⟩)])) => down_any stp go V t s W b off 0 1 hP hW hN (by omega) (by omega))
  clear V
  have q1 := (heap2 w (.cells #[.func (.func kf) #[] caps] 69) (.cells #[.nilFunc] 104)).2
  have q2 := frz_one q1 0
  have q0 := (heap2 w (.cells #[.func (.func kf) #[] caps] 69) (.cells #[.nilFunc] 104)).1
  have q3 : ((w.alloc (.cells #[.func (.func kf) #[] caps] 69)).alloc (.cells #[.nilFunc] 104)).cell? ⟨w.heap.size + 1, 0, none⟩ = some .nilFunc := (cell_heap q1).trans rfl
  have q4 := ((Below.refl w.heap.size w).alloc (Nat.le_refl _) (.cells #[.func (.func kf) #[] caps] 69)).alloc (by simp) (.cells #[.nilFunc] 104)
  have q5 : ((w.alloc (.cells #[.func (.func kf) #[] caps] 69)).alloc (.cells #[.nilFunc] 104)).heap.size = w.heap.size + 2 := by simp
  have q6 : ((w.alloc (.cells #[.func (.func kf) #[] caps] 69)).alloc (.cells #[.nilFunc] 104)).cell? ⟨w.heap.size, 0, none⟩ = some (.func (.func kf) #[] caps) := (cell_heap q0).trans rfl
  have Q := Lib.hid (And.intro q1 (And.intro q2 (And.intro q3 (And.intro q4 (And.intro q5 q6)))))
  clear q0 q1 q2 q3 q4 q5 q6
  go_enter Tryz.func49, Tryz.ntmps49
  go_upto_region 2 with fail
  generalize (w.alloc (.cells #[.func (.func kf) #[] caps] 69)).alloc (.cells #[.nilFunc] 104) = W2 at Q ⊢
  obtain ⟨q1, q2, q3, q4, q5, q6⟩ := Q.out
  clear Q
  have q7 : (store ⟨w.heap.size + 1, 0, none⟩ (Value.func (.func 87) #[] #[.pointer (some ⟨w.heap.size, 0, none⟩), .pointer (some ⟨w.heap.size + 1, 0, none⟩)])).run Tryz.prog W2 = .ok () (W2.setCell ⟨w.heap.size + 1, 0, none⟩ (.func (.func 87) #[] #[.pointer (some ⟨w.heap.size, 0, none⟩), .pointer (some ⟨w.heap.size + 1, 0, none⟩)])) := by
    rw [run_store _ _ _ _ _ rfl, q3]
    simp [q2]
  go_upto_region 3 with fail
  have e1 : (W2.setCell ⟨w.heap.size + 1, 0, none⟩ (.func (.func 87) #[] #[.pointer (some ⟨w.heap.size, 0, none⟩), .pointer (some ⟨w.heap.size + 1, 0, none⟩)])).heap[w.heap.size + 1]? = some (.cells #[.func (.func 87) #[] #[.pointer (some ⟨w.heap.size, 0, none⟩), .pointer (some ⟨w.heap.size + 1, 0, none⟩)]] 104) := by
    unfold World.setCell
    simp only [Array.getElem?_modify]
    rw [if_pos trivial, q1]
    rfl
  have e2 := (cell_of_block (i := 0) (Below.heap_setCell W2 ⟨w.heap.size + 1, 0, none⟩ (.func (.func 87) #[] #[.pointer (some ⟨w.heap.size, 0, none⟩), .pointer (some ⟨w.heap.size + 1, 0, none⟩)]) w.heap.size (show w.heap.size ≠ w.heap.size + 1 by omega))).trans q6
  have e3 := q4.setCell (show w.heap.size ≤ (⟨w.heap.size + 1, 0, none⟩ : Addr).block from Nat.le_succ _) (.func (.func 87) #[] #[.pointer (some ⟨w.heap.size, 0, none⟩), .pointer (some ⟨w.heap.size + 1, 0, none⟩)])
  have e4 : w.heap.size + 2 ≤ (W2.setCell ⟨w.heap.size + 1, 0, none⟩ (.func (.func 87) #[] #[.pointer (some ⟨w.heap.size, 0, none⟩), .pointer (some ⟨w.heap.size + 1, 0, none⟩)])).heap.size := by
    have h9 := (Array.getElem?_eq_some_iff.1 e1).1
    omega
  clear q1 q2 q3 q4 q5 q6 q7
  generalize W2.setCell ⟨w.heap.size + 1, 0, none⟩ (.func (.func 87) #[] #[.pointer (some ⟨w.heap.size, 0, none⟩), .pointer (some ⟨w.heap.size + 1, 0, none⟩)]) = W3 at *
  have e5 : W3.cell? ⟨w.heap.size + 1, 0, none⟩ = some (.func (.func 87) #[] #[.pointer (some ⟨w.heap.size, 0, none⟩), .pointer (some ⟨w.heap.size + 1, 0, none⟩)]) := (cell_heap e1).trans rfl
  have HD3 := Lib.hid (HD.out W3 ⟨keep s w W3 hs (Nat.le_refl _) e3, e3.mono hB, e4, e2, e5⟩)
  clear e1 e2 e3 e4 HD
  go_wp2_with fail
  refine HD3.out.mono ?_
  rintro e w9 ⟨rfl, hI9, hb9, _⟩
  go_wp2_with fail
  refine bodyPost_end (v := .tuple #[]) (by simp [results, Tryz.results49]) rfl ?_
  exact ⟨rfl, hI9, hb9⟩
end
end Go.Proofs.YtdhbfkbkgjmniaaGreatDoor
