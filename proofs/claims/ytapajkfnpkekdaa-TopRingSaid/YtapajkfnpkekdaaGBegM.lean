/-
  The rows of a new search of package graph, while they are made.
-/
import Derived.Test.YtapajkfnpkekdaaGSol
import Derived.Deep.AppendLies
namespace Go.Proofs.Ytapajkfnpkekdaa
open Go Go.RowKit

theorem infoEs : (Try.prog.info? 65).map (fun i => (i.zero, i.size, i.bytes)) = some (some (.slice none 0 0), 1, 24) := by kernel_rfl

theorem heap_five (w : World) (a b c d e : Obj) : (((((w.alloc a).alloc b).alloc c).alloc d).alloc e).drew.heap[w.heap.size]? = some a ∧ (((((w.alloc a).alloc b).alloc c).alloc d).alloc e).drew.heap[w.heap.size + 1]? = some b ∧ (((((w.alloc a).alloc b).alloc c).alloc d).alloc e).drew.heap[w.heap.size + 1 + 1]? = some c ∧ (((((w.alloc a).alloc b).alloc c).alloc d).alloc e).drew.heap[w.heap.size + 1 + 1 + 1]? = some d ∧ (((((w.alloc a).alloc b).alloc c).alloc d).alloc e).drew.heap[w.heap.size + 1 + 1 + 1 + 1]? = some e ∧ Below w.heap.size w (((((w.alloc a).alloc b).alloc c).alloc d).alloc e).drew := by
  have z : ∀ (w : World) (o : Obj), (w.alloc o).heap[w.heap.size]? = some o := fun w o => by show (w.heap.push o)[w.heap.size]? = some o; simp
  have k : ∀ (w : World) (o : Obj) (i : Nat) (x : Obj), w.heap[i]? = some x → (w.alloc o).heap[i]? = some x := fun w o i x h => by
    have hi : i < w.heap.size := (Array.getElem?_eq_some_iff.1 h).1
    rw [Below.heap_alloc w o i hi]; exact h
  have s : ∀ (w : World) (o : Obj), (w.alloc o).heap.size = w.heap.size + 1 := fun w o => by simp
  have h1 := z w a
  have h2 := z (w.alloc a) b
  have h3 := z ((w.alloc a).alloc b) c
  have h4 := z (((w.alloc a).alloc b).alloc c) d
  have h5 := z ((((w.alloc a).alloc b).alloc c).alloc d) e
  rw [s] at h2
  rw [s, s] at h3
  rw [s, s, s] at h4
  rw [s, s, s, s] at h5
  exact ⟨k _ _ _ _ (k _ _ _ _ (k _ _ _ _ (k _ _ _ _ h1))), k _ _ _ _ (k _ _ _ _ (k _ _ _ _ h2)), k _ _ _ _ (k _ _ _ _ h3), k _ _ _ _ h4, h5,
    ((((((Below.refl _ w).alloc (Nat.le_refl _) a).alloc (by simp) b).alloc (by simp; omega) c).alloc (by simp; omega) d).alloc (by simp; omega) e).drew⟩

/-- the five blocks of a new search -/
def Five (w : World) (oF oU oB oV : Obj) (K N : Nat) (s : Value) (wx : World) : Prop :=
  ∃ S OF OU ON V : Nat, s = .pointer (some ⟨S, 0, none⟩) ∧ wx.heap[S]? = some (.cells #[.slice (some ⟨OF, 0, none⟩) K K, .slice (some ⟨OU, 0, none⟩) N N, .slice (some ⟨ON, 0, none⟩) (K + 1) (K + 1), .slice (some ⟨V, 0, none⟩) N N] 57) ∧
    wx.heap[OF]? = some oF ∧ wx.heap[OU]? = some oU ∧ wx.heap[ON]? = some oB ∧ wx.heap[V]? = some oV ∧ (S ≠ OF ∧ S ≠ OU ∧ S ≠ ON ∧ S ≠ V ∧ OF ≠ OU ∧ OF ≠ ON ∧ OF ≠ V ∧ OU ≠ ON ∧ OU ≠ V ∧ ON ≠ V) ∧ (w.heap.size ≤ S ∧ w.heap.size ≤ OF ∧ w.heap.size ≤ OU ∧ w.heap.size ≤ ON ∧ w.heap.size ≤ V) ∧ Below w.heap.size w wx

theorem Five.of (w : World) {oF oU oB oV a b c d : Obj} {K N S OF OU ON V : Nat}
    (hF : (((((w.alloc a).alloc b).alloc c).alloc d).alloc (.cells #[.slice (some ⟨OF, 0, none⟩) K K, .slice (some ⟨OU, 0, none⟩) N N, .slice (some ⟨ON, 0, none⟩) (K + 1) (K + 1), .slice (some ⟨V, 0, none⟩) N N] 57)).drew.heap[OF]? = some oF)
    (hU : (((((w.alloc a).alloc b).alloc c).alloc d).alloc (.cells #[.slice (some ⟨OF, 0, none⟩) K K, .slice (some ⟨OU, 0, none⟩) N N, .slice (some ⟨ON, 0, none⟩) (K + 1) (K + 1), .slice (some ⟨V, 0, none⟩) N N] 57)).drew.heap[OU]? = some oU)
    (hB : (((((w.alloc a).alloc b).alloc c).alloc d).alloc (.cells #[.slice (some ⟨OF, 0, none⟩) K K, .slice (some ⟨OU, 0, none⟩) N N, .slice (some ⟨ON, 0, none⟩) (K + 1) (K + 1), .slice (some ⟨V, 0, none⟩) N N] 57)).drew.heap[ON]? = some oB)
    (hV : (((((w.alloc a).alloc b).alloc c).alloc d).alloc (.cells #[.slice (some ⟨OF, 0, none⟩) K K, .slice (some ⟨OU, 0, none⟩) N N, .slice (some ⟨ON, 0, none⟩) (K + 1) (K + 1), .slice (some ⟨V, 0, none⟩) N N] 57)).drew.heap[V]? = some oV)
    (hS : S = w.heap.size + 1 + 1 + 1 + 1) (h : S ≠ OF ∧ S ≠ OU ∧ S ≠ ON ∧ S ≠ V ∧ OF ≠ OU ∧ OF ≠ ON ∧ OF ≠ V ∧ OU ≠ ON ∧ OU ≠ V ∧ ON ≠ V) (hl : w.heap.size ≤ S ∧ w.heap.size ≤ OF ∧ w.heap.size ≤ OU ∧ w.heap.size ≤ ON ∧ w.heap.size ≤ V) :
    Five w oF oU oB oV K N (.pointer (some ⟨S, 0, none⟩)) (((((w.alloc a).alloc b).alloc c).alloc d).alloc (.cells #[.slice (some ⟨OF, 0, none⟩) K K, .slice (some ⟨OU, 0, none⟩) N N, .slice (some ⟨ON, 0, none⟩) (K + 1) (K + 1), .slice (some ⟨V, 0, none⟩) N N] 57)).drew := by
  have hh := heap_five w a b c d (.cells #[.slice (some ⟨OF, 0, none⟩) K K, .slice (some ⟨OU, 0, none⟩) N N, .slice (some ⟨ON, 0, none⟩) (K + 1) (K + 1), .slice (some ⟨V, 0, none⟩) N N] 57)
  subst hS
  exact ⟨_, OF, OU, ON, V, rfl, hh.2.2.2.2.1, hF, hU, hB, hV, h, hl, hh.2.2.2.2.2⟩

def outE (es : List Edg) (v : Nat) : List Edg := es.filter fun e => e.f == v
theorem outE_snoc (es : List Edg) (e : Edg) (v : Nat) : outE (es ++ [e]) v = if e.f = v then outE es v ++ [e] else outE es v := by
  unfold outE
  rw [List.filter_append]
  by_cases h : e.f = v
  · rw [if_pos h]; simp [h]
  · rw [if_neg h]; simp [h]

/-- a new search while it is built: the rows of the constraints up to dn are there, and the edges es lie in the rows of their nodes -/
structure BG (B : Nat) (w wr : World) (S OF OU ON V K N : Nat) (oS oB oV : Obj) (fo : Nat → List Edg) (es : List Edg) (vf va : Nat → Value) (dn : Nat) : Prop where
  bel : Below w.heap.size w wr
  size : B ≤ wr.heap.size
  five : S < B ∧ OF < B ∧ OU < B ∧ ON < B ∧ V < B
  low : w.heap.size ≤ OF ∧ w.heap.size ≤ OU
  ne : S ≠ OF ∧ S ≠ OU ∧ OF ≠ OU ∧ ON ≠ OF ∧ ON ≠ OU ∧ V ≠ OF ∧ V ≠ OU
  hS : wr.heap[S]? = some oS
  hB : wr.heap[ON]? = some oB
  hV : wr.heap[V]? = some oV
  f : ∀ k, k < dn → wr.cell? ⟨OF, k, none⟩ = some (vf k) ∧ wr.ownsRow B 68 4 (vf k) (fo k).length (flat4 (fo k))
  f2 : ∀ k, k < K → ∃ u, wr.cell? ⟨OF, k, none⟩ = some u
  o : ∀ v, v < N → wr.cell? ⟨OU, v, none⟩ = some (va v) ∧ wr.ownsRow B 68 4 (va v) (outE es v).length (flat4 (outE es v))
  d1 : ∀ u v, u < N → v < N → u ≠ v → ∀ g, (va u).ownBlock = some g → (va v).ownBlock ≠ some g
  d2 : ∀ k v, k < dn → v < N → ∀ g, (vf k).ownBlock = some g → (va v).ownBlock ≠ some g
  fz : ∀ i, wr.frozen? ⟨OF, i, none⟩ = false ∧ wr.frozen? ⟨OU, i, none⟩ = false
section
variable {B : Nat} {w wr w' : World} {S OF OU ON V K N : Nat} {oS oB oV : Obj} {fo : Nat → List Edg} {es : List Edg} {vf va : Nat → Value} {dn : Nat}
theorem BG.below (h : BG B w wr S OF OU ON V K N oS oB oV fo es vf va dn) (hb : Below wr.heap.size wr w') : BG B w w' S OF OU ON V K N oS oB oV fo es vf va dn := by
  obtain ⟨l1, l2, l3, l4, l5⟩ := h.five
  have hz := h.size
  have hB : Below B wr w' := hb.mono hz
  exact ⟨h.bel.trans (hb.mono h.bel.size), Nat.le_trans hz hb.size, h.five, h.low, h.ne, (hB.block S l1).trans h.hS, (hB.block ON l4).trans h.hB, (hB.block V l5).trans h.hV,
    fun k hk => ⟨(hB.cell (p := ⟨OF, k, none⟩) l2).trans (h.f k hk).1, own_below (h.f k hk).2 hb⟩, fun k hk => by obtain ⟨u, hu⟩ := h.f2 k hk; exact ⟨u, (hB.cell (p := ⟨OF, k, none⟩) l2).trans hu⟩,
    fun v hv => ⟨(hB.cell (p := ⟨OU, v, none⟩) l3).trans (h.o v hv).1, own_below (h.o v hv).2 hb⟩, h.d1, h.d2, fun i => ⟨(hB.frozen (p := ⟨OF, i, none⟩) l2).trans (h.fz i).1, (hB.frozen (p := ⟨OU, i, none⟩) l3).trans (h.fz i).2⟩⟩
theorem own_ge {base : Nat} {e : TypeId} {size n : Nat} {v : Value} {xs : List Value} (h : wr.ownsRow base e size v n xs) {b : Nat} (hb : b < base) : v.ownBlock ≠ some b := fun e => by have := (h.lt b e).1; omega
theorem BG.store (h : BG B w wr S OF OU ON V K N oS oB oV fo es vf va dn) (hk : dn < K) {v : Value} (hown : wr.ownsRow B 68 4 v (fo dn).length (flat4 (fo dn))) (hnew : ∀ u, u < N → ∀ g, v.ownBlock = some g → (va u).ownBlock ≠ some g) :
    BG B w (wr.setCell ⟨OF, dn, none⟩ v) S OF OU ON V K N oS oB oV fo es (fun i => if i = dn then v else vf i) va (dn + 1) := by
  obtain ⟨l1, l2, l3, l4, l5⟩ := h.five
  obtain ⟨n1, n2, n3, n4, n5, n6, n7⟩ := h.ne
  have hblk : ∀ b, b ≠ OF → (wr.setCell ⟨OF, dn, none⟩ v).heap[b]? = wr.heap[b]? := fun b hb => Below.heap_setCell wr ⟨OF, dn, none⟩ v b hb
  refine ⟨h.bel.setCell h.low.1 _, by rw [World.size_setCell]; exact h.size, h.five, h.low, h.ne, (hblk S n1).trans h.hS, (hblk ON n4).trans h.hB, (hblk V n6).trans h.hV, fun k hk' => ?_, fun k hk' => ?_, fun u hu => ?_, h.d1, fun k u hk' hu g hg => ?_, fun i => by rw [World.frozen?_setCell, World.frozen?_setCell]; exact h.fz i⟩
  · by_cases hkd : k = dn
    · subst hkd
      rw [if_pos rfl]
      obtain ⟨u, hu⟩ := h.f2 k hk
      exact ⟨World.cell?_setCell_same wr ⟨OF, k, none⟩ v hu, own_other hown (own_ge hown l2) _ _⟩
    · rw [if_neg hkd]
      have h1 := h.f k (by omega)
      exact ⟨keep_off (Ne.symm hkd) h1.1, own_other h1.2 (own_ge h1.2 l2) _ _⟩
  · obtain ⟨u, hu⟩ := h.f2 k hk'
    by_cases hkd : k = dn
    · subst hkd; exact ⟨v, World.cell?_setCell_same wr ⟨OF, k, none⟩ v hu⟩
    · exact ⟨u, keep_off (Ne.symm hkd) hu⟩
  · have h1 := h.o u hu
    exact ⟨keep_set (Ne.symm n3) h1.1, own_other h1.2 (own_ge h1.2 l2) _ _⟩
  · by_cases hkd : k = dn
    · subst hkd; rw [if_pos rfl] at hg; exact hnew u hu g hg
    · rw [if_neg hkd] at hg; exact h.d2 k u (by omega) hu g hg
theorem BG.app (h : BG B w wr S OF OU ON V K N oS oB oV fo es vf va dn) {e : Edg} (he : e.f < N) {v5 : Value} (hg : wr.grownBy w' (va e.f).ownBlock) (hown : w'.ownsRow B 68 4 v5 (outE es e.f ++ [e]).length (flat4 (outE es e.f ++ [e])))
    (hb : (va e.f).ownBlock = v5.ownBlock ∨ v5.ownBlock = some wr.heap.size) :
    BG B w (w'.setCell ⟨OU, e.f, none⟩ v5) S OF OU ON V K N oS oB oV fo (es ++ [e]) vf (fun i => if i = e.f then v5 else va i) dn := by
  obtain ⟨l1, l2, l3, l4, l5⟩ := h.five
  obtain ⟨n1, n2, n3, n4, n5, n6, n7⟩ := h.ne
  have hz := h.size
  have hrow : ∀ b, b < B → (va e.f).ownBlock ≠ some b := fun b hb => own_ge (h.o e.f he).2 hb
  have hb0 : ∀ b, b < B → w'.heap[b]? = wr.heap[b]? := fun b hb => hg.block b (by omega) (fun e => hrow b hb e.symm)
  have hblk : ∀ b, b < B → b ≠ OU → (w'.setCell ⟨OU, e.f, none⟩ v5).heap[b]? = wr.heap[b]? := fun b hb hn => (Below.heap_setCell w' ⟨OU, e.f, none⟩ v5 b hn).trans (hb0 b hb)
  have hbel : Below w.heap.size w w' := h.bel.grown hg h.bel.size (fun j hj => by
    have h1 := ((h.o e.f he).2.lt j hj).1
    have h2 := h.low.1
    omega)
  have hlt : ∀ u, u < N → ∀ g, (va u).ownBlock = some g → g < wr.heap.size := fun u hu g hg' => ((h.o u hu).2.lt g hg').2
  refine ⟨hbel.setCell h.low.2 _, by rw [World.size_setCell]; exact Nat.le_trans hz hg.size, h.five, h.low, h.ne, (hblk S l1 n2).trans h.hS, (hblk ON l4 n5).trans h.hB, (hblk V l5 n7).trans h.hV, fun k hk => ?_, fun k hk => ?_, fun u hu => ?_, fun u v hu hv huv g hg' => ?_, fun k u hk hu g hg' => ?_, fun i => ?_⟩
  · have h1 := h.f k hk
    exact ⟨(World.cell?_of_block (hblk OF l2 n3)).trans h1.1, own_other (own_grown h1.2 hg (fun j hj hj2 => h.d2 k e.f hk he j hj2 hj)) (own_ge h1.2 l3) _ _⟩
  · obtain ⟨u, hu⟩ := h.f2 k hk
    exact ⟨u, (World.cell?_of_block (hblk OF l2 n3)).trans hu⟩
  · have h1 := h.o u hu
    have h2 : w'.cell? ⟨OU, u, none⟩ = some (va u) := (World.cell?_of_block (hb0 OU l3)).trans h1.1
    by_cases hue : u = e.f
    · subst hue
      rw [if_pos rfl, outE_snoc, if_pos rfl]
      exact ⟨World.cell?_setCell_same w' ⟨OU, e.f, none⟩ v5 h2, own_other hown (own_ge hown l3) _ _⟩
    · rw [if_neg hue, outE_snoc, if_neg (Ne.symm hue)]
      exact ⟨keep_off (Ne.symm hue) h2, own_other (own_grown h1.2 hg (fun j hj hj2 => h.d1 u e.f hu he hue j hj2 hj)) (own_ge h1.2 l3) _ _⟩
  · by_cases hue : u = e.f
    · rw [if_pos hue] at hg'
      rw [if_neg (fun hve => huv (hue.trans hve.symm))]
      rcases hb with hb | hb
      · rw [← hb] at hg'; exact h.d1 e.f v he hv (fun hh => huv (hue.trans hh)) g hg'
      · rw [hb] at hg'; injection hg' with hg'; intro h9; have := hlt v hv g h9; omega
    · rw [if_neg hue] at hg'
      by_cases hve : v = e.f
      · rw [if_pos hve]
        rcases hb with hb | hb
        · rw [← hb]; exact h.d1 u e.f hu he hue g hg'
        · rw [hb]; intro h9; injection h9 with h9; have := hlt u hu g hg'; omega
      · rw [if_neg hve]; exact h.d1 u v hu hv huv g hg'
  · by_cases hue : u = e.f
    · rw [if_pos hue]
      rcases hb with hb | hb
      · rw [← hb]; exact h.d2 k e.f hk he g hg'
      · rw [hb]; intro h9; injection h9 with h9; have := ((h.f k hk).2.lt g hg').2; omega
    · rw [if_neg hue]; exact h.d2 k u hk hu g hg'
  · rw [World.frozen?_setCell, World.frozen?_setCell]
    exact ⟨(World.frozen?_of_block (hb0 OF l2)).trans (h.fz i).1, (World.frozen?_of_block (hb0 OU l3)).trans (h.fz i).2⟩
end
end Go.Proofs.Ytapajkfnpkekdaa
