/-
  'needed' of package graph.
-/
import Derived.Test.YtapajkfnpkekdaaGNeedM
import Derived.Test.YtapajkfnpkekdaaConAll
import Derived.Test.YtapajkfnpkekdaaShelf5
import Derived.Shelf.Sort.Plain
import Derived.Sort.OwnSortedInts
namespace Go.Proofs.Ytapajkfnpkekdaa
open Go Go.RowKit Go.Shelf

theorem SE.turnB {w : World} {S OF OU ON N K : Nat} {fo out : Nat → List Edg} {on : Nat → Bool} (h : SE w S OF OU ON N K fo out on) {k : Nat} (hk : k < K + 1) (b : Bool) : SE (w.setCell ⟨ON, k, none⟩ (.bool b)) S OF OU ON N K fo out (fun i => if i = k then b else on i) :=
  h.keep (by rw [World.size_setCell]; exact Nat.le_refl _) (fun b i _ _ h1 => World.cell?_setCell_other w ⟨ON, k, none⟩ ⟨b, i, none⟩ _ (fun e => h1 (by injection e with e1; exact e1.symm))) (fun i _ => World.cell?_setCell_other w ⟨ON, k, none⟩ ⟨S, i, none⟩ _ (fun e => h.ne.2.2.1 (by injection e with e1; exact e1.symm)))
    (fun i hi => by
      by_cases hik : i = k
      · subst hik; rw [if_pos rfl]; exact World.cell?_setCell_same w ⟨ON, i, none⟩ _ (h.k i hi)
      · rw [if_neg hik]; exact (World.cell?_setCell_other w ⟨ON, k, none⟩ ⟨ON, i, none⟩ _ (fun e => hik (by injection e with _ e2; exact e2.symm))).trans (h.k i hi)) ⟨by rw [World.frozen?_setCell]; exact h.fr.1, fun k => by rw [World.frozen?_setCell]; exact h.fr.2 k⟩
/-- the search in a later world, of which nothing but the search itself and newer memory is another one -/
theorem SE.far {w0 wr w' : World} {S OF OU ON N K : Nat} {fo out : Nat → List Edg} {on0 on : Nat → Bool} (h0 : SE w0 S OF OU ON N K fo out on0) (h : SE wr S OF OU ON N K fo out on) (hs : w0.heap.size ≤ wr.heap.size) (hk : ∀ b, b < w0.heap.size → b ≠ S → b ≠ ON → wr.heap[b]? = w0.heap[b]?) (hb : Below w0.heap.size wr w') : SE w' S OF OU ON N K fo out on ∧ ∀ b, b < w0.heap.size → b ≠ S → b ≠ ON → w'.heap[b]? = w0.heap[b]? := by
  obtain ⟨l1, l2, l3, l4⟩ := h0.lt
  have hk' : ∀ b, b < w0.heap.size → b ≠ S → b ≠ ON → w'.heap[b]? = w0.heap[b]? := fun b h1 h2 h3 => (hb.block b h1).trans (hk b h1 h2 h3)
  refine ⟨h0.keep (Nat.le_trans hs hb.size) (fun b i h1 h2 h3 => World.cell?_of_block (a := ⟨b, i, none⟩) (hk' b h1 h2 h3)) (fun i hi => ?_) (fun k hk => (hb.cell (p := ⟨ON, k, none⟩) l4).trans (h.k k hk)) ⟨(hb.frozen (p := ⟨S, 3, none⟩) l1).trans h.fr.1, fun k => (hb.frozen (p := ⟨ON, k, none⟩) l4).trans (h.fr.2 k)⟩, hk'⟩
  have e : w'.cell? ⟨S, i, none⟩ = wr.cell? ⟨S, i, none⟩ := hb.cell (p := ⟨S, i, none⟩) l1
  match i, hi with
  | 0, _ => rw [e, h.s0, h0.s0]
  | 1, _ => rw [e, h.s1, h0.s1]
  | 2, _ => rw [e, h.s2, h0.s2]
theorem own_far {w w' : World} {base : Nat} {e : TypeId} {size n : Nat} {v : Value} {xs : List Value} (h : w.ownsRow base e size v n xs) (hk : ∀ g, v.ownBlock = some g → w'.heap[g]? = w.heap[g]?) : w'.ownsRow base e size v n xs :=
  ⟨h.1, h.2.imp id fun ⟨g, cap, cur, e1, e2, e3, e4⟩ => ⟨g, cap, cur, e1, e2, (hk g (by rw [e1]; rfl)).trans e3, e4⟩⟩
theorem VS.far {w w' : World} {S ON N V c : Nat} {xs : List Int} (h : VS w S ON N V c xs) (hS : w'.heap[S]? = w.heap[S]?) (hV : w'.heap[V]? = w.heap[V]?) : VS w' S ON N V c xs :=
  ⟨(World.cell?_of_block (a := ⟨S, 3, none⟩) hS).trans h.s3, own_far h.own fun g hg => by simp only [Value.ownBlock, Option.some.injEq] at hg; rw [← hg]; exact hV, h.len, h.ne⟩
/-- different numbers below K are at most K -/
theorem nodup_len : ∀ {K : Nat} {l : List Nat}, (∀ i ∈ l, i < K) → l.Nodup → l.length ≤ K
  | 0, l, h, _ => by
    cases l with
    | nil => exact Nat.le_refl _
    | cons a l => have := h a (by simp); omega
  | K + 1, l, h, hn => by
    by_cases hK : K ∈ l
    · have h1 : (l.erase K).length ≤ K := nodup_len (fun i hi => by
        have h2 := (hn.mem_erase_iff).1 hi
        have h3 := h i h2.2
        have h4 := h2.1
        omega) (hn.erase K)
      rw [List.length_erase_of_mem hK] at h1
      omega
    · have h1 : l.length ≤ K := nodup_len (fun i hi => by
        have h3 := h i hi
        have h4 : i ≠ K := fun e => hK (e ▸ hi)
        omega) hn
      omega
/-- slices.Sort at a row of one's own -/
theorem sort_own {w : World} {base g n c : Nat} {l : List Int} (hn : l.length = n) (h : w.ownsRow base 3 1 (.slice (some ⟨g, 0, none⟩) n c) n (int1 l)) (hl : n ≤ 100000) :
    Calls Try.prog 26 #[.slice (some ⟨g, 0, none⟩) n c] w fun e w' => e = .returned (.tuple #[]) ∧ IL w' w'.heap.size (some ⟨g, 0, none⟩) n (l.mergeSort fun x y => decide (x ≤ y)) ∧ Below base w w' := by
  subst hn
  have hgl := own_lt h
  rcases h.2 with ⟨h0, _⟩ | ⟨g', cap, cur, h0, hb, hg, hc, hm, hs, ht⟩
  · cases h0
  · cases h0
    rw [Nat.mul_one] at ht
    refine (Any.slices_Sort_int Try.laySortI g 0 c l w (holds_of_blockI hg ht) hgl.2 (by omega)).mono ?_
    rintro e w' ⟨rfl, m, os, rfl⟩
    have hlen : (l.mergeSort fun x y => decide (x ≤ y)).length = l.length := List.length_mergeSort _
    have hown := ownsRow_sortedI (n := m) (os := os) hlen hb hg hc hm hs
    refine ⟨rfl, own_il hown (own_lt hown).2, ?_⟩
    exact (Below.refl _ w).grown (grownBy_sortedI _) (by omega) fun j hj => by cases hj; exact hb

set_option maxRecDepth 100000 in
set_option maxHeartbeats 4000000 in
theorem needed_any (T β : Int) (mm : Nat) (B0 S OF OU ON N K V c : Nat) (fo out : Nat → List Edg) (on : Nat → Bool) (xs : List Int) (last : Nat) (w : World) (hE : SE w S OF OU ON N K fo out on) (hV : VS w S ON N V c xs) (hG : GE N K fo out) (hk : last < K) (hK : K ≤ 3000) (hN : N ≤ 2000)
    (hL : Sat (OnG out on) (gx xs)) (hnn : ∀ v, 0 ≤ gx xs v) (hub : ∀ v, gx xs v ≤ T) (hβ : 0 ≤ β ∧ β ≤ 2000) (hβ2 : ∀ v, ∀ e ∈ out v, e.b ≤ β) (hmm : ∀ k, k < K → (fo k).length ≤ mm) (hT : T + (β * mm + β * N) * last ≤ 40000000)
    (hon : ∀ i, i < K → (on i = true ↔ i < last)) (hz : on K = true) (hno : ∀ y, Sat (OnG out (ndU on last)) y → False) (hB : B0 ≤ S ∧ B0 ≤ ON ∧ B0 ≤ w.heap.size) :
    Calls Try.prog 19 #[.pointer (some ⟨S, 0, none⟩), .int .i64 last] w fun e w' => ∃ A c' ls a on', e = .returned (.slice A ls.length c') ∧ IL w' w'.heap.size A ls.length (srt ls) ∧ Nd out K last last a ls on' ∧ Below B0 w w' := by
  obtain ⟨i0, hi, hz0, hz1, hz2⟩ := info_parts infoI
  obtain ⟨l1, l2, l3, l4⟩ := hE.lt
  obtain ⟨B1, B2, B3⟩ := hB
  have hnd0 : Nd out K last 0 last [last] on := by
    refine ⟨hno, by simp, hz, fun i hi => ?_, fun x hx => ?_, fun x hx => .inl (List.mem_singleton.1 hx), by simp, hk, fun v e he => (hG.ok.ok v e he).2.2.1⟩
    · unfold ndU
      by_cases h1 : i = last
      · subst h1; simp
      · rw [if_neg h1, hon i hi]
        simp [h1]
    · rw [List.mem_singleton.1 hx]
      refine ⟨gx xs, fun e he => hL e ⟨he.1, ?_⟩⟩
      have h1 := he.2
      unfold ndO ndU at h1
      split at h1
      · cases h1
      · exact h1
  have HE0 := Lib.hid hE
  have hstep : ∀ k : Nat, (β * mm + β * N) * ((k + 1 : Nat) : Int) = (β * mm + β * N) * k + (β * mm + β * N) := fun k => by rw [Int.natCast_add, Int.mul_add]; simp
  have hD : 0 ≤ β * (mm : Int) + β * (N : Int) := by
    have h1 := Int.mul_nonneg hβ.1 (show (0 : Int) ≤ (mm : Int) by omega)
    have h2 := Int.mul_nonneg hβ.1 (show (0 : Int) ≤ (N : Int) by omega)
    omega
  have hTk : ∀ k : Nat, k ≤ last → T + (β * mm + β * N) * k ≤ 40000000 := fun k hk => by
    have := Int.mul_le_mul_of_nonneg_left (show (k : Int) ≤ (last : Int) by omega) hD
    omega
  have HD := Lib.hid hD
  have Hstep := Lib.hid hstep
  have HTk := Lib.hid hTk
  have Hmm := Lib.hid hmm
  have HGo := Lib.hid hG
  have Hb2 := Lib.hid hβ2
  clear hstep hTk hno hon hD hmm hG hβ2 hT
  go_enter Try.func19, Try.ntmps19
  go_wp2_with fail
  have hX : Below w.heap.size w (w.alloc (.cells #[.int .i64 last] 3)) := (Below.refl _ w).alloc (Nat.le_refl _) _
  have hh1 : (w.alloc (.cells #[.int .i64 last] 3)).heap[w.heap.size]? = some (.cells #[.int .i64 last] 3 (0, 0)) := by
    show (w.heap.push _)[w.heap.size]? = _
    rw [Array.getElem?_push]
    simp
  have hown0 : (w.alloc (.cells #[.int .i64 last] 3)).ownsRow w.heap.size 3 1 (.slice (some ⟨w.heap.size, 0, none⟩) 1 1) 1 (int1 ([last].map fun i : Nat => (i : Int))) :=
    ⟨by simp [int1], .inr ⟨w.heap.size, 1, _, rfl, Nat.le_refl _, hh1, Nat.le_refl _, by unfold maxLen; omega, by simp, by simp [int1]⟩⟩
  have hVl : V < w.heap.size := (own_lt hV.own).2
  have hE1 := hE.below hX
  have hV1 := hV.below l1 hX
  go_loopw [5, 6, 7, 12] (fun l av kk i wr => ∃ k : Nat, k ≤ last ∧ i = .int .i64 k ∧ ∃ (an g cg m : Nat) (ls : List Nat) (on' : Nat → Bool) (V' c' : Nat) (ys : List Int), av = .int .i64 an ∧ l = .slice (some ⟨g, 0, none⟩) m cg ∧ ls.length = m ∧ wr.ownsRow w.heap.size 3 1 (.slice (some ⟨g, 0, none⟩) m cg) m (int1 (ls.map fun i : Nat => (i : Int))) ∧ g ≠ V' ∧ SE wr S OF OU ON N K fo out on' ∧ (∀ b, b < w.heap.size → b ≠ S → b ≠ ON → wr.heap[b]? = w.heap[b]?) ∧ VS wr S ON N V' c' ys ∧ Sat (OnG out on') (gx ys) ∧ (∀ v, 0 ≤ gx ys v) ∧ (∀ v, gx ys v ≤ T + (β * mm + β * N) * k) ∧ Nd out K last k an ls on' ∧ Below B0 w wr ∧ w.heap.size ≤ wr.heap.size) (fun _ _ _ i _ => last - (intOf i).toNat)
  case atStart => exact ⟨0, Nat.zero_le _, rfl, last, w.heap.size, 1, 1, [last], on, V, c, xs, rfl, rfl, rfl, hown0, by omega, hE1, fun b hb _ _ => hX.block b hb, hV1, hL, hnn, fun v => by have := hub v; simp; omega, hnd0, hX.mono B3, hX.size⟩
  case round =>
    clear hown0 hE1 hV1 hh1 hX hE hV hL hnn hub hnd0
    obtain ⟨k, hkl, rfl, an, g, cg, m, ls, on', V', c', ys, rfl, rfl, hlm, hown, hgV, hE, hkeep, hV, hL, hnn, hub, hnd, hbel, hsz⟩ := hrel
    have hgl := own_lt hown
    by_cases hlt : k < last
    · have hki : (k : Int) < (last : Int) := by omega
      have hki2 : (k : Int) < (K : Int) + 1 := by omega
      have t2 := hE.s2
      have t4 := hE.k k (by omega)
      have t6 := hE.fr.2 k
      have hE2 := hE.turnB (k := k) (by omega) false
      have hgON : g ≠ ON := by omega
      have hgS : g ≠ S := by omega
      have hSON := hE.ne.2.2.1
      have hV2 : VS (wr.setCell ⟨ON, k, none⟩ (.bool false)) S ON N V' c' ys := hV.far (Below.heap_setCell wr ⟨ON, k, none⟩ _ S hSON) (Below.heap_setCell wr ⟨ON, k, none⟩ _ V' hV.ne.2)
      have hown2 := own_far (w' := wr.setCell ⟨ON, k, none⟩ (.bool false)) hown (fun g' hg' => by simp only [Value.ownBlock, Option.some.injEq] at hg'; rw [← hg']; exact Below.heap_setCell wr ⟨ON, k, none⟩ _ g hgON)
      have hkeep2 : ∀ b, b < w.heap.size → b ≠ S → b ≠ ON → (wr.setCell ⟨ON, k, none⟩ (.bool false)).heap[b]? = w.heap[b]? := fun b h1 h2 h3 => (Below.heap_setCell wr ⟨ON, k, none⟩ _ b h3).trans (hkeep b h1 h2 h3)
      have hL2 : Sat (OnG out (ndO on' k)) (gx ys) := sat_mono hnd.he (fun i _ hp => by
        unfold ndO at hp
        split at hp
        · cases hp
        · exact hp) hL
      have hbel2 : Below B0 w (wr.setCell ⟨ON, k, none⟩ (.bool false)) := hbel.setCell B2 _
      have hsz2 : w.heap.size ≤ (wr.setCell ⟨ON, k, none⟩ (.bool false)).heap.size := by rw [World.size_setCell]; exact hsz
      have hgl2 : g < (wr.setCell ⟨ON, k, none⟩ (.bool false)).heap.size := by rw [World.size_setCell]; exact hgl.2
      have hVl2 : V' < (wr.setCell ⟨ON, k, none⟩ (.bool false)).heap.size := (own_lt hV2.own).2
      have hanK : an < K := by rcases hnd.lt an hnd.mem with h1 | h1 <;> omega
      have hA := Lib.hid (add3_any (T + (β * mm + β * N) * k) β mm B0 S OF OU ON N K V' c' fo out (ndO on' k) ys an _ hE2 hV2 HGo.out hanK hN hL2 hnn hub (HTk.out k hkl) hβ Hb2.out (Hmm.out an hanK) ⟨B1, B2, Nat.le_trans B3 hsz2⟩)
      have Hnd := Lib.hid hnd
      have Hst := Hstep.out k
      have hLk := Lib.hid hL
      clear hE hV hown hkeep hL hL2 hnd hE2
      go_wp2_with fail
      generalize wr.setCell ⟨ON, k, none⟩ (.bool false) = W1 at *
      refine hA.out.mono ?_
      rintro e w2 ⟨r, rfl, hb2, hblk, hr⟩
      have hbel3 : Below B0 w w2 := hbel2.trans hb2
      have hown3 := own_far (w' := w2) hown2 (fun g' hg' => by simp only [Value.ownBlock, Option.some.injEq] at hg'; rw [← hg']; exact hblk g hgl2 hgS hgON)
      have hkeep3 : ∀ b, b < w.heap.size → b ≠ S → b ≠ ON → w2.heap[b]? = w.heap[b]? := fun b h1 h2 h3 => (hblk b (by omega) h2 h3).trans (hkeep2 b h1 h2 h3)
      have hsz3 : w.heap.size ≤ w2.heap.size := Nat.le_trans hsz2 hb2.size
      clear hown2 hkeep2 hbel2 hA
      rcases hr with ⟨rfl, hE3, V3, c3, zs, hV3, hVV, hL3, hnn3, hub3⟩ | ⟨rfl, hE3, ⟨c3, hV3⟩, hno3⟩
      · have hnd3 := Hnd.out.yes hlt hL3
        have hgV3 : g ≠ V3 := by
          rcases hVV with rfl | h1
          · exact hgV
          · omega
        have hVl3 : V3 < w2.heap.size := (own_lt hV3.own).2
        have hX4 : Below w2.heap.size w2 (w2.alloc (.cells #[.int .i64 k] 3)) := (Below.refl _ w2).alloc (Nat.le_refl _) _
        have hown4 := own_below hown3 hX4
        have hss : (w2.alloc (.cells #[.int .i64 k] 3)).heap.size = w2.heap.size + 1 := by simp
        have hlsb : m ≤ 100000 := by
          have h1 := hnd3.nd
          have h2 : ls.length ≤ K := nodup_len (fun i hi => by rcases Hnd.out.lt i hi with h3 | h3 <;> omega) Hnd.out.nd
          omega
        clear hown3
        go_wp2_with (at_builtin; refine wpList_append_lies _ rfl _ _ 33 rfl w.heap.size 3 i0 (.int .i64 0) 1 8 Try.underlying33 hi hz0 hz1 hz2 rfl (by decide) _ m (int1 (ls.map fun i : Nat => (i : Int))) rfl hown4 ⟨w2.heap.size, 0, none⟩ 1 1 [.int .i64 k] rfl rfl (newI rfl) newI_one (by omega) (by unfold maxLen; omega) (by omega) (by rw [hss]; omega) (w2.heap.size + 1) hss ?_)
        intro g5 c5 w5 hown5 hgr5 hg5 hlt5
        have hb5 : Below w.heap.size w2 w5 := ((hX4.mono hsz3).grown hgr5 (by rw [hss]; omega) fun j hj => by simp only [Value.ownBlock, Option.some.injEq] at hj; omega)
        obtain ⟨hE5, hkeep5⟩ := HE0.out.far hE3 hsz3 hkeep3 hb5
        have hV5 : VS w5 S ON N V3 c3 zs := hV3.far (hb5.block S l1) (by
          have h1 := hgr5.block V3 (by rw [hss]; omega) (by simp only [Value.ownBlock]; intro e; injection e with e; exact hgV3 e.symm)
          exact h1.trans (hX4.block V3 hVl3))
        have hgV5 : g5 ≠ V3 := by
          rcases hg5 with h1 | h1
          · simp only [Value.ownBlock, Option.some.injEq] at h1; omega
          · omega
        have hown6 : w5.ownsRow w.heap.size 3 1 (.slice (some ⟨g5, 0, none⟩) (m + 1) c5) (m + 1) (int1 ((ls ++ [k]).map fun i : Nat => (i : Int))) := by
          rw [List.map_append, int1_app]; exact hown5
        clear hown5 hgr5 hg5 hown4 hE3 hV3
        go_wp2_with fail
        go_roundw
        case rel => exact ⟨k + 1, by omega, by go_num, k, g5, c5, m + 1, ls ++ [k], _, V3, c3, zs, rfl, rfl, by simp; exact hlm, hown6, hgV5, hE5, hkeep5, hV5, hL3, hnn3, fun v => by have := hub3 v; omega, hnd3, hbel3.trans (hb5.mono B3), Nat.le_trans hsz3 hb5.size⟩
        case measure => simp [intOf]; omega
      · have hnd3 := Hnd.out.not hlt hno3
        go_wp2_with fail
        go_roundw
        case rel => exact ⟨k + 1, by omega, by go_num, an, g, cg, m, ls, _, V', c3, ys, rfl, rfl, hlm, hown3, hgV, hE3, hkeep3, hV3, sat_mono Hnd.out.he (fun i _ hp => by
            unfold ndO at hp
            split at hp
            · cases hp
            · exact hp) hLk.out, hnn, fun v => by have := hub v; have := HD.out; omega, hnd3, hbel3, hsz3⟩
        case measure => simp [intOf]; omega
    · obtain rfl : k = last := by omega
      have hki : ¬ (k : Int) < (k : Int) := by omega
      have hlsb : m ≤ 100000 := by
        have h2 : ls.length ≤ K := nodup_len (fun i hi => by rcases hnd.lt i hi with h3 | h3 <;> omega) hnd.nd
        omega
      have hS := Lib.hid (sort_own (by rw [List.length_map]; exact hlm) hown hlsb)
      clear hown
      go_wp2_with fail
      refine hS.out.mono ?_
      rintro e w2 ⟨rfl, hI, hb2⟩
      go_wp2_with fail
      go_ret
      subst hlm
      exact ⟨_, _, ls, an, on', rfl, hI, hnd, hbel.trans (hb2.mono B3)⟩
end Go.Proofs.Ytapajkfnpkekdaa
