/-
  'add' of package graph, from numbers that hold but need not be the least, with a bound of what comes of them.
-/
import Derived.Test.YtfaebmpdianniaaGWith3
import Derived.Test.YtfaebmpdianniaaGAdd
namespace Go.Proofs.Ytfaebmpdianniaa
open Go Go.RowKit

/-- what add says then -/
def AddPost3 (G : Int) (B0 S OF OU ON N K V0 : Nat) (fo out : Nat → List Edg) (on : Nat → Bool) (xs : List Int) (k : Nat) (w : World) (e : Ending) (w' : World) : Prop :=
  ∃ r : Int, e = .returned (.int .i64 r) ∧ Below B0 w w' ∧ (∀ b, b < w.heap.size → b ≠ S → b ≠ ON → w'.heap[b]? = w.heap[b]?) ∧ (r = 0 ∧ SE w' S OF OU ON N K fo out (fun i => if i = k then true else on i) ∧ (∃ V c ys, VS w' S ON N V c ys ∧ (V = V0 ∨ w.heap.size ≤ V) ∧ Sat (OnG out (fun i => if i = k then true else on i)) (gx ys) ∧ (∀ v, 0 ≤ gx ys v) ∧ ∀ v, gx ys v ≤ G) ∨
    r = 1 ∧ SE w' S OF OU ON N K fo out on ∧ (∃ c, VS w' S ON N V0 c xs) ∧ ∀ y, Sat (OnG out (fun i => if i = k then true else on i)) y → False)

set_option maxRecDepth 100000 in
set_option maxHeartbeats 2000000 in
theorem add3_any (T β : Int) (mm : Nat) (B0 S OF OU ON N K V c : Nat) (fo out : Nat → List Edg) (on : Nat → Bool) (xs : List Int) (k : Nat) (w : World) (hE : SE w S OF OU ON N K fo out on) (hV : VS w S ON N V c xs) (hG : GE N K fo out) (hk : k < K) (hN : N ≤ 2000)
    (hL : Sat (OnG out on) (gx xs)) (hnn : ∀ v, 0 ≤ gx xs v) (hub : ∀ v, gx xs v ≤ T) (hT : T ≤ 40000000) (hβ : 0 ≤ β ∧ β ≤ 2000) (hβ2 : ∀ v, ∀ e ∈ out v, e.b ≤ β) (hmm : (fo k).length ≤ mm) (hB : B0 ≤ S ∧ B0 ≤ ON ∧ B0 ≤ w.heap.size) :
    Calls Try.prog 35 #[.pointer (some ⟨S, 0, none⟩), .int .i64 k] w (AddPost3 (T + β * mm + β * N) B0 S OF OU ON N K V fo out on xs k w) := by
  obtain ⟨B1, B2, B3⟩ := hB
  obtain ⟨A, m, cf, hc, hel, hm, hblk⟩ := hE.f k hk
  obtain ⟨t, ht, hto⟩ := hG.one k hk
  have hon : ∀ e, OnG out (fun i => if i = k then true else on i) e → OnG out on e ∨ e ∈ fo k := fun e he => by
    by_cases h1 : e.k = k
    · exact .inr ((hG.of k hk e).2 ⟨he.1, h1⟩)
    · have h2 := he.2; dsimp only at h2; rw [if_neg h1] at h2; exact .inl ⟨he.1, h2⟩
  have hon2 : ∀ e, OnG out on e ∨ e ∈ fo k → OnG out (fun i => if i = k then true else on i) e := fun e he => by
    rcases he with he | he
    · refine ⟨he.1, ?_⟩
      by_cases h1 : e.k = k
      · simp [h1]
      · simp [h1, he.2]
    · have h1 := (hG.of k hk e).1 he
      exact ⟨h1.1, by simp [h1.2]⟩
  have hlk : (fo k).length = m := hel.1
  have hmb : β * (m : Int) ≤ β * (mm : Int) := Int.mul_le_mul_of_nonneg_left (by omega) hβ.1
  have hwi := with3_any False T β S OU ON N (K + 1) V c out on A m cf (fo k) t xs w hE.sr hG.ok hV.s3 hV.own hel hm.1 hm.2 (fun e he => by
    have h1 := (hG.of k hk e).1 he
    have h2 := hG.ok.ok e.f e h1.1
    refine ⟨Classical.byContradiction fun h3 => ?_, hto e he, by have := h2.2.2.2.1; omega, hβ2 _ e h1.1⟩
    have h4 := hG.ok.hi e.f (by omega)
    have h5 := h1.1
    rw [h4] at h5
    cases h5) hβ hT (fun e he => hβ2 _ e he.1) ht hN ⟨hL, hnn, fun h => h.elim⟩ hub
  have Hwi := Lib.hid hwi
  have Hon := Lib.hid hon
  have Hon2 := Lib.hid hon2
  have s0 := hE.s0
  have hki : (k : Int) < (K : Int) := by omega
  have HE := Lib.hid hE
  have HV := Lib.hid hV
  clear hwi hon hon2 hE hV hel hto
  go_enter Try.func35, Try.ntmps35
  go_wp2_with fail
  refine Hwi.out.mono ?_
  rintro e w1 ⟨r, V1, c1, xs1, rfl, hl1, ho1, hv1, hb1, hr⟩
  have hE1 := HE.out.below hb1
  have hV1 := HV.out.below HE.out.lt.1 hb1
  obtain ⟨l1, l2, l3, l4⟩ := HE.out.lt
  have hVne : V1 ≠ S ∧ V1 ≠ ON := by
    rcases hv1 with rfl | h
    · exact HV.out.ne
    · omega
  rcases hr with ⟨rfl, hL1, hG1⟩ | ⟨rfl, hno⟩
  · have t2 := hE1.s2
    have t3 := hV1.s3
    have t4 := hE1.k k (by omega)
    have t5 := hE1.fr.1
    have t6 := hE1.fr.2 k
    have hki2 : (k : Int) < (K : Int) + 1 := by omega
    have t7 := (World.cell?_setCell_other w1 ⟨S, 3, none⟩ ⟨ON, k, none⟩ (.slice (some ⟨V1, 0, none⟩) N c1) (fun e => hE1.ne.2.2.1 (by injection e))).trans t4
    have hE2 := (hE1.put (.slice (some ⟨V1, 0, none⟩) N c1)).turn (k := k) (by omega)
    have hs3 := World.cell?_setCell_same w1 ⟨S, 3, none⟩ (.slice (some ⟨V1, 0, none⟩) N c1) t3
    have hV2 : VS ((w1.setCell ⟨S, 3, none⟩ (.slice (some ⟨V1, 0, none⟩) N c1)).setCell ⟨ON, k, none⟩ (.bool true)) S ON N V1 c1 xs1 :=
      ⟨(World.cell?_setCell_other _ ⟨ON, k, none⟩ ⟨S, 3, none⟩ _ (fun e => hE1.ne.2.2.1 (by injection e with e1; exact e1.symm))).trans hs3, own_other (own_other ho1 (by simp [Value.ownBlock]; omega) _ _) (by simp [Value.ownBlock]; omega) _ _, hl1, hVne⟩
    have HE2 := Lib.hid hE2
    have HV2 := Lib.hid hV2
    have hbel : Below B0 w ((w1.setCell ⟨S, 3, none⟩ (.slice (some ⟨V1, 0, none⟩) N c1)).setCell ⟨ON, k, none⟩ (.bool true)) := ((hb1.mono B3).setCell B1 _).setCell B2 _
    have Hbel := Lib.hid hbel
    clear hE2 hV2 hbel hs3 t4
    go_wp2_with fail
    go_ret
    exact ⟨0, rfl, Hbel.out, fun b hb h1 h2 => (Below.heap_setCell _ ⟨ON, k, none⟩ _ b h2).trans ((Below.heap_setCell _ ⟨S, 3, none⟩ _ b h1).trans (hb1.block b hb)), .inl ⟨rfl, HE2.out, V1, c1, xs1, HV2.out, hv1, fun e he => hL1.sat e (Hon.out e he), hL1.nn, fun v => by have := hG1 v; omega⟩⟩
  · go_wp2_with fail
    go_ret
    exact ⟨1, rfl, hb1.mono B3, fun b hb _ _ => hb1.block b hb, .inr ⟨rfl, hE1, ⟨c, hV1⟩, fun y hy => hno y (fun e he => hy e (Hon2.out e (.inl he))) fun e he => hy e (Hon2.out e (.inr he))⟩⟩

end Go.Proofs.Ytfaebmpdianniaa
