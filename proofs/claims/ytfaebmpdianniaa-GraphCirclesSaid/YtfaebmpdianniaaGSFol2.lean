/-
  'follows' of the search of package graph, from numbers that hold but need not be the least.
-/
import Derived.Test.YtfaebmpdianniaaGSFol
import Derived.Test.YtfaebmpdianniaaGWith2
namespace Go.Proofs.Ytfaebmpdianniaa
open Go Go.RowKit

set_option maxRecDepth 100000 in
set_option maxHeartbeats 4000000 in
theorem sfollows2_any (S OF OU ON N K V c : Nat) (fo out : Nat → List Edg) (on : Nat → Bool) (xs : List Int) (k : Nat) (w : World) (hE : SE w S OF OU ON N K fo out on) (hV : VS w S ON N V c xs) (hG : GE N K fo out) (hk : k < K) (hN : N ≤ 2000)
    (hL : Lsw False (OnG out on) (gx xs)) (hub : ∀ v, gx xs v ≤ 2000000) :
    Calls Try.prog 33 #[.pointer (some ⟨S, 0, none⟩), .int .i64 k] w fun e w' => e = .returned (.bool (folB (Sat (OnG out on)) (fo k))) ∧ Below w.heap.size w w' := by
  obtain ⟨A, m, cf, hc, hel, hm, hblk⟩ := hE.f k hk
  have HE := Lib.hid hE
  have HV := Lib.hid hV
  have HG := Lib.hid hG
  have HL := Lib.hid hL
  have Hub := Lib.hid hub
  have s0 := hE.s0
  have hSl := hE.lt.1
  have hki : (k : Int) < (K : Int) := by omega
  have hml : (fo k).length = m := hel.1
  clear hE hV hG hL hub
  go_enter Try.func33, Try.ntmps33
  go_wp2_with fail
  go_loopw [18] (fun i wr => ∃ j : Nat, j ≤ m ∧ i = .int .i64 j ∧ (∀ e ∈ (fo k).take j, ∀ y, Sat (OnG out on) y → hol y e) ∧ Below w.heap.size w wr) (fun i _ => m - (intOf i).toNat)
  case atStart => exact ⟨0, Nat.zero_le _, rfl, fun e he => by simp at he, Below.refl _ _⟩
  case round =>
    obtain ⟨j, hj, rfl, hdone, hbr⟩ := hrel
    have HD := Lib.hid hdone
    clear hdone
    by_cases hlt : j < m
    · obtain ⟨b, off, e, rfl, hbl, he, h0, h1, h2, h3⟩ := (hel.below hbr).at_ hlt
      have hmem := List.mem_of_getElem? he
      have Hst : Hid ((fo k).take (j + 1) = (fo k).take j ++ [e]) := take_snoc he
      have hoe : e ∈ out e.f ∧ e.k = k := (HG.out.of k hk e).1 hmem
      obtain ⟨q1, q2, q3, q4, q5⟩ := HG.out.ok.ok e.f e hoe.1
      have hf : e.f < N := Classical.byContradiction fun h3 => by
        have h4 := HG.out.ok.hi e.f (by omega)
        have h5 := hoe.1
        rw [h4] at h5
        cases h5
      have Hmem := Lib.hid hmem
      have hWb : Below wr.heap.size wr (((wr.alloc (.cells #[.int .i64 e.f, .int .i64 e.t, .int .i64 e.b, .int .i64 e.k] 93)).alloc (.cells #[.int .i64 e.t, .int .i64 e.f, .int .i64 (1 - e.b), .int .i64 0] 93)).alloc (.cells #[.int .i64 e.t, .int .i64 e.f, .int .i64 (1 - e.b), .int .i64 0] 93)) := (((Below.refl _ wr).alloc (Nat.le_refl _) _).alloc (by simp) _).alloc (by simp; omega) _
      have hW := el_one ((wr.alloc (.cells #[.int .i64 e.f, .int .i64 e.t, .int .i64 e.b, .int .i64 e.k] 93)).alloc (.cells #[.int .i64 e.t, .int .i64 e.f, .int .i64 (1 - e.b), .int .i64 0] 93)) e.t e.f (1 - e.b) 93
      have hsz : ((wr.alloc (.cells #[.int .i64 e.f, .int .i64 e.t, .int .i64 e.b, .int .i64 e.k] 93)).alloc (.cells #[.int .i64 e.t, .int .i64 e.f, .int .i64 (1 - e.b), .int .i64 0] 93)).heap.size = wr.heap.size + 1 + 1 := by simp
      rw [hsz] at hW
      clear hsz
      have hbW := hbr.trans (hWb.mono hbr.size)
      have hE2 := HE.out.below hbW
      have hV2 := HV.out.below hSl hbW
      have hwi := with2_any False S OU ON N (K + 1) V c out on _ 1 1 [⟨e.t, e.f, 1 - e.b, 0⟩] e.f xs _ hE2.sr HG.out.ok hV2.s3 hV2.own hW (by omega) (by omega) (fun x hx => by
        rw [List.mem_singleton.1 hx]
        exact ⟨by show e.t < N; omega, rfl, by show -2000 ≤ 1 - e.b; omega, by show 1 - e.b ≤ 2000; omega⟩) hf hN HL.out Hub.out
      have Hwi := Lib.hid hwi
      have hbw : b < wr.heap.size := by have := hbr.size; omega
      clear hwi hE2 hV2 hW he hmem hoe
      go_wp2_with fail
      with_reducible refine Hwi.out.mono ?_
      rintro x w1 ⟨r, V1, cV, xs1, rfl, _, _, _, hb1, hr⟩
      have hbr1 := hbW.trans (hb1.mono hbW.size)
      rcases hr with ⟨rfl, hL1⟩ | ⟨rfl, hno⟩
      · have Hno : Hid (folB (Sat (OnG out on)) (fo k) = false) := folB_false fun hall => by
          have h1 := hall (gx xs1) (fun x hx => hL1.sat x (.inl hx)) e Hmem.out
          have h2 := hL1.sat ⟨e.t, e.f, 1 - e.b, 0⟩ (.inr (by simp))
          unfold hol at h1 h2
          dsimp only at h2
          omega
        clear hL1
        go_wp2_with fail
        go_ret
        exact ⟨ret_bool Hno.out.symm, hbr1⟩
      · have Hyes : Hid (∀ x ∈ (fo k).take (j + 1), ∀ y, Sat (OnG out on) y → hol y x) := fun x hx y hy => by
          rw [Hst.out] at hx
          rcases List.mem_append.1 hx with hx | hx
          · exact HD.out x hx y hy
          · rw [List.mem_singleton.1 hx]
            refine Classical.byContradiction fun hn => hno y hy fun z hz => ?_
            rw [List.mem_singleton.1 hz]
            unfold hol at hn ⊢
            dsimp only
            omega
        clear hno
        go_wp2_with fail
        go_roundw
        case rel => exact ⟨j + 1, by omega, by go_num, Hyes.out, hbr1⟩
        case measure => simp [intOf]; omega
    · have Hall : Hid (folB (Sat (OnG out on)) (fo k) = true) := folB_iff.2 fun y hy e he => HD.out e (by rw [List.take_of_length_le (by omega)]; exact he) y hy
      go_wp2_with fail
      go_ret
      exact ⟨ret_bool Hall.out.symm, hbr⟩
end Go.Proofs.Ytfaebmpdianniaa
