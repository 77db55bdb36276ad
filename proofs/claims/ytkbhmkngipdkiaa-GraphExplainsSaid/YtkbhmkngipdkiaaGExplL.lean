/-
  The law GraphExplains.
-/
import Derived.Test.YtkbhmkngipdkiaaGRCore
import Derived.Test.YtkbhmkngipdkiaaGFolL
namespace Go.Proofs.Ytkbhmkngipdkiaa
open Go Go.RowKit

theorem heavyB_v {v most : Int} {cs : List LCn} (h : heavyB v most cs = false) : v ≤ most := by
  unfold heavyB at h
  simp at h
  omega

set_option maxRecDepth 100000 in
set_option maxHeartbeats 4000000 in
theorem lawExplains_any (v : Int) (A : Option Addr) (K cap : Nat) (cs : List LCn) (w : World) (h : CL w w.heap.size A K cs) (hK : K ≤ 9223372036854775807) :
    Calls Try.prog 3 #[.int .i64 v, .slice A K cap] w fun e w' => e = .returned (.bool true) ∧ Below w.heap.size w w' := by
  have h1 := heavy_any v 60 A K cap cs w h hK
  cases hb : heavyB v 60 cs
  · have hlen := heavyB_len hb
    have hv := heavyB_v hb
    have hK2 : K ≤ 60 := by have := h.1; omega
    rw [hb] at h1
    have H1 := Lib.hid h1
    clear h1 hb hlen
    have hE := Lib.hid (explain_any 1000 v A K cap cs w h hK (by omega) (fun hg n hn e he => by
      obtain ⟨m, hm, _, _, hcs⟩ := gvld_nat hg
      obtain rfl : n = m := by omega
      exact (esA_ok hcs he).2.2.2.1) (fun _ n hn => by
      have h1 : (1000 * ((9 : Nat) : Int) + 1000 * ((n + 1 : Nat) : Int)) ≤ 70000 := by omega
      have h2 : ((2 * K : Nat) : Int) ≤ 120 := by omega
      have h3 := Int.mul_le_mul h1 h2 (by omega) (by omega)
      omega))
    go_enter Try.func3, Try.ntmps3
    go_wp2_with fail
    refine H1.out.mono ?_
    rintro e w1 ⟨rfl, rfl⟩
    go_wp2_with fail
    refine hE.out.mono ?_
    rintro e w2 ⟨hb2, hp⟩
    have hV := refGvalid_any v A K cap cs w2 (h.lift hb2) hK
    clear hE
    rcases hp with ⟨hg, rfl⟩ | ⟨hg, n, rfl, ⟨hsat, rfl⟩ | ⟨hno, A2, c2, core, rfl, hI, hco, hso⟩⟩
    · rw [hg] at hV
      have HV := Lib.hid hV
      clear hV
      go_wp2_with fail
      refine HV.out.mono ?_
      rintro e w3 ⟨rfl, hb3⟩
      have hb13 := hb2.trans (hb3.mono hb2.size)
      go_wp2_with fail
      refine (awake_any _).mono ?_
      rintro e w4 ⟨rfl, hb4⟩
      go_wp2_with fail
      go_ret
      exact ⟨rfl, hb13.trans (hb4.mono hb13.size)⟩
    · rw [hg] at hV
      have HV := Lib.hid hV
      have Hg := Lib.hid hg
      have Hsat := Lib.hid hsat
      clear hV hg hsat
      go_wp2_with fail
      refine HV.out.mono ?_
      rintro e w3 ⟨rfl, hb3⟩
      have hb13 := hb2.trans (hb3.mono hb2.size)
      have hS := Lib.hid (rSolve_any n A K cap cs w3 (h.lift hb13) hK)
      go_wp2_with fail
      refine hS.out.mono ?_
      rintro e w4 ⟨hb4, hr⟩
      have hb14 := hb13.trans (hb4.mono hb13.size)
      obtain ⟨u, rfl⟩ : ∃ u, e = .returned (.tuple #[u, .int .i64 0]) := by
        rcases hr with ⟨h9, _⟩ | ⟨_, m, hm, _, ⟨_, h9⟩ | ⟨u, L, h9, _⟩⟩
        · rw [Hg.out] at h9; cases h9
        · obtain rfl : n = m := by omega
          obtain ⟨y, hy⟩ := Hsat.out
          exact (h9 y hy).elim
        · exact ⟨u, h9⟩
      clear hr hS
      go_wp2_with fail
      refine (awake_any _).mono ?_
      rintro e w5 ⟨rfl, hb5⟩
      go_wp2_with fail
      go_ret
      exact ⟨rfl, hb14.trans (hb5.mono hb14.size)⟩
    · rw [hg] at hV
      have HV := Lib.hid hV
      have Hg := Lib.hid hg
      have Hno := Lib.hid hno
      obtain ⟨n', hn', hn, hl3, hcs⟩ := gvld_nat hg
      obtain rfl : n = n' := by omega
      have Hcs := Lib.hid hcs
      have Hco := Lib.hid hco
      have Hso := Lib.hid hso
      have hcl : core.length ≤ 3000 := by
        have h1 := nodup_len hco.lt hco.nd
        omega
      obtain ⟨z, hz⟩ : ∃ z, core.length = z := ⟨_, rfl⟩
      rw [hz] at hI hcl
      have Hz := Lib.hid hz
      clear hV hg hno hcs hco hso hz hn'
      rw [Hz.out]
      go_wp2_with fail
      refine HV.out.mono ?_
      rintro e w3 ⟨rfl, hb3⟩
      have hb13 := hb2.trans (hb3.mono hb2.size)
      have hS := Lib.hid (rSolve_any n A K cap cs w3 (h.lift hb13) hK)
      go_wp2_with fail
      refine hS.out.mono ?_
      rintro e w4 ⟨hb4, hr⟩
      have hb14 := hb13.trans (hb4.mono hb13.size)
      obtain ⟨u, rfl⟩ : ∃ u, e = .returned (.tuple #[u, .int .i64 20]) := by
        rcases hr with ⟨h9, _⟩ | ⟨_, m, hm, _, ⟨h9, _⟩ | ⟨u, L, _, _, h9⟩⟩
        · rw [Hg.out] at h9; cases h9
        · exact ⟨_, h9⟩
        · obtain rfl : n = m := by omega
          exact (Hno.out _ h9.sat).elim
      clear hr hS
      have hC := Lib.hid (rcore_any n A K cap cs A2 z c2 core w4 (h.lift hb14) (hI.lift (hb3.trans (hb4.mono hb3.size))) Hcs.out hn Hco.out Hso.out hcl)
      clear hI
      go_wp2_with fail
      refine hC.out.mono ?_
      rintro e w5 ⟨rfl, hb5⟩
      have hb15 := hb14.trans (hb5.mono hb14.size)
      go_wp2_with fail
      refine (awake_any _).mono ?_
      rintro e w6 ⟨rfl, hb6⟩
      go_wp2_with fail
      go_ret
      exact ⟨rfl, hb15.trans (hb6.mono hb15.size)⟩
  · rw [hb] at h1
    have H1 := Lib.hid h1
    clear h1
    go_enter Try.func3, Try.ntmps3
    go_wp2_with fail
    refine H1.out.mono ?_
    rintro e w1 ⟨rfl, rfl⟩
    go_wp2_with fail
    refine (awake_any _).mono ?_
    rintro e w4 ⟨rfl, hb4⟩
    go_wp2_with fail
    go_ret
    exact ⟨rfl, hb4⟩
end Go.Proofs.Ytkbhmkngipdkiaa
