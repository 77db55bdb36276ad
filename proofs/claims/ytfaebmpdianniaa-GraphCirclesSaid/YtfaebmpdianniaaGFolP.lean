/-
  'Follows' of package graph.
-/
import Derived.Test.YtfaebmpdianniaaGSFol
import Derived.Test.YtfaebmpdianniaaRGVld
import Derived.Test.YtfaebmpdianniaaGRFol
import Derived.Deep.RegionLaw
import Derived.Deep.RegionHeldLaw
namespace Go.Proofs.Ytfaebmpdianniaa
open Go Go.RowKit

theorem step_append_d {P : Program} {ops : Array Oper} {o : Oper} {a : Act} {w : World} {K : Act → World → Prop} {Q : Exit → Act → World → Prop} {E : Prop}
    (d : Nat) (hd : o.dst = some d) (hg : o.guard = none) (s x : Operand) (t : TypeId) (hop : o.op = Op.call { callee := Callee.builtin Builtin.append, args := #[s, x], argTypes := #[t, t] })
    (base : Nat) (e : TypeId) (i : TypeInfo) (z : Value) (size bytes : Nat) (h1 : P.underlying t = some (.slice e)) (h2 : P.info? e = some i) (h3 : i.zero = some z) (h4 : i.size = size) (h5 : i.bytes = bytes) (h6 : z.cells.size = size) (h7 : 0 < size)
    (v : Value) (n : Nat) (xs : List Value) (hs : a.eval s = v) (hown : w.ownsRow base e size v n xs)
    (ad : Addr) (m c : Nat) (news : List Value) (hx : a.eval x = .slice (some ad) m c) (hn : news.length = m * size) (hc : ∀ j u, news[j]? = some u → w.cell? (ad.add j) = some u) (h1c : ∀ u ∈ news, u.oneCell' = true)
    (b1 : n + m ≤ maxLen) (b2 : (n + m) * bytes ≤ 140737488355328) (b3 : base ≤ w.heap.size)
    (hK : ∀ v' w', w'.ownsRow base e size v' (n + m) (xs ++ news) → w.grownBy w' v.ownBlock → K (a.put (some d) v') w') :
    if Region.wanted o (yielded ops a.tmps) = true then Oper.wp P o a w K Q else E := step_append_own hg s x t hop base e i z size bytes h1 h2 h3 h4 h5 h6 h7 v n xs hs hown ad m c news hx hn hc h1c b1 b2 b3 (by rw [hd]; exact hK)

theorem addr_block (a : Addr) (j : Nat) : (a.add j).block = a.block := by unfold Addr.add; split <;> rfl
theorem gvld_snoc (v : Int) (cs : List LCn) (c : LCn) : gvld v (cs ++ [c]) = folOk v cs c := by
  unfold folOk gvld
  rw [fitB_snoc, List.length_append]
  rw [Bool.eq_iff_iff]
  simp only [Bool.and_eq_true, decide_eq_true_eq, List.length_singleton]
  constructor
  · rintro ⟨⟨a, b, d⟩, h1, h2⟩; exact ⟨⟨⟨⟨a, b, by omega⟩, h1⟩, h2⟩, by omega⟩
  · rintro ⟨⟨⟨⟨a, b, _⟩, h1⟩, h2⟩, d⟩; exact ⟨⟨a, b, by omega⟩, h1, h2⟩

set_option maxRecDepth 100000 in
set_option maxHeartbeats 4000000 in
theorem follows_any (v : Int) (A : Option Addr) (K cap : Nat) (cs : List LCn) (c : LCn) (A1 : Option Addr) (n1 c1 : Nat) (A2 : Option Addr) (n2 c2 : Nat) (w : World) (h : CL w w.heap.size A K cs) (hK : K ≤ 100000)
    (p1 : PL w w.heap.size A1 n1 c.1.2) (p2 : PL w w.heap.size A2 n2 c.2.2) (q1 : n1 ≤ c1) (r1 : c1 ≤ 9223372036854775807) (q2 : n2 ≤ c2) (r2 : c2 ≤ 9223372036854775807) :
    Calls Try.prog 13 #[.int .i64 v, .slice A K cap, .agg #[.int .i64 c.1.1, .slice A1 n1 c1, .int .i64 c.2.1, .slice A2 n2 c2]] w fun e w' => e = .returned (.tuple #[.bool (folV v cs c), .int .i64 (folC v cs c)]) ∧ Below w.heap.size w w' := by
  obtain ⟨i0, hi, hz0, hz1, hz2⟩ := info_parts infoC
  have hX : Below (w.heap.size + 1) (w.alloc (.cells #[.int .i64 c.1.1, .slice A1 n1 c1, .int .i64 c.2.1, .slice A2 n2 c2] 40)) (w.alloc (.cells #[.int .i64 c.1.1, .slice A1 n1 c1, .int .i64 c.2.1, .slice A2 n2 c2] 40)) := Below.refl _ _
  obtain ⟨g0, g1, g2, g3, hX0⟩ := box4 hX
  have HS : Hid (∀ W, Below (w.heap.size + 1) (w.alloc (.cells #[.int .i64 c.1.1, .slice A1 n1 c1, .int .i64 c.2.1, .slice A2 n2 c2] 40)) W → W.cell? ⟨w.heap.size, 0, none⟩ = some (.int .i64 c.1.1) ∧ W.cell? ⟨w.heap.size, 1, none⟩ = some (.slice A1 n1 c1) ∧ W.cell? ⟨w.heap.size, 2, none⟩ = some (.int .i64 c.2.1) ∧ W.cell? ⟨w.heap.size, 3, none⟩ = some (.slice A2 n2 c2)) := fun W hW => by
    obtain ⟨g0, g1, g2, g3, _⟩ := box4 hW
    exact ⟨g0, g1, g2, g3⟩
  have HC : Hid (∀ W, Below (w.heap.size + 1) (w.alloc (.cells #[.int .i64 c.1.1, .slice A1 n1 c1, .int .i64 c.2.1, .slice A2 n2 c2] 40)) W → Calls Try.prog 32 #[.slice A K cap] W fun e w' => ∃ v xs, e = .returned v ∧ w'.ownsRow (w.heap.size + 1) 40 4 v K xs ∧ CV w' w.heap.size xs cs ∧ Below W.heap.size W w' ∧ Below (w.heap.size + 1) (w.alloc (.cells #[.int .i64 c.1.1, .slice A1 n1 c1, .int .i64 c.2.1, .slice A2 n2 c2] 40)) w') := fun W hW => by
    obtain ⟨_, _, _, _, hX1⟩ := box4 hW
    have hsz := hW.size
    simp at hsz
    exact (cloneC_any A K cap cs W w.heap.size (h.below hX1) hX1.size (by omega)).mono fun e w' ⟨v, xs, h1, h2, h3, h4⟩ => ⟨v, xs, h1, own_lower h2 (by omega), h3, h4, hW.trans (h4.mono (by simpa using hsz))⟩
  have HCV : Hid (∀ W, Below w.heap.size w W → CV W w.heap.size (conV c A1 n1 c1 A2 n2 c2) [c]) := fun W hW => CV.one ⟨A1, n1, c1, rfl, p1.below hW, q1, r1⟩ ⟨A2, n2, c2, rfl, p2.below hW, q2, r2⟩
  have hsX : (w.alloc (.cells #[.int .i64 c.1.1, .slice A1 n1 c1, .int .i64 c.2.1, .slice A2 n2 c2] 40)).heap.size = w.heap.size + 1 := by simp
  go_enter Try.func13, Try.ntmps13
  go_wp2_with fail
  go_upto_region 1 with fail
  go_cut [8] (fun t wx => ∃ (A' : Option Addr) (cap' : Nat), t = .slice A' (K + 1) cap' ∧ CL wx wx.heap.size A' (K + 1) (cs ++ [c]) ∧ Below (w.heap.size + 1) (w.alloc (.cells #[.int .i64 c.1.1, .slice A1 n1 c1, .int .i64 c.2.1, .slice A2 n2 c2] 40)) wx)
  case first =>
    generalize hXe : w.alloc (.cells #[.int .i64 c.1.1, .slice A1 n1 c1, .int .i64 c.2.1, .slice A2 n2 c2] 40) = X at *
    go_region_held_law (fun w' => w'.cell? ⟨w.heap.size, 0, none⟩ = some (.int .i64 c.1.1) ∧ w'.cell? ⟨w.heap.size, 1, none⟩ = some (.slice A1 n1 c1) ∧ w'.cell? ⟨w.heap.size, 2, none⟩ = some (.int .i64 c.2.1) ∧ w'.cell? ⟨w.heap.size, 3, none⟩ = some (.slice A2 n2 c2))
      (first | exact ⟨g0, g1, g2, g3⟩ | exact HS.out _ hz7 | exact HS.out _ hz6 | exact HS.out _ (hz6.alloc (by have := hz6.size; omega) _) | exact HS.out _ (hX.alloc (by omega) _).drew)
      (first
        | (go_at_call 32; refine (HC.out _ (by first | exact hX.drew | exact (hX.alloc (by omega) _).drew)).mono ?_; rintro e w6 ⟨v6, xs, rfl, hown6, hcv6, hb6, hz6⟩)
        | (refine step_append_d 14 rfl rfl (.tmp 11) (.tmp 13) 22 rfl (w.heap.size + 1) 40 i0 (.agg #[.int .i64 0, .slice none 0 0, .int .i64 0, .slice none 0 0]) 4 64 Try.underlying22 hi hz0 hz1 hz2 rfl (by decide) v6 K xs rfl (hown6.alloc _) _ 1 1 (conV c A1 n1 c1 A2 n2 c2) rfl rfl (news4c rfl) (HCV.out w (Below.refl _ _)).oneCell (by unfold maxLen; omega) (by omega) (by have := hz6.size; simp; omega) ?_; intro v7 w7 hown7 hgrow7; have hb67 : Below (w.heap.size + 1) w6 w7 := ((Below.refl _ w6).alloc (by have := hz6.size; omega) _).grown hgrow7 (by have := hz6.size; simp; omega) (fun j hj => (hown6.lt j hj).1); have hz7 := hz6.trans hb67; have hcv7 := hcv6.below (hb67.mono (by omega)); obtain ⟨A7, c7, rfl, hCL7, _, _⟩ := CL.of_own hown7 (hcv7.append (HCV.out _ (hX0.trans (hz7.mono (by omega))))) (by have := hz7.size; omega))
        | (refine step_append_d 14 rfl rfl (.tmp 11) (.tmp 13) 22 rfl (w.heap.size + 1) 40 i0 (.agg #[.int .i64 0, .slice none 0 0, .int .i64 0, .slice none 0 0]) 4 64 Try.underlying22 hi hz0 hz1 hz2 rfl (by decide) v6 K xs rfl hown6 _ 1 1 (conV c A1 n1 c1 A2 n2 c2) rfl rfl (fun j u hj => (hb6.cell (p := (⟨w.heap.size + 1, 0, none⟩ : Addr).add j) (by rw [addr_block]; show w.heap.size + 1 < (X.alloc _).heap.size; simp; omega)).trans (news4c (w := X) (ty := 40) hsX.symm j u hj)) (HCV.out w (Below.refl _ _)).oneCell (by unfold maxLen; omega) (by omega) (by have := hz6.size; omega) ?_; intro v7 w7 hown7 hgrow7; have hb67 : Below (w.heap.size + 1) w6 w7 := (Below.refl _ w6).grown hgrow7 (by have := hz6.size; omega) (fun j hj => (hown6.lt j hj).1); have hz7 := hz6.trans hb67; have hcv7 := hcv6.below (hb67.mono (by omega)); obtain ⟨A7, c7, rfl, hCL7, _, _⟩ := CL.of_own hown7 (hcv7.append (HCV.out _ (hX0.trans (hz7.mono (by omega))))) (by have := hz7.size; omega)))
    all_goals
      go_wp2_with fail
      go_meet
      exact ⟨A7, c7, rfl, hCL7, hz7⟩
  case rest =>
    obtain ⟨A7, c7, rfl, hCL7, hz7⟩ := hcut
    obtain ⟨g0, g1, g2, g3, hX1⟩ := box4 hz7
    have hva := gvalid_any v A7 (K + 1) c7 (cs ++ [c]) wc hCL7 (by omega)
    rw [gvld_snoc] at hva
    cases hok : folOk v cs c
    · obtain ⟨e1, e2⟩ := folOk_false (v := v) (cs := cs) (c := c) hok
      have E1 := Lib.hid e1
      have E2 := Lib.hid e2
      rw [hok] at hva
      have Hva := Lib.hid hva
      clear hva e1 e2 hok
      go_wp2_with fail
      refine Hva.out.mono ?_
      rintro e w1 ⟨rfl, hb1⟩
      go_wp2_with fail
      go_ret2
      exact ⟨by rw [E1.out, E2.out]; rfl, hX1.trans (hb1.mono hX1.size)⟩
    · obtain ⟨e1, e2⟩ := folOk_true (v := v) (cs := cs) (c := c) hok
      have E1 := Lib.hid e1
      have E2 := Lib.hid e2
      have hg := hok
      rw [← gvld_snoc] at hg
      rw [hok] at hva
      have Hva := Lib.hid hva
      obtain ⟨n, rfl, f1, f2, f3⟩ := gvld_parts hg
      have hl : (cs ++ [c]).length = K + 1 := hCL7.1
      have hlc : cs.length = K := by simpa using hl
      have Hcs := Lib.hid f3
      have hGE := ge_of f3
      have hL0 := lst_zero f3
      have hPre := Lib.hid (fun y => sat_pre (n := n) (cs := cs) (ds := [c]) (y := y))
      rw [hl] at hGE hL0 hPre
      rw [hlc] at hPre
      have HGE := Lib.hid hGE
      have HL0 := Lib.hid hL0
      have Hl := Lib.hid hl
      have hK3 : K + 1 ≤ 3000 := by omega
      have hfo : Hid (foC n (cs ++ [c]) K = edgC n c K) := by
        refine foC_at ?_
        rw [← hlc]
        simp
      clear hva e1 e2 hok f3 hGE hL0 hg hl hlc f2
      go_wp2_with fail
      refine Hva.out.mono ?_
      rintro e w1 ⟨rfl, hb1⟩
      have hX2 := hX1.trans (hb1.mono hX1.size)
      have hbe := begin_any A7 (K + 1) c7 n (cs ++ [c]) w1 ((hCL7.below hb1).more hb1.size) hK3 (by omega) Hcs.out
      have Hbe := Lib.hid hbe
      clear hbe
      go_wp2_with fail
      refine Hbe.out.mono ?_
      intro e w2 hpost
      obtain ⟨S, OF, OU, ON, V, rfl, hS1, hO1, hb2, hse, hvs⟩ := beg_is hpost Hl.out hK3 (by omega) Hcs.out
      clear hpost
      have hX3 := hX2.trans (hb2.mono hX2.size)
      have had := addAll_any w1.heap.size S OF OU ON (n + 1) (K + 1) V (n + 1) (foC n (cs ++ [c])) (outE (esA n (cs ++ [c]))) _ _ 0 K w2 hse hvs HGE.out (Nat.zero_le _) (by omega) (by omega) (by omega) HL0.out ⟨by omega, by omega, hb2.size⟩
      have Had := Lib.hid had
      clear had hse hvs
      go_wp2_with fail
      refine Had.out.mono ?_
      rintro e w3 ⟨r, rfl, hb3, hr⟩
      have hX4 := hX2.trans (hb2.trans hb3 |>.mono hX2.size)
      rcases hr with ⟨rfl, hse, V1, c1', xs, hvs, hL⟩ | ⟨rfl, hno⟩
      · have hsf := Lib.hid (sfollows_any S OF OU ON (n + 1) (K + 1) V1 c1' (foC n (cs ++ [c])) (outE (esA n (cs ++ [c]))) _ xs K w3 hse hvs HGE.out (by omega) (by omega) hL)
        clear hse hvs hL
        go_wp2_with fail
        refine hsf.out.mono ?_
        rintro e w4 ⟨rfl, hb4⟩
        have Hf : Hid (folB (Sat (OnG (outE (esA n (cs ++ [c]))) (onr 0 K fun i => if i = K + 1 then true else false))) (foC n (cs ++ [c]) K) = folV (n : Int) cs c) := by
          rw [Hid, E1.out, Int.toNat_natCast, hfo.out]
          exact folB_congr hPre.out (fun y => edgC_k)
        go_wp2_with fail
        go_ret2
        exact ⟨by rw [← Hf.out, E2.out]; rfl, hX4.trans (hb4.mono hX4.size)⟩
      · have Hf : Hid (folV (n : Int) cs c = true) := by
          rw [Hid, E1.out, Int.toNat_natCast]
          exact folB_iff.2 fun y hy => (hno y ((hPre.out y).2 hy)).elim
        clear hno
        go_wp2_with fail
        go_ret2
        exact ⟨by rw [Hf.out, E2.out]; rfl, hX4⟩
end Go.Proofs.Ytfaebmpdianniaa
