/-
  'Subst' of package level: what it returns for every level and every list of levels.
-/
import Derived.Test.YtpahgbnfgnmlaaaDoorLvl
import Derived.Deep.RegionHeld3
namespace Go.Proofs.YtpahgbnfgnmlaaaDoor
open Go Go.RowKit

/-- the boxes of 'Subst': the level, the result, and (g) what is gathered -/
structure SB (w wr : World) (g : Nat) (A : Option Addr) (n cap : Nat) (C : Int) (E : Option Addr) (q capE : Nat) (L : List (Int × Int)) : Prop where
  bel : Below w.heap.size w wr
  lo : w.heap.size + 2 ≤ g
  size : g < wr.heap.size
  a1 : wr.cell? ⟨w.heap.size, 1, none⟩ = some (.slice A n cap)
  r0 : wr.cell? ⟨w.heap.size + 1, 0, none⟩ = some (.int .i64 0)
  r1 : wr.cell? ⟨w.heap.size + 1, 1, none⟩ = some (.slice none 0 0)
  r2 : wr.frozen? ⟨w.heap.size + 1, 0, none⟩ = false
  r3 : wr.frozen? ⟨w.heap.size + 1, 1, none⟩ = false
  o0 : wr.cell? ⟨g, 0, none⟩ = some (.int .i64 C)
  o1 : wr.cell? ⟨g, 1, none⟩ = some (.slice E q capE)
  o2 : wr.frozen? ⟨g, 0, none⟩ = false
  o3 : wr.frozen? ⟨g, 1, none⟩ = false
  pl : PL wr wr.heap.size E q L
  le : q ≤ capE
  hi : capE ≤ 9223372036854775807
  off : ∀ b off, E = some ⟨b, off, none⟩ → g < b
  none_ : E = none → capE = 0
section
variable {w wr w5 : World} {A E E' : Option Addr} {g n cap q capE q' capE' : Nat} {c C C' : Int} {L L' : List (Int × Int)}
theorem SB.start (h : B2 w wr c A n cap) (d : Int) : SB w (wr.alloc (.cells #[.int .i64 d, .slice none 0 0] 24)) wr.heap.size A n cap d none 0 0 [] := by
  have hs := h.size
  have hb : Below wr.heap.size wr (wr.alloc (.cells #[.int .i64 d, .slice none 0 0] 24)) := (Below.refl _ _).alloc (Nat.le_refl _) _
  have h' := h.go hb
  exact ⟨h'.bel, hs, by simp, h'.a1, h'.r0, h'.r1, h'.r2, h'.r3, by simp, by simp, by simp, by simp, PL.nil_ _, Nat.le_refl _, by omega, fun _ _ e => by (cases e), fun _ => rfl⟩
theorem SB.go (h : SB w wr g A n cap C E q capE L) (hb : Below wr.heap.size wr w5) : SB w w5 g A n cap C E q capE L := by
  have hs := h.size
  have hl := h.lo
  have k : ∀ q i, q < wr.heap.size → w5.cell? ⟨q, i, none⟩ = wr.cell? ⟨q, i, none⟩ := fun q i hq => hb.cell (p := ⟨q, i, none⟩) hq
  have f : ∀ q i, q < wr.heap.size → w5.frozen? ⟨q, i, none⟩ = wr.frozen? ⟨q, i, none⟩ := fun q i hq => hb.frozen (p := ⟨q, i, none⟩) hq
  exact ⟨h.bel.trans (hb.mono h.bel.size), hl, by have := hb.size; omega, (k _ _ (by omega)).trans h.a1, (k _ _ (by omega)).trans h.r0, (k _ _ (by omega)).trans h.r1, (f _ _ (by omega)).trans h.r2, (f _ _ (by omega)).trans h.r3,
    (k _ _ (by omega)).trans h.o0, (k _ _ (by omega)).trans h.o1, (f _ _ (by omega)).trans h.o2, (f _ _ (by omega)).trans h.o3, h.pl.lift hb, h.le, h.hi, h.off, h.none_⟩
theorem SB.put (h : SB w wr g A n cap C E q capE L) (d : Int) (v : Value) :
    ((wr.setCell ⟨w.heap.size + 1, 0, none⟩ (.int .i64 d)).setCell ⟨w.heap.size + 1, 1, none⟩ v).cell? ⟨w.heap.size + 1, 0, none⟩ = some (.int .i64 d) ∧
    ((wr.setCell ⟨w.heap.size + 1, 0, none⟩ (.int .i64 d)).setCell ⟨w.heap.size + 1, 1, none⟩ v).cell? ⟨w.heap.size + 1, 1, none⟩ = some v ∧
    Below w.heap.size w ((wr.setCell ⟨w.heap.size + 1, 0, none⟩ (.int .i64 d)).setCell ⟨w.heap.size + 1, 1, none⟩ v) :=
  ⟨keep_off (by decide) (World.cell?_setCell_same _ _ _ h.r0), World.cell?_setCell_same _ _ _ (keep_off (by decide) h.r1), (h.bel.setCell (by show w.heap.size ≤ w.heap.size + 1; omega) _).setCell (by show w.heap.size ≤ w.heap.size + 1; omega) _⟩
theorem SB.set (h : SB w wr g A n cap C E q capE L) (hP : PL wr wr.heap.size E' q' L') (hle : q' ≤ capE') (hhi : capE' ≤ 9223372036854775807) (hoff : ∀ b off, E' = some ⟨b, off, none⟩ → g < b) (hnone : E' = none → capE' = 0) :
    SB w ((wr.setCell ⟨g, 0, none⟩ (.int .i64 C')).setCell ⟨g, 1, none⟩ (.slice E' q' capE')) g A n cap C' E' q' capE' L' := by
  have hs := h.size
  have hl := h.lo
  exact ⟨(h.bel.setCell (by show w.heap.size ≤ g; omega) _).setCell (by show w.heap.size ≤ g; omega) _, hl, by simpa using hs, keep_set (by omega) (keep_set (by omega) h.a1), keep_set (by omega) (keep_set (by omega) h.r0), keep_set (by omega) (keep_set (by omega) h.r1),
    by rw [World.frozen?_setCell, World.frozen?_setCell]; exact h.r2, by rw [World.frozen?_setCell, World.frozen?_setCell]; exact h.r3,
    keep_off (by decide) (World.cell?_setCell_same _ _ _ h.o0), World.cell?_setCell_same _ _ _ (keep_off (by decide) h.o1),
    by rw [World.frozen?_setCell, World.frozen?_setCell]; exact h.o2, by rw [World.frozen?_setCell, World.frozen?_setCell]; exact h.o3,
    hP.set2 _ _ (fun b off e => by have := hoff b off e; omega) (by simp), hle, hhi, hoff, hnone⟩
end

set_option maxRecDepth 100000 in
set_option maxHeartbeats 8000000 in
theorem subst_any (c : Int) (A : Option Addr) (n cap : Nat) (l : List (Int × Int)) (D : Option Addr) (p capD : Nat) (ls : List (Int × List (Int × Int))) (w : World)
    (h : PL w w.heap.size A n l) (hn : n ≤ cap) (hm : cap ≤ 9223372036854775807) (hD : LvL w w.heap.size D p ls) (hp : p ≤ 1000000) :
    Calls Tryd.prog 27 #[.agg #[.int .i64 c, .slice A n cap], .slice D p capD] w fun e w' => ∃ v, e = .returned (.tuple #[v, .int .i64 (uErr c l ls)]) ∧ LvRes w.heap.size w' v (uConst c l ls) (uVars c l ls) ∧ Below w.heap.size w w' := by
  have hb2 := B2.start w c A n cap
  have hv := valid_any c A n cap l _ (h.lift hb2.bel) hn hm
  cases hvl : vld c l
  · obtain ⟨e1, e2, e3⟩ := u_not (c := c) (l := l) (b := ls) (fun h => by simp [hvl] at h)
    have Hr := Lib.hid e1; have Hcc := Lib.hid e2; have Hcv := Lib.hid e3; clear e1 e2 e3
    rw [hvl] at hv
    have Hv := Lib.hid hv; clear hv hvl
    go_enter Tryd.func27, Tryd.ntmps27
    go_wp2_with fail
    refine Hv.out.mono ?_
    rintro e w1 ⟨rfl, hb1⟩
    have hbx := hb2.go hb1
    obtain ⟨z0, z1, z2⟩ := hbx.put 0 (.slice none 0 0)
    have r0 := hbx.r0
    have r1 := hbx.r1
    have r2 := hbx.r2
    have r3 := hbx.r3
    go_wp2_with fail
    refine bodyPost_ret (v := .tuple #[.agg #[.int .i64 0, .slice none 0 0], .int .i64 4]) (by simp [results, Tryd.results27, go_sem, z0, z1]) rfl ?_
    exact ⟨.agg #[.int .i64 0, .slice none 0 0], by rw [Hr.out], ⟨none, 0, 0, by rw [Hcc.out], by rw [Hcv.out]; exact PL.nil_ _, Nat.le_refl _, Nat.zero_le _, fun _ _ e => by cases e⟩, z2⟩
  · have hlen : n ≤ 8 := by have := (vld_iff.1 hvl).len; have := h.1; omega
    have hc0 := vld_c hvl
    have Hmem : Hid (∀ (k : Nat) (x : Int × Int), l[k]? = some x → (0 ≤ x.1 ∧ x.1 ≤ 1199) ∧ 0 ≤ x.2 ∧ x.2 ≤ 1000) := fun k x hx => vld_mem hvl (List.mem_of_getElem? hx)
    have Hvl := Lib.hid hvl
    rw [hvl] at hv
    have Hv := Lib.hid hv; clear hv hvl
    go_enter Tryd.func27, Tryd.ntmps27
    go_wp2_with fail
    refine Hv.out.mono ?_
    rintro e w1 ⟨rfl, hb1⟩
    have hbx := hb2.go hb1
    have a0 := hbx.a0
    have a1 := hbx.a1
    clear Hv
    go_upto_region 4 with fail
    have hsb := SB.start hbx c
    clear a0 a1 hbx hb1 hb2
    generalize w1.alloc (.cells #[.int .i64 c, .slice none 0 0] 24) = w2 at *
    generalize w1.heap.size = g at *
    have a1 := hsb.a1
    go_wp2_with fail
    go_loopw [20] (fun i wr => ∃ k : Nat, k ≤ n ∧ i = .int .i64 k ∧ sBad ls (l.take k) = false ∧ ∃ E q capE, SB w wr g A n cap (sC ls c (l.take k)) E q capE (sL ls (l.take k))) (fun i _ => n - (intOf i).toNat)
    case atStart => exact ⟨0, Nat.zero_le _, rfl, rfl, none, 0, 0, hsb⟩
    case round =>
      clear a1 hsb
      obtain ⟨k, hk, rfl, hbad, E, q, capE, hsb⟩ := hrel
      by_cases hlt : k < n
      · obtain ⟨b, off, x, rfl, hbl, hx, hx0, hx1⟩ := (h.below hsb.bel).at_ hlt
        obtain ⟨q0, q1⟩ := Hmem.out k x hx
        have hsz := hsb.size
        have hlo := hsb.lo
        -- the level that is put in
        have hbX : Below wr.heap.size wr (wr.alloc (.cells #[.int .i64 x.1, .int .i64 x.2] 50)) := (Below.refl _ _).alloc (Nat.le_refl _) _
        have hcX := cell_new (X := wr) rfl (.int .i64 x.1) (.int .i64 x.2) 50
        have hlX : wr.heap.size < (wr.alloc (.cells #[.int .i64 x.1, .int .i64 x.2] 50)).heap.size := by simp
        go_wp2_with fail
        refine (value_any x.1 D p capD ls _ (hD.lift (hsb.bel.trans (hbX.mono hsb.bel.size))) hp q0.1 q0.2).mono ?_
        rintro e w3 ⟨A2, m2, c2, rfl, hP2, hm2, hc2, hN2, hb3⟩
        have hbY := hbX.trans (hb3.mono hbX.size)
        have hsY := hsb.go hbY
        have hx1 := (hb3.cell (p := ⟨wr.heap.size, 1, none⟩) hlX).trans hcX.2
        have hlt3 : wr.heap.size < w3.heap.size := by have := hb3.size; omega
        clear hbX hcX hlX hb3 hsb hbY
        have Hst1 : Hid (sC ls c (l.take (k + 1)) = max (sC ls c (l.take k)) ((sVal ls x.1).1 + x.2)) := by rw [Hid, take_snoc hx, sC_snoc]
        have Hst2 : Hid (sL ls (l.take (k + 1)) = sL ls (l.take k) ++ rl x.2 (sVal ls x.1).2) := by rw [Hid, take_snoc hx, sL_snoc]
        have Hst3 : Hid (sBad ls (l.take (k + 1)) = (sBad ls (l.take k) || !vld (sVal ls x.1).1 (sVal ls x.1).2)) := by rw [Hid, take_snoc hx, sBad_snoc]
        have Hbd : Hid (vld (sVal ls x.1).1 (sVal ls x.1).2 = false → sBad ls l = true) := fun h => sBad_of hx h
        have hqlen : (sL ls (l.take k)).length ≤ 64 := by
          have := sL_len (l.take k) hbad
          rw [List.length_take] at this
          omega
        generalize (sVal ls x.1).1 = pc at *
        generalize (sVal ls x.1).2 = pl at *
        have hb4 : Below w3.heap.size w3 (w3.alloc (.cells #[.int .i64 pc, .slice A2 m2 c2] 24)) := (Below.refl _ _).alloc (Nat.le_refl _) _
        have hs4 := hsY.go hb4
        have hc4 := cell_new (X := w3) rfl (.int .i64 pc) (.slice A2 m2 c2) 24
        have hx4 := (hb4.cell (p := ⟨wr.heap.size, 1, none⟩) hlt3).trans hx1
        have hP4 := hP2.lift hb4
        have hl4 : w3.heap.size < (w3.alloc (.cells #[.int .i64 pc, .slice A2 m2 c2] 24)).heap.size := by simp
        go_upto_region 8 with fail
        generalize w3.alloc (.cells #[.int .i64 pc, .slice A2 m2 c2] 24) = w4 at *
        obtain ⟨c40, c41⟩ := hc4
        clear hsY hx1 hP2 hb4
        have hva := valid_any pc A2 m2 c2 pl w4 hP4 hm2 hc2
        cases hv2 : vld pc pl
        · obtain ⟨e1, e2, e3⟩ := u_not (c := c) (l := l) (b := ls) (fun h => by rw [Hbd.out hv2] at h; exact absurd h.2 (by decide))
          have Hr := Lib.hid e1; have Hcc := Lib.hid e2; have Hcv := Lib.hid e3; clear e1 e2 e3
          rw [hv2] at hva
          have Hva := Lib.hid hva; clear hva hv2 Hst1 Hst2 Hst3 Hbd
          go_wp2_with fail
          refine Hva.out.mono ?_
          rintro e w5 ⟨rfl, hb5⟩
          have hs5 := hs4.go hb5
          obtain ⟨z0, z1, z2⟩ := hs5.put 0 (.slice none 0 0)
          have r0 := hs5.r0
          have r1 := hs5.r1
          have r2 := hs5.r2
          have r3 := hs5.r3
          go_wp2_with fail
          refine bodyPost_ret (v := .tuple #[.agg #[.int .i64 0, .slice none 0 0], .int .i64 4]) (by simp [results, Tryd.results27, go_sem, z0, z1]) rfl ?_
          exact ⟨.agg #[.int .i64 0, .slice none 0 0], by rw [Hr.out], ⟨none, 0, 0, by rw [Hcc.out], by rw [Hcv.out]; exact PL.nil_ _, Nat.le_refl _, Nat.zero_le _, fun _ _ e => by cases e⟩, z2⟩
        · have hpl8 : pl.length ≤ 8 := (vld_iff.1 hv2).len
          have hpc := vld_c hv2
          have Hpx := Lib.hid (vld_plus hv2)
          have hbad' : sBad ls (l.take (k + 1)) = false := by rw [Hst3.out, hbad, hv2]; rfl
          have Hbad' := Lib.hid hbad'
          rw [hv2] at hva
          have Hva := Lib.hid hva; clear hva hv2 Hst3 Hbd hbad hbad'
          go_wp2_with fail
          refine Hva.out.mono ?_
          rintro e w5 ⟨rfl, hb5⟩
          have hs5 := hs4.go hb5
          have hP5 := hP4.lift hb5
          have c50 := (hb5.cell (p := ⟨w3.heap.size, 0, none⟩) hl4).trans c40
          have c51 := (hb5.cell (p := ⟨w3.heap.size, 1, none⟩) hl4).trans c41
          have x51 := (hb5.cell (p := ⟨wr.heap.size, 1, none⟩) (show wr.heap.size < w4.heap.size by omega)).trans hx4
          have hl5 : w3.heap.size < w5.heap.size := by have := hb5.size; omega
          clear Hva hb5 hs4 hP4 c40 c41 hx4
          go_upto_region 10 with fail
          generalize sC ls c (l.take k) = C at *
          generalize sL ls (l.take k) = L at *
          have hS : ∀ Y, Below w5.heap.size w5 Y → Y.cell? ⟨g, 0, none⟩ = some (.int .i64 C) ∧ Y.cell? ⟨g, 1, none⟩ = some (.slice E q capE) ∧ Y.cell? ⟨w3.heap.size, 0, none⟩ = some (.int .i64 pc) ∧ Y.cell? ⟨w3.heap.size, 1, none⟩ = some (.slice A2 m2 c2) ∧ Y.cell? ⟨wr.heap.size, 1, none⟩ = some (.int .i64 x.2) := fun Y hY =>
            ⟨(hs5.go hY).o0, (hs5.go hY).o1, (hY.cell (p := ⟨w3.heap.size, 0, none⟩) hl5).trans c50, (hY.cell (p := ⟨w3.heap.size, 1, none⟩) hl5).trans c51, (hY.cell (p := ⟨wr.heap.size, 1, none⟩) (show wr.heap.size < w5.heap.size by omega)).trans x51⟩
          have hra : ∀ Y, Below w5.heap.size w5 Y → Calls Tryd.prog 45 #[.agg #[.int .i64 pc, .slice A2 m2 c2], .int .i64 x.2] Y fun e w' =>
              ∃ A3 m3 c3, e = .returned (.agg #[.int .i64 (pc + x.2), .slice A3 m3 c3]) ∧ PL w' w'.heap.size A3 m3 (rl x.2 pl) ∧ (A3 = none → c3 = 0) ∧ Below w5.heap.size w5 w' := fun Y hY =>
            (raised_anyN pc A2 m2 c2 pl x.2 Y (hP5.lift hY) (by have := hP5.1; omega) hpc.1 hpc.2 q1.1 q1.2 Hpx.out).mono fun e w' ⟨v, he, ⟨A3, m3, c3, hv, hP, _, _, _, hN⟩, hb⟩ => ⟨A3, m3, c3, by rw [he, hv], hP, hN, hY.trans (hb.mono hY.size)⟩
          have hbo : ∀ Y A3 m3 c3, Below w5.heap.size w5 Y → PL Y Y.heap.size A3 m3 (rl x.2 pl) → (A3 = none → c3 = 0) → Calls Tryd.prog 47 #[.agg #[.int .i64 C, .slice E q capE], .agg #[.int .i64 (pc + x.2), .slice A3 m3 c3]] Y fun e w' =>
              ∃ E' q' cap', e = .returned (.agg #[.int .i64 (max C (pc + x.2)), .slice E' q' cap']) ∧ PL w' w'.heap.size E' q' (L ++ rl x.2 pl) ∧ q' ≤ cap' ∧ cap' ≤ 9223372036854775807 ∧ (∀ b off, E' = some ⟨b, off, none⟩ → g < b) ∧ (E' = none → cap' = 0) ∧ Below w5.heap.size w5 w' := fun Y A3 m3 c3 hY hP hN =>
            (both_anyN C E q capE L (pc + x.2) A3 m3 c3 (rl x.2 pl) Y (hs5.go hY).pl hP (by have := hs5.pl.1; omega) (by have := hP.1; rw [rl_len] at this; omega) hs5.none_ hN).mono fun e w' ⟨v, he, ⟨E', q', cap', hv, hP', h1, h2, h3, h4⟩, hb⟩ =>
              ⟨E', q', cap', by rw [he, hv], hP', h1, h2, fun b off e => by have := h3 b off e; have := (hs5.go hY).size; omega, h4, hY.trans (hb.mono hY.size)⟩
          have HS := Lib.hid hS; have Hra := Lib.hid hra; have Hbo := Lib.hid hbo
          have HB := Lib.hid hs5
          have hlo5 := hs5.lo
          have hsz5 := hs5.size
          have hzz : Below w5.heap.size w5 w5.drew := (Below.refl _ _).drew
          clear hS hra hbo hs5 hP5 c50 c51 x51 Hpx hpc
          generalize pc + x.2 = pcx at *
          obtain ⟨d1, d2, _, _, _⟩ := HS.out _ hzz
          have hS3 : ∀ Y, Below w5.heap.size w5 Y → Y.cell? ⟨w3.heap.size, 0, none⟩ = some (.int .i64 pc) ∧ Y.cell? ⟨w3.heap.size, 1, none⟩ = some (.slice A2 m2 c2) ∧ Y.cell? ⟨wr.heap.size, 1, none⟩ = some (.int .i64 x.2) := fun Y hY => ⟨(HS.out Y hY).2.2.1, (HS.out Y hY).2.2.2.1, (HS.out Y hY).2.2.2.2⟩
          have HS3 := Lib.hid hS3; clear hS3
          refine wp_region_held_drew (S := fun w' => w'.cell? ⟨w3.heap.size, 0, none⟩ = some (.int .i64 pc) ∧ w'.cell? ⟨w3.heap.size, 1, none⟩ = some (.slice A2 m2 c2) ∧ w'.cell? ⟨wr.heap.size, 1, none⟩ = some (.int .i64 x.2)) (by kernel_rfl) (HS3.out _ hzz) (fun hHeld => ?_)
          refine wpAnyH_take (i := 1) (oi := { dst := some 33, op := Op.load 24 (Operand.tmp 9), type := 24, pos := "level.go:62", after := #[], guard := none }) (v := ?_) rfl (by kernel_rfl) (by kernel_rfl) (by kernel_rfl) (fun _ _ _ h => h) (Or.inl ⟨by rfl, ?_⟩) (by assumption) ?_
          rotate_left
          · (intro w hSw; (try dsimp only at hSw); go_simp; try with_reducible rfl)
          try simp only [Act.put, List.setIfInBounds_toArray, List.set_cons_zero, List.set_cons_succ]
          refine wpAnyH_take (i := 2) (oi := { dst := some 34, op := Op.fieldAddr 50 (Operand.tmp 8) 1, type := 0, pos := "level.go:62", after := #[], guard := none }) (v := ?_) rfl (by kernel_rfl) (by kernel_rfl) (by kernel_rfl) (fun _ _ _ h => h) (Or.inl ⟨by rfl, ?_⟩) (by assumption) ?_
          rotate_left
          · (intro w hSw; (try dsimp only at hSw); go_simp; try with_reducible rfl)
          try simp only [Act.put, List.setIfInBounds_toArray, List.set_cons_zero, List.set_cons_succ]
          refine wpAnyH_take (i := 3) (oi := { dst := some 35, op := Op.load 3 (Operand.tmp 34), type := 3, pos := "level.go:62", after := #[{ on := 2, ground := Ground.data }], guard := none }) (v := ?_) rfl (by kernel_rfl) (by kernel_rfl) (by kernel_rfl) (fun _ _ _ h => h) (Or.inl ⟨by rfl, ?_⟩) (by assumption) ?_
          rotate_left
          · (intro w hSw; (try dsimp only at hSw); go_simp; try with_reducible rfl)
          try simp only [Act.put, List.setIfInBounds_toArray, List.set_cons_zero, List.set_cons_succ]
          refine wpAnyH_ready (rs := [0, 4]) (by kernel_rfl) (by simp) (AllReadyH.cons rfl (fun K hK => ?_) (AllReadyH.cons rfl (fun K hK => ?_) AllReadyH.nil))
          · go_simp
            refine hK.out _ _ (HS3.out _ hzz) (fun hHeld => ?_)
            clear hK K
            refine wpAnyH_ready (rs := [4]) (by kernel_rfl) (by simp) (AllReadyH.cons rfl (fun K hK => ?_) AllReadyH.nil)
            go_simp
            go_wp2_with (go_at_call 45; refine (Hra.out _ hzz).mono ?_; rintro e w6 ⟨A3, m3, c3, rfl, hP6, hN6, hz⟩)
            obtain ⟨e1, e2, _, _, _⟩ := HS.out _ hz
            refine hK.out _ _ (HS3.out _ hz) (fun hHeld => ?_)
            clear hK K
            refine wpAnyH_ready (rs := [5]) (by kernel_rfl) (by simp) (AllReadyH.cons rfl (fun K hK => ?_) AllReadyH.nil)
            go_simp
            go_wp2_with (go_at_call 47; refine (Hbo.out _ _ _ _ hz hP6 hN6).mono ?_; rintro e w7 ⟨E7, q7, cap7, rfl, hP7, h71, h72, h73, h74, hz7⟩)
            obtain ⟨f1, f2, f5, f6, f7⟩ := HS.out _ hz7
            have f3 := (HB.out.go hz7).o2
            have f4 := (HB.out.go hz7).o3
            refine hK.out _ _ (HS3.out _ hz7) (fun hHeld => ?_)
            clear hK K
            refine wpAnyH_ready (rs := [6]) (by kernel_rfl) (by simp) (AllReadyH.cons rfl (fun K hK => ?_) AllReadyH.nil)
            go_simp
            refine hK.out _ _ ⟨keep_set (by omega) (keep_set (by omega) f5), keep_set (by omega) (keep_set (by omega) f6), keep_set (by omega) (keep_set (by omega) f7)⟩ (fun hHeld => ?_)
            clear hK K
            refine wpAnyH_done (by kernel_rfl) ?_ _
            have hset := SB.set (C' := max C pcx) (HB.out.go hz7) hP7 h71 h72 h73 h74
            go_wp2_with fail
            go_roundw
            case rel => exact ⟨k + 1, by omega, by go_num, Hbad'.out, E7, q7, cap7, by rw [Hst1.out, Hst2.out]; exact hset⟩
            case measure => simp [intOf]; omega
          · go_simp
            go_wp2_with (go_at_call 45; refine (Hra.out _ hzz).mono ?_; rintro e w6 ⟨A3, m3, c3, rfl, hP6, hN6, hz⟩)
            obtain ⟨e1, e2, _, _, _⟩ := HS.out _ hz
            refine hK.out _ _ (HS3.out _ hz) (fun hHeld => ?_)
            clear hK K
            refine wpAnyH_ready (rs := [0]) (by kernel_rfl) (by simp) (AllReadyH.cons rfl (fun K hK => ?_) AllReadyH.nil)
            go_simp
            refine hK.out _ _ (HS3.out _ hz) (fun hHeld => ?_)
            clear hK K
            refine wpAnyH_ready (rs := [5]) (by kernel_rfl) (by simp) (AllReadyH.cons rfl (fun K hK => ?_) AllReadyH.nil)
            go_simp
            go_wp2_with (go_at_call 47; refine (Hbo.out _ _ _ _ hz hP6 hN6).mono ?_; rintro e w7 ⟨E7, q7, cap7, rfl, hP7, h71, h72, h73, h74, hz7⟩)
            obtain ⟨f1, f2, f5, f6, f7⟩ := HS.out _ hz7
            have f3 := (HB.out.go hz7).o2
            have f4 := (HB.out.go hz7).o3
            refine hK.out _ _ (HS3.out _ hz7) (fun hHeld => ?_)
            clear hK K
            refine wpAnyH_ready (rs := [6]) (by kernel_rfl) (by simp) (AllReadyH.cons rfl (fun K hK => ?_) AllReadyH.nil)
            go_simp
            refine hK.out _ _ ⟨keep_set (by omega) (keep_set (by omega) f5), keep_set (by omega) (keep_set (by omega) f6), keep_set (by omega) (keep_set (by omega) f7)⟩ (fun hHeld => ?_)
            clear hK K
            refine wpAnyH_done (by kernel_rfl) ?_ _
            have hset := SB.set (C' := max C pcx) (HB.out.go hz7) hP7 h71 h72 h73 h74
            go_wp2_with fail
            go_roundw
            case rel => exact ⟨k + 1, by omega, by go_num, Hbad'.out, E7, q7, cap7, by rw [Hst1.out, Hst2.out]; exact hset⟩
            case measure => simp [intOf]; omega
      · have hfull : l.take k = l := List.take_of_length_le (by have := h.1; omega)
        rw [hfull] at hsb hbad
        clear hfull
        obtain ⟨e1, e2, e3⟩ := u_yes (c := c) (l := l) (b := ls) ⟨Hvl.out, hbad⟩
        have Hr := Lib.hid e1; have Hcc := Lib.hid e2; have Hcv := Lib.hid e3; clear e1 e2 e3
        have hqlen := sL_len l hbad
        have hl := h.1
        have hcan := canonical_any (sC ls c l) E q capE (sL ls l) wr hsb.pl (by have := hsb.pl.1; omega)
        have o0 := hsb.o0
        have o1 := hsb.o1
        generalize cErr (sC ls c l) (sL ls l) = er at *
        generalize cConst (sC ls c l) (sL ls l) = cc at *
        generalize cVars (sC ls c l) (sL ls l) = cv at *
        generalize sC ls c l = C at *
        generalize sL ls l = L at *
        have Hcan := Lib.hid hcan
        clear hcan hbad hqlen
        go_wp2_with fail
        refine Hcan.out.mono ?_
        rintro e w4 ⟨v, rfl, ⟨F, k2, k3, rfl, hPC, hmk, hk3, hC⟩, hb4⟩
        have hs4 := hsb.go hb4
        obtain ⟨z0, z1, z2⟩ := hs4.put cc (.slice F k2 k3)
        have r0 := hs4.r0
        have r1 := hs4.r1
        have r2 := hs4.r2
        have r3 := hs4.r3
        have hlo := hsb.lo
        have hsz := hsb.size
        clear Hcan o0 o1
        go_wp2_with fail
        refine bodyPost_ret (v := .tuple #[.agg #[.int .i64 cc, .slice F k2 k3], .int .i64 er]) (by simp [results, Tryd.results27, go_sem, z0, z1]) rfl ?_
        refine ⟨.agg #[.int .i64 cc, .slice F k2 k3], by rw [Hr.out], ⟨F, k2, k3, by rw [Hcc.out], ?_, hmk, hk3, fun b off e => by have := hC b off e; omega⟩, z2⟩
        rw [Hcv.out]
        exact hPC.set2 _ _ (fun b off e => by have := hC b off e; omega) (by simp)
end Go.Proofs.YtpahgbnfgnmlaaaDoor
