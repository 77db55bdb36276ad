/-
  'Max' of the reference: the same level and the same error as package level's, for every two levels.
-/
import Derived.Test.YtpahgbnfgnmlaaaDoorMore
import Derived.Test.YtpahgbnfgnmlaaaDoorMax
import Derived.Test.YtpahgbnfgnmlaaaDoorSuc
import Derived.Deep.RegionHeldLaw
namespace Go.Proofs.YtpahgbnfgnmlaaaDoor
open Go Go.RowKit

theorem rl_zero (l : List (Int × Int)) : rl 0 l = l := by
  unfold rl
  have : (fun x : Int × Int => (x.1, x.2 + 0)) = id := by funext x; simp
  rw [this, List.map_id]

/-- append of any list, nil too, behind a row of one's own, as one step of a region that draws -/
theorem step_append_any {P : Program} {ops : Array Oper} {o : Oper} {a : Act} {w : World} {K : Act → World → Prop} {Q : Exit → Act → World → Prop} {E : Prop}
    (hg : o.guard = none) (s x : Operand) (t : TypeId) (hop : o.op = Op.call { callee := Callee.builtin Builtin.append, args := #[s, x], argTypes := #[t, t] })
    (base : Nat) (e : TypeId) (i : TypeInfo) (z : Value) (size bytes : Nat) (h1 : P.underlying t = some (.slice e)) (h2 : P.info? e = some i) (h3 : i.zero = some z) (h4 : i.size = size) (h5 : i.bytes = bytes) (h6 : z.cells.size = size) (h7 : 0 < size)
    (v : Value) (n : Nat) (xs : List Value) (hs : a.eval s = v) (hown : w.ownsRow base e size v n xs)
    (ao : Option Addr) (m c : Nat) (news : List Value) (hx : a.eval x = .slice ao m c) (hno : ao = none → m = 0 ∧ c = 0) (hn : news.length = m * size) (hc : ∀ ad, ao = some ad → ∀ j u, news[j]? = some u → w.cell? (ad.add j) = some u) (h1c : ∀ u ∈ news, u.oneCell' = true)
    (b1 : n + m ≤ maxLen) (b2 : (n + m) * bytes ≤ 140737488355328) (b3 : base ≤ w.heap.size)
    (hK : ∀ v' w', w'.ownsRow base e size v' (n + m) (xs ++ news) → w.grownBy w' v.ownBlock → K (a.put o.dst v') w') :
    if Region.wanted o (yielded ops a.tmps) = true then Oper.wp P o a w K Q else E := by
  cases ao with
  | some ad => exact step_append_own hg s x t hop base e i z size bytes h1 h2 h3 h4 h5 h6 h7 v n xs hs hown ad m c news hx hn (hc ad rfl) h1c b1 b2 b3 hK
  | none =>
    obtain ⟨rfl, rfl⟩ := hno rfl
    obtain rfl : news = [] := List.eq_nil_of_length_eq_zero (by simpa using hn)
    have hw : Region.wanted o (yielded ops a.tmps) = true := by simp [Region.wanted, hg]
    rw [if_pos hw]
    have hrun := run_append_owned_none (P := P) (w := w) base t o.type e i size h1 h2 v n xs hown
    unfold Oper.wp
    simp [execOp, hop, resolve, invoke, builtin, hs, hx, hrun, Result.andThen]
    exact hK v w (by simpa using hown) ⟨rfl, rfl, rfl, Nat.le_refl _, fun _ _ _ => rfl⟩

set_option maxRecDepth 100000 in
set_option maxHeartbeats 8000000 in
theorem refMax_any (ca : Int) (A : Option Addr) (n capA : Nat) (la : List (Int × Int)) (cb : Int) (B : Option Addr) (m capB : Nat) (lb : List (Int × Int)) (w : World)
    (ha : PL w w.heap.size A n la) (hn : n ≤ capA) (hca : capA ≤ 9223372036854775807) (hb : PL w w.heap.size B m lb) (hm : m ≤ capB) (hcb : capB ≤ 9223372036854775807) :
    Calls Tryd.prog 26 #[.agg #[.int .i64 ca, .slice A n capA], .agg #[.int .i64 cb, .slice B m capB]] w fun e w' => ∃ v, e = .returned (.tuple #[v, .int .i64 (mErr ca la cb lb)]) ∧ LvRes w.heap.size w' v (mConst ca la cb lb) (mVars ca la cb lb) ∧ Below w.heap.size w w' := by
  have h3 := B3.start w ca A n capA cb B m capB
  have hv := refValid_any ca A n capA la _ (ha.lift h3.bel) hn hca
  have hv2 := fun X (hX : Below w.heap.size w X) => refValid_any cb B m capB lb X (hb.lift hX) hm hcb
  cases hv1 : vld ca la
  · obtain ⟨e1, e2, e3⟩ := m_not (ca := ca) (cb := cb) (la := la) (lb := lb) (fun h => by simp [hv1] at h)
    have Hr := Lib.hid e1; have Hcc := Lib.hid e2; have Hcv := Lib.hid e3; clear e1 e2 e3 hv2
    rw [hv1] at hv
    have Hv := Lib.hid hv; clear hv hv1
    go_enter Tryd.func26, Tryd.ntmps26
    go_wp2_with fail
    refine Hv.out.mono ?_
    rintro e w1 ⟨rfl, hb1⟩
    have hbx := h3.go hb1
    obtain ⟨z0, z1, z2⟩ := hbx.put 0 (.slice none 0 0)
    have r0 := hbx.r0
    have r1 := hbx.r1
    have r2 := hbx.r2
    have r3 := hbx.r3
    go_wp2_with fail
    refine bodyPost_ret (v := .tuple #[.agg #[.int .i64 0, .slice none 0 0], .int .i64 4]) (by simp [results, Tryd.results26, go_sem, z0, z1]) rfl ?_
    exact ⟨.agg #[.int .i64 0, .slice none 0 0], by rw [Hr.out], ⟨none, 0, 0, by rw [Hcc.out], by rw [Hcv.out]; exact PL.nil_ _, Nat.le_refl _, Nat.zero_le _, fun _ _ e => by cases e⟩, z2⟩
  cases hvb : vld cb lb
  · obtain ⟨e1, e2, e3⟩ := m_not (ca := ca) (cb := cb) (la := la) (lb := lb) (fun h => by simp [hvb] at h)
    have Hr := Lib.hid e1; have Hcc := Lib.hid e2; have Hcv := Lib.hid e3; clear e1 e2 e3
    rw [hv1] at hv
    rw [hvb] at hv2
    have Hv := Lib.hid hv; have Hv2 := Lib.hid hv2; clear hv hv1 hv2 hvb
    go_enter Tryd.func26, Tryd.ntmps26
    go_wp2_with fail
    refine Hv.out.mono ?_
    rintro e w1 ⟨rfl, hb1⟩
    have hbx := h3.go hb1
    have b0 := hbx.b0
    have b1 := hbx.b1
    go_wp2_with fail
    refine (Hv2.out _ hbx.bel).mono ?_
    rintro e w2 ⟨rfl, hb2⟩
    have hby := hbx.go hb2
    clear b0 b1
    obtain ⟨z0, z1, z2⟩ := hby.put 0 (.slice none 0 0)
    have r0 := hby.r0
    have r1 := hby.r1
    have r2 := hby.r2
    have r3 := hby.r3
    go_wp2_with fail
    refine bodyPost_ret (v := .tuple #[.agg #[.int .i64 0, .slice none 0 0], .int .i64 4]) (by simp [results, Tryd.results26, go_sem, z0, z1]) rfl ?_
    exact ⟨.agg #[.int .i64 0, .slice none 0 0], by rw [Hr.out], ⟨none, 0, 0, by rw [Hcc.out], by rw [Hcv.out]; exact PL.nil_ _, Nat.le_refl _, Nat.zero_le _, fun _ _ e => by cases e⟩, z2⟩
  · obtain ⟨e1, e2, e3⟩ := m_yes (ca := ca) (cb := cb) (la := la) (lb := lb) ⟨hv1, hvb⟩
    have Hr := Lib.hid e1; have Hcc := Lib.hid e2; have Hcv := Lib.hid e3; clear e1 e2 e3
    have hln : n ≤ 8 := by have := (vld_iff.1 hv1).len; have := ha.1; omega
    have hlm : m ≤ 8 := by have := (vld_iff.1 hvb).len; have := hb.1; omega
    have hxa := Lib.hid (vld_plus hv1)
    have hxb := Lib.hid (vld_plus hvb)
    have hc0 : 0 ≤ max ca cb := by have := (vld_c hv1).1; omega
    rw [hv1] at hv
    rw [hvb] at hv2
    have Hv := Lib.hid hv; have Hv2 := Lib.hid hv2; clear hv hv1 hv2 hvb
    go_enter Tryd.func26, Tryd.ntmps26
    go_wp2_with fail
    refine Hv.out.mono ?_
    rintro e w0 ⟨rfl, hb1⟩
    have hbx := h3.go hb1
    have b0 := hbx.b0
    have b1 := hbx.b1
    go_wp2_with fail
    refine (Hv2.out _ hbx.bel).mono ?_
    rintro e w1 ⟨rfl, hb2⟩
    have hby := hbx.go hb2
    clear b0 b1 hbx h3 hb1 hb2 Hv Hv2
    go_upto_region 3 with fail
    obtain ⟨i0, hi, hz0, hz1, hz2'⟩ := info_parts infoV
    have hq8 : (la ++ lb).length ≤ 16 := by have := ha.1; have := hb.1; rw [List.length_append]; omega
    have hfl : Hid (flat2 la ++ flat2 lb = flat2 (la ++ lb)) := (flat2_app la lb).symm
    have hll : Hid (n + m = (la ++ lb).length) := by rw [Hid, List.length_append, ha.1, hb.1]
    have hma : ∀ X, Below w1.heap.size w1 X → Calls Tryd.prog 46 #[.agg #[.int .i64 ca, .slice A n capA], .int .i64 0] X fun e w' =>
        ∃ C k, e = .returned (.slice C n k) ∧ w'.ownsRow w1.heap.size 50 2 (.slice C n k) n (flat2 la) ∧ Below X.heap.size X w' ∧ Below w1.heap.size w1 w' := fun X hX =>
      (more_any ca A n capA la 0 X (ha.lift (hby.bel.trans (hX.mono hby.bel.size))) (by omega) (by omega) (by omega) hxa.out).mono fun e w' ⟨v, he, hown, hbb⟩ => by
        rw [rl_zero] at hown
        obtain ⟨C, k, rfl, _, _, hP, _⟩ := PL.of_own hown
        rw [ha.1] at he hown
        exact ⟨C, k, he, own_base hown hX.size, hbb, hX.trans (hbb.mono hX.size)⟩
    have hmb : ∀ X, Below w1.heap.size w1 X → Calls Tryd.prog 46 #[.agg #[.int .i64 cb, .slice B m capB], .int .i64 0] X fun e w' =>
        ∃ C k, e = .returned (.slice C m k) ∧ (C = none → m = 0 ∧ k = 0) ∧ PL w' w'.heap.size C m lb ∧ Below X.heap.size X w' ∧ Below w1.heap.size w1 w' := fun X hX =>
      (more_any cb B m capB lb 0 X (hb.lift (hby.bel.trans (hX.mono hby.bel.size))) (by omega) (by omega) (by omega) hxb.out).mono fun e w' ⟨v, he, hown, hbb⟩ => by
        rw [rl_zero] at hown
        have hown' := hown
        obtain ⟨C, k, rfl, _, _, hP, _⟩ := PL.of_own hown
        rw [hb.1] at he hP
        refine ⟨C, k, he, fun hC => ?_, hP, hbb, hX.trans (hbb.mono hX.size)⟩
        subst hC
        rcases hown'.2 with ⟨h1, h2⟩ | ⟨g, cap, cur, h1, _⟩
        · injection h1 with _ h3 h4
          rw [hb.1] at h2
          exact ⟨h2, h4⟩
        · cases h1
    generalize (la ++ lb) = q at *
    have hcan : ∀ X C k, Below w1.heap.size w1 X → PL X X.heap.size C q.length q → Calls Tryd.prog 37 #[.int .i64 (max ca cb), .slice C q.length k] X fun e w' =>
        ∃ D m j, e = .returned (.agg #[.int .i64 (if (max ca cb) ≤ gplus (canonV q) then 0 else (max ca cb)), .slice D m j]) ∧ PL w' w'.heap.size D m (canonV q) ∧ m ≤ j ∧ j ≤ 9223372036854775807 ∧ (∀ b off, D = some ⟨b, off, none⟩ → w1.heap.size ≤ b) ∧ Below w1.heap.size w1 w' := fun X C k hX hP =>
      (refCanonical_any (max ca cb) C _ k q X hP (by omega) hc0).mono fun e w' ⟨v, he, ⟨D, m, j, hv, hPD, h1, h2, h3⟩, hb⟩ => ⟨D, m, j, by rw [he, hv], hPD, h1, h2, fun b off e => Nat.le_trans hX.size (h3 b off e), hX.trans (hb.mono hX.size)⟩
    have hfit : ∀ X D m j, Below w1.heap.size w1 X → PL X X.heap.size D m (canonV q) → m ≤ j → j ≤ 9223372036854775807 → (∀ b off, D = some ⟨b, off, none⟩ → w1.heap.size ≤ b) → Calls Tryd.prog 36 #[.agg #[.int .i64 (if (max ca cb) ≤ gplus (canonV q) then 0 else (max ca cb)), .slice D m j]] X fun e w' =>
        ∃ C m k, e = .returned (.tuple #[.agg #[.int .i64 (cConst (max ca cb) q), .slice C m k], .int .i64 (cErr (max ca cb) q)]) ∧ PL w' w'.heap.size C m (cVars (max ca cb) q) ∧ m ≤ k ∧ k ≤ 9223372036854775807 ∧ (∀ b off, C = some ⟨b, off, none⟩ → w1.heap.size ≤ b) ∧ Below w1.heap.size w1 w' := fun X D m j hX hP h1 h2 h3 =>
      (fits_any _ D m j (canonV q) X hP (by have := hP.1; have := canonV_len q; omega)).mono fun e w' ⟨he, hb⟩ => by
        obtain ⟨C, m', k, hfv, hPC, hmk, hk, hC⟩ := fits_lv (c := max ca cb) (l := q) (B := w1.heap.size) (hP.lift hb) h1 h2 h3
        rw [hfv, (fits_canon (c := max ca cb) (l := q) D m j).1] at he
        exact ⟨C, m', k, he, hPC, hmk, hk, hC, hX.trans (hb.mono hX.size)⟩
    generalize (if (max ca cb) ≤ gplus (canonV q) then 0 else (max ca cb)) = d at hcan hfit
    generalize cConst (max ca cb) q = d2 at *
    generalize cErr (max ca cb) q = er at *
    generalize cVars (max ca cb) q = cv at *
    generalize canonV q = q2 at hcan hfit
    have Hma := Lib.hid hma; have Hmb := Lib.hid hmb; have Hcan := Lib.hid hcan; have Hfit := Lib.hid hfit
    clear hma hmb hcan hfit
    have hS : ∀ w', Below w1.heap.size w1 w' → (w'.cell? ⟨w.heap.size, 0, none⟩ = some (.int .i64 ca) ∧ w'.cell? ⟨w.heap.size, 1, none⟩ = some (.slice A n capA) ∧ w'.cell? ⟨w.heap.size + 1, 0, none⟩ = some (.int .i64 cb) ∧ w'.cell? ⟨w.heap.size + 1, 1, none⟩ = some (.slice B m capB)) := fun w' hb => ⟨(hby.go hb).a0, (hby.go hb).a1, (hby.go hb).b0, (hby.go hb).b1⟩
    have HS := Lib.hid hS; clear hS
    have HB := Lib.hid hby
    have hsz := hby.size
    have hzz : Below w1.heap.size w1 w1.drew := (Below.refl _ _).drew
    have hlb := Lib.hid hb.1
    clear hby ha hb hc0
    refine wp_region_held_drew (S := fun w' => w'.cell? ⟨w.heap.size, 0, none⟩ = some (.int .i64 ca) ∧ w'.cell? ⟨w.heap.size, 1, none⟩ = some (.slice A n capA) ∧ w'.cell? ⟨w.heap.size + 1, 0, none⟩ = some (.int .i64 cb) ∧ w'.cell? ⟨w.heap.size + 1, 1, none⟩ = some (.slice B m capB)) (by kernel_rfl) (HS.out _ hzz) (fun hHeld => ?_)
    refine wpAnyH_take (i := 0) (oi := { dst := some 15, op := Op.fieldAddr 24 (Operand.tmp 2) 0, type := 0, pos := "ref.go:109", after := #[], guard := none }) (v := ?_) rfl (by kernel_rfl) (by kernel_rfl) (by kernel_rfl) (fun _ _ _ h => h) (Or.inl ⟨by rfl, ?_⟩) (by assumption) ?_
    rotate_left
    · (intro w hSw; (try dsimp only at hSw); go_simp; try with_reducible rfl)
    try simp only [Act.put, List.setIfInBounds_toArray, List.set_cons_zero, List.set_cons_succ]
    refine wpAnyH_take (i := 1) (oi := { dst := some 16, op := Op.load 3 (Operand.tmp 15), type := 3, pos := "ref.go:109", after := #[{ on := 0, ground := Ground.data }], guard := none }) (v := ?_) rfl (by kernel_rfl) (by kernel_rfl) (by kernel_rfl) (fun _ _ _ h => h) (Or.inl ⟨by rfl, ?_⟩) (by assumption) ?_
    rotate_left
    · (intro w hSw; (try dsimp only at hSw); go_simp; try with_reducible rfl)
    try simp only [Act.put, List.setIfInBounds_toArray, List.set_cons_zero, List.set_cons_succ]
    refine wpAnyH_take (i := 2) (oi := { dst := some 17, op := Op.fieldAddr 24 (Operand.tmp 3) 0, type := 0, pos := "ref.go:109", after := #[], guard := none }) (v := ?_) rfl (by kernel_rfl) (by kernel_rfl) (by kernel_rfl) (fun _ _ _ h => h) (Or.inl ⟨by rfl, ?_⟩) (by assumption) ?_
    rotate_left
    · (intro w hSw; (try dsimp only at hSw); go_simp; try with_reducible rfl)
    try simp only [Act.put, List.setIfInBounds_toArray, List.set_cons_zero, List.set_cons_succ]
    refine wpAnyH_take (i := 3) (oi := { dst := some 18, op := Op.load 3 (Operand.tmp 17), type := 3, pos := "ref.go:109", after := #[{ on := 2, ground := Ground.data }], guard := none }) (v := ?_) rfl (by kernel_rfl) (by kernel_rfl) (by kernel_rfl) (fun _ _ _ h => h) (Or.inl ⟨by rfl, ?_⟩) (by assumption) ?_
    rotate_left
    · (intro w hSw; (try dsimp only at hSw); go_simp; try with_reducible rfl)
    try simp only [Act.put, List.setIfInBounds_toArray, List.set_cons_zero, List.set_cons_succ]
    refine wpAnyH_take (i := 4) (oi := { dst := some 19, op := Op.call { callee := Callee.builtin Builtin.max, args := #[Operand.tmp 16, Operand.tmp 18], argTypes := #[3, 3] }, type := 3, pos := "ref.go:109", after := #[{ on := 1, ground := Ground.data }, { on := 3, ground := Ground.data }], guard := none }) (v := ?_) rfl (by kernel_rfl) (by kernel_rfl) (by kernel_rfl) (fun _ _ _ h => h) (Or.inl ⟨by rfl, ?_⟩) (by assumption) ?_
    rotate_left
    · (intro w hSw; (try dsimp only at hSw); go_simp; try with_reducible rfl)
    try simp only [Act.put, List.setIfInBounds_toArray, List.set_cons_zero, List.set_cons_succ]
    refine wpAnyH_take (i := 5) (oi := { dst := some 20, op := Op.load 24 (Operand.tmp 2), type := 24, pos := "ref.go:109", after := #[], guard := none }) (v := ?_) rfl (by kernel_rfl) (by kernel_rfl) (by kernel_rfl) (fun _ _ _ h => h) (Or.inl ⟨by rfl, ?_⟩) (by assumption) ?_
    rotate_left
    · (intro w hSw; (try dsimp only at hSw); go_simp; try with_reducible rfl)
    try simp only [Act.put, List.setIfInBounds_toArray, List.set_cons_zero, List.set_cons_succ]
    refine wpAnyH_take (i := 7) (oi := { dst := some 22, op := Op.load 24 (Operand.tmp 3), type := 24, pos := "ref.go:109", after := #[], guard := none }) (v := ?_) rfl (by kernel_rfl) (by kernel_rfl) (by kernel_rfl) (fun _ _ _ h => h) (Or.inl ⟨by rfl, ?_⟩) (by assumption) ?_
    rotate_left
    · (intro w hSw; (try dsimp only at hSw); go_simp; try with_reducible rfl)
    try simp only [Act.put, List.setIfInBounds_toArray, List.set_cons_zero, List.set_cons_succ]
    refine wpAnyH_ready (rs := [6]) (by kernel_rfl) (by simp) (AllReadyH.cons rfl (fun K hK => ?_) AllReadyH.nil)
    go_simp
    go_wp2_with (go_at_call 46; refine (Hma.out _ hzz).mono ?_; rintro e w5 ⟨C1, k1, rfl, hO1, hst, hz⟩)
    refine hK.out _ _ (HS.out _ hz) (fun hHeld => ?_)
    clear hK K
    refine wpAnyH_ready (rs := [8]) (by kernel_rfl) (by simp) (AllReadyH.cons rfl (fun K hK => ?_) AllReadyH.nil)
    go_simp
    go_wp2_with (go_at_call 46; refine (Hmb.out _ hz).mono ?_; rintro e w6 ⟨C2, k2, rfl, hN2, hP2, hst2, hz2⟩)
    have hO2 := own_below hO1 hst2
    refine hK.out _ _ (HS.out _ hz2) (fun hHeld => ?_)
    clear hK K
    refine wpAnyH_ready (rs := [9]) (by kernel_rfl) (by simp) (AllReadyH.cons rfl (fun K hK => ?_) AllReadyH.nil)
    refine step_append_any rfl (.tmp 21) (.tmp 23) 22 rfl w1.heap.size 50 i0 (.agg #[.int .i64 0, .int .i64 0]) 2 16 Tryd.underlying22 hi hz0 hz1 hz2' rfl (by decide) _ n (flat2 la) rfl hO2 _ m _ (flat2 lb) rfl hN2 (by rw [flat2_len, hlb.out]) (fun ad e => by subst e; exact hP2.cells) (flat2_one_cell lb) (by unfold maxLen; omega) (by omega) hz2.size ?_
    intro v6 w7 hown6 hgrow6
    rw [hfl.out, hll.out] at hown6
    have hz3 := hz2.grown hgrow6 hz2.size (fun j hj => (hO2.lt j hj).1)
    obtain ⟨C6, k6, rfl, _, _, hP6, _⟩ := PL.of_own hown6
    refine hK.out _ _ (HS.out _ hz3) (fun hHeld => ?_)
    clear hK K
    refine wpAnyH_ready (rs := [10]) (by kernel_rfl) (by simp) (AllReadyH.cons rfl (fun K hK => ?_) AllReadyH.nil)
    go_simp
    go_wp2_with (go_at_call 37; refine (Hcan.out _ _ _ hz3 hP6).mono ?_; rintro e w8 ⟨D1, m1, j1, rfl, hPD, hd1, hd2, hd3, hz4⟩)
    refine hK.out _ _ (HS.out _ hz4) (fun hHeld => ?_)
    clear hK K
    refine wpAnyH_ready (rs := [11]) (by kernel_rfl) (by simp) (AllReadyH.cons rfl (fun K hK => ?_) AllReadyH.nil)
    go_simp
    go_wp2_with (go_at_call 36; refine (Hfit.out _ _ _ _ hz4 hPD hd1 hd2 hd3).mono ?_; rintro e w9 ⟨C, mm, k, rfl, hPC, hmk, hk, hC, hz⟩)
    obtain ⟨f1, f2, f3, f4⟩ := HS.out _ hz
    have y0 := (HB.out.go hz).r0
    have y1 := (HB.out.go hz).r1
    have y2 := (HB.out.go hz).r2
    have y3 := (HB.out.go hz).r3
    refine hK.out _ _ (HS.out _ hz) (fun hHeld => ?_)
    clear hK K
    refine wpAnyH_take (i := 12) (oi := { dst := some 27, op := Op.extract (Operand.tmp 26) 0, type := 24, pos := "ref.go:109", after := #[{ on := 11, ground := Ground.data }], guard := none }) (v := ?_) rfl (by kernel_rfl) (by kernel_rfl) (by kernel_rfl) (fun _ _ _ h => h) (Or.inl ⟨by rfl, ?_⟩) (by assumption) ?_
    rotate_left
    · (intro w hSw; (try dsimp only at hSw); go_simp; try with_reducible rfl)
    try simp only [Act.put, List.setIfInBounds_toArray, List.set_cons_zero, List.set_cons_succ]
    refine wpAnyH_take (i := 13) (oi := { dst := some 28, op := Op.extract (Operand.tmp 26) 1, type := 27, pos := "ref.go:109", after := #[{ on := 11, ground := Ground.data }], guard := none }) (v := ?_) rfl (by kernel_rfl) (by kernel_rfl) (by kernel_rfl) (fun _ _ _ h => h) (Or.inl ⟨by rfl, ?_⟩) (by assumption) ?_
    rotate_left
    · (intro w hSw; (try dsimp only at hSw); go_simp; try with_reducible rfl)
    try simp only [Act.put, List.setIfInBounds_toArray, List.set_cons_zero, List.set_cons_succ]
    refine wpAnyH_ready (rs := [14]) (by kernel_rfl) (by simp) (AllReadyH.cons rfl (fun K hK => ?_) AllReadyH.nil)
    go_simp
    refine hK.out _ _ ⟨keep_set (by omega) (keep_set (by omega) f1), keep_set (by omega) (keep_set (by omega) f2), keep_set (by omega) (keep_set (by omega) f3), keep_set (by omega) (keep_set (by omega) f4)⟩ (fun hHeld => ?_)
    clear hK K
    refine wpAnyH_ready (rs := [15]) (by kernel_rfl) (by simp) (AllReadyH.cons rfl (fun K hK => ?_) AllReadyH.nil)
    go_simp
    refine hK.out _ _ hHeld (fun hHeld => ?_)
    clear hK K
    refine wpAnyH_done (by kernel_rfl) ?_ _
    obtain ⟨z0, z1, z2⟩ := (HB.out.go hz).put d2 (.slice C mm k)
    go_wp2_with fail
    refine bodyPost_ret (v := .tuple #[.agg #[.int .i64 d2, .slice C mm k], .int .i64 er]) (by simp [results, Tryd.results26, go_sem, z0, z1]) rfl ?_
    refine ⟨.agg #[.int .i64 d2, .slice C mm k], by rw [Hr.out], ⟨C, mm, k, by rw [Hcc.out], ?_, hmk, hk, fun b off e => by have := hC b off e; omega⟩, z2⟩
    rw [Hcv.out]
    exact hPC.set2 _ _ (fun b off e => by have := hC b off e; omega) (by simp)
end Go.Proofs.YtpahgbnfgnmlaaaDoor
