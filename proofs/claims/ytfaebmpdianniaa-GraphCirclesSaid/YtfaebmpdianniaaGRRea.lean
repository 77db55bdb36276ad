/-
  'reached' of the reference: the nodes that tight edges lead to.
-/
import Derived.Test.YtfaebmpdianniaaGWalk
import Derived.Test.YtfaebmpdianniaaGRLon
namespace Go.Proofs.Ytfaebmpdianniaa
open Go Go.RowKit

/-- the value of a node: the last node stands for 0 -/
def vv (V : List Int) (x : Nat) : Int := V.getD x 0
/-- an edge that holds with nothing to spare -/
def tg (V : List Int) (e : Edg) : Bool := decide (vv V e.f + e.b = vv V e.t)
/-- where tight edges lead from a node -/
def tn (V : List Int) (E : List Edg) (x : Nat) : List Nat := (E.filter fun e => e.f == x && tg V e).map (·.t)
theorem tn_mem {V : List Int} {E : List Edg} {x y : Nat} : y ∈ tn V E x ↔ ∃ e ∈ E, e.f = x ∧ e.t = y ∧ tg V e = true := by
  unfold tn
  rw [List.mem_map]
  constructor
  · rintro ⟨e, he, rfl⟩
    obtain ⟨h1, h2⟩ := List.mem_filter.1 he
    simp at h2
    exact ⟨e, h1, h2.1, rfl, h2.2⟩
  · rintro ⟨e, h1, h2, h3, h4⟩
    exact ⟨e, List.mem_filter.2 ⟨h1, by simp [h2, h4]⟩, h3⟩
def isT : Option Value → Bool
  | some (.bool true) => true
  | _ => false
/-- how many nodes are not marked, as they lie -/
def mU (g N : Nat) (w : World) : Nat := (List.range N).countP fun x => !isT (w.cell? ⟨g, x, none⟩)
def flg : Value → Nat
  | .bool true => 1
  | _ => 0
theorem mU_own {w : World} {base g n N : Nat} {e : TypeId} {bs : List Bool} (h : w.ownsRow base e 1 (.slice (some ⟨g, 0, none⟩) n n) n (bool1 bs)) (hl : bs.length = N) : mU g N w = un N bs := by
  unfold mU un
  refine List.countP_congr fun x hx => ?_
  have hxN : x < bs.length := by rw [hl]; exact List.mem_range.1 hx
  rw [(own_cellB h (List.getElem?_eq_getElem hxN)).1, List.getElem?_eq_getElem hxN]
  cases bs[x] <;> simp [isT]
/-- what is so of the marks at each time -/
structure RcI (next : Nat → List Nat) (s N : Nat) (bs : List Bool) : Prop where
  len : bs.length = N
  at_ : sset bs s
  rc : ∀ x, sset bs x → Rch next s x
theorem RcI.set {next : Nat → List Nat} {s N f t : Nat} {bs : List Bool} (h : RcI next s N bs) (hf : sset bs f) (ht : t ∈ next f) (htN : t < N) : RcI next s N (bs.set t true) := by
  refine ⟨by rw [List.length_set]; exact h.len, by rw [sset_set (by rw [h.len]; exact htN)]; exact .inl h.at_, fun x hx => ?_⟩
  rw [sset_set (by rw [h.len]; exact htN)] at hx
  rcases hx with h1 | rfl
  · exact h.rc x h1
  · exact .step (h.rc f hf) ht trivial
theorem RcI.all {s N : Nat} {V : List Int} {E : List Edg} {bs : List Bool} (h : RcI (tn V E) s N bs) (hc : ∀ e ∈ E, tg V e = true → sset bs e.f → sset bs e.t) (x : Nat) : sset bs x ↔ Rch (tn V E) s x := by
  refine ⟨h.rc x, fun hx => ?_⟩
  unfold Rch at hx
  induction hx with
  | refl _ => exact h.at_
  | step _ h2 _ ih =>
    obtain ⟨e, he, rfl, rfl, h3⟩ := tn_mem.1 h2
    exact hc e he h3 ih
theorem sset_iff {bs : List Bool} {x : Nat} (hx : x < bs.length) : sset bs x ↔ bs[x] = true := by
  unfold sset
  rw [List.getElem?_eq_getElem hx]
  simp

/-- what reached says -/
def ReaPost (n s : Nat) (V : List Int) (E : List Edg) (w : World) (e : Ending) (w' : World) : Prop :=
  ∃ (g : Nat) (bs : List Bool), e = .returned (.slice (some ⟨g, 0, none⟩) (n + 1) (n + 1)) ∧ w'.ownsRow w.heap.size 4 1 (.slice (some ⟨g, 0, none⟩) (n + 1) (n + 1)) (n + 1) (bool1 bs) ∧ bs.length = n + 1 ∧ (∀ x, sset bs x ↔ Rch (tn V E) s x) ∧ Below w.heap.size w w'

set_option maxRecDepth 100000 in
set_option maxHeartbeats 4000000 in
theorem reached_any (n s : Nat) (A : Option Addr) (m c : Nat) (E : List Edg) (A2 : Option Addr) (c2 : Nat) (V : List Int) (w : World) (h : RL w w.heap.size A m E) (hVl : IL w w.heap.size A2 n V) (hE : ∀ e ∈ E, e.f < n + 1 ∧ e.t < n + 1 ∧ -1000 ≤ e.b ∧ e.b ≤ 1000) (hVb : ∀ x ∈ V, -1000000000000 ≤ x ∧ x ≤ 1000000000000) (hn : n ≤ 1200) (hs : s < n + 1) (hm : m ≤ 100000) :
    Calls Try.prog 31 #[.int .i64 n, .slice A m c, .slice A2 n c2, .int .i64 s] w (ReaPost n s V E w) := by
  obtain ⟨j0, hj, hy0, hy1, hy2⟩ := info_parts infoB
  have hl : E.length = m := h.1
  have hvl : V.length = n := hVl.1
  have HE := Lib.hid hE
  have HV := Lib.hid hVb
  clear hE hVb
  have HvE : Hid (∀ x, (hx : x < n) → vv V x = V[x]'(by omega)) := fun x hx => by unfold vv; rw [List.getD_eq_getElem?_getD, List.getElem?_eq_getElem (show x < V.length by omega)]; rfl
  have HvZ : Hid (∀ x, ¬ x < n → vv V x = 0) := fun x hx => by unfold vv; rw [List.getD_eq_getElem?_getD, List.getElem?_eq_none (show V.length ≤ x by omega)]; rfl
  go_enter Try.func31, Try.ntmps31
  go_wp2_with (refine wpList_make_full _ rfl (.tmp 15) (.tmp 15) 62 rfl w.heap.size 4 j0 (.bool false) 1 Try.underlying62 hj hy0 hy1 .i64 .i64 _ _ (n + 1) rfl rfl (by omega) (by omega) (by rw [hy2]; omega) (by unfold maxLen; omega) (Nat.le_refl _) ?_)
  intro w1 hown1 hgrow1
  have hb1 : Below w.heap.size w w1 := (Below.refl _ w).grown hgrow1 (Nat.le_refl _) (fun j hj => by cases hj)
  have hmk := made_false (n + 1)
  simp only [Value.cells, Nat.mul_one] at hmk
  rw [hmk] at hown1
  clear hmk
  have hsl : s < (List.replicate (n + 1) false).length := by simpa using hs
  obtain ⟨q1, q2⟩ := own_cellB hown1 (List.getElem?_eq_getElem hsl)
  have hown2 := own_storeB hown1 s true
  have hb2 : Below w.heap.size w (w1.setCell ⟨w.heap.size, s, none⟩ (.bool true)) := hb1.setCell (Nat.le_refl _) _
  have hR0 : RcI (tn V E) s (n + 1) ((List.replicate (n + 1) false).set s true) := ⟨by simp, by rw [sset_set hsl]; exact .inr rfl, fun x hx => by
    rw [sset_set hsl] at hx
    rcases hx with h1 | rfl
    · exfalso
      unfold sset at h1
      rw [List.getElem?_replicate] at h1
      split at h1 <;> simp at h1
    · exact .refl trivial⟩
  have hsi : (s : Int) < (n : Int) + 1 := by omega
  generalize (List.replicate (n + 1) false).set s true = b0 at hown2 hR0
  generalize hg : w.heap.size = g at *
  clear hgrow1 hown1
  go_wp2_with fail
  generalize w1.setCell ⟨g, s, none⟩ (.bool true) = w2 at hown2 hb2 ⊢
  clear q1 q2 hb1 w1
  go_loopw [10] (fun r wr => ∃ (ch : Bool) (bs : List Bool), r = .bool ch ∧ RcI (tn V E) s (n + 1) bs ∧ wr.ownsRow g 4 1 (.slice (some ⟨g, 0, none⟩) (n + 1) (n + 1)) (n + 1) (bool1 bs) ∧ (ch = false → ∀ e ∈ E, tg V e = true → sset bs e.f → sset bs e.t) ∧ Below g w wr) (fun r wr => 2 * mU g (n + 1) wr + flg r)
  case atStart => exact ⟨true, _, rfl, hR0, hown2, fun h => (by cases h), hb2⟩
  case round =>
    clear hown2 hb2 hR0
    obtain ⟨ch, bs, rfl, hR, hown, hcl, hbr⟩ := hrel
    cases ch
    · have hall := hR.all (hcl rfl)
      have Hall := Lib.hid hall
      have hlen := hR.len
      clear hcl hall hR
      go_wp2_with fail
      go_ret
      exact ⟨g, bs, rfl, by rw [hg]; exact hown, hlen, Hall.out, by rw [hg]; exact hbr⟩
    · clear hcl
      have Hme : Hid (mU g (n + 1) wr = un (n + 1) bs) := mU_own hown hR.len
      obtain ⟨wo, hwo⟩ : ∃ wo, wo = wr := ⟨_, rfl⟩
      subst hwo
      go_wp2_with fail
      go_loopw [10, 11] (fun q i wx => ∃ (j : Nat) (ch : Bool) (bj : List Bool), j ≤ m ∧ i = .int .i64 j ∧ q = .bool ch ∧ RcI (tn V E) s (n + 1) bj ∧ wx.ownsRow g 4 1 (.slice (some ⟨g, 0, none⟩) (n + 1) (n + 1)) (n + 1) (bool1 bj) ∧ un (n + 1) bj ≤ un (n + 1) bs ∧ (ch = true → un (n + 1) bj < un (n + 1) bs) ∧ (ch = false → ∀ e ∈ E.take j, tg V e = true → sset bj e.f → sset bj e.t) ∧ Below g w wx) (fun _ i _ => m - (intOf i).toNat)
      case atStart => exact ⟨0, false, bs, Nat.zero_le _, rfl, rfl, hR, hown, Nat.le_refl _, fun h => (by cases h), fun _ e he => by simp at he, hbr⟩
      case round =>
        clear hown hbr hR
        obtain ⟨j, ch, bj, hj, rfl, rfl, hR, hown, hu1, hu2, hcl, hbr⟩ := hrel
        by_cases hjm : j < m
        · obtain ⟨b, off, e, rfl, hbl, he, h0, h1, h2⟩ := (h.below hbr).at_ hjm
          obtain ⟨ef, et, eb0, eb1⟩ := HE.out e (List.mem_of_getElem? he)
          have Hin : Hid (e ∈ E) := List.mem_of_getElem? he
          have Hst : Hid (E.take (j + 1) = E.take j ++ [e]) := take_snoc he
          have i1 : (e.f : Int) < (n : Int) + 1 := by omega
          have i2 : (e.t : Int) < (n : Int) + 1 := by omega
          have hlen := hR.len
          obtain ⟨bf, hbf⟩ : ∃ x, bj[e.f]? = some x := ⟨_, List.getElem?_eq_getElem (by omega)⟩
          obtain ⟨bt, hbt⟩ : ∃ x, bj[e.t]? = some x := ⟨_, List.getElem?_eq_getElem (by omega)⟩
          obtain ⟨u0, _⟩ := own_cellB hown hbf
          obtain ⟨u1, u2⟩ := own_cellB hown hbt
          have HR := Lib.hid hR
          have Hu1 := Lib.hid hu1
          have Hu2 := Lib.hid hu2
          have Hcl := Lib.hid hcl
          have hvf : -1000000000000 ≤ vv V e.f ∧ vv V e.f ≤ 1000000000000 := by
            by_cases hx : e.f < n
            · rw [HvE.out _ hx]; exact HV.out _ (List.getElem_mem _)
            · rw [HvZ.out _ hx]; omega
          clear he hR hu1 hu2 hcl
          go_upto_if 33 with fail
          go_cut [12] (fun x wx => x = .int .i64 (vv V e.f) ∧ wx = wr)
          case first =>
            by_cases hx : e.f < n
            · have hxi : (e.f : Int) < (n : Int) := by omega
              obtain ⟨b2, off2, x, rfl, hb2, hxx, hc2⟩ := (hVl.below hbr).at_ hx
              obtain rfl : x = vv V e.f := by rw [HvE.out _ hx]; rw [List.getElem?_eq_getElem (show e.f < V.length by omega)] at hxx; exact (Option.some.inj hxx).symm
              clear hxx
              go_wp2_with fail
              go_meet
              exact ⟨rfl, rfl⟩
            · have hxi : ¬ (e.f : Int) < (n : Int) := by omega
              go_wp2_with fail
              go_meet
              exact ⟨congrArg _ (HvZ.out _ hx).symm, rfl⟩
          case rest =>
          obtain ⟨rfl, hww⟩ := hcut
          subst hww
          go_upto_if 48 with fail
          go_cut [13] (fun y wx => y = .int .i64 (vv V e.t) ∧ wx = wc)
          case first =>
            by_cases hx : e.t < n
            · have hxi : (e.t : Int) < (n : Int) := by omega
              obtain ⟨b2, off2, x, rfl, hb2, hxx, hc2⟩ := (hVl.below hbr).at_ hx
              obtain rfl : x = vv V e.t := by rw [HvE.out _ hx]; rw [List.getElem?_eq_getElem (show e.t < V.length by omega)] at hxx; exact (Option.some.inj hxx).symm
              clear hxx
              go_wp2_with fail
              go_meet
              exact ⟨rfl, rfl⟩
            · have hxi : ¬ (e.t : Int) < (n : Int) := by omega
              go_wp2_with fail
              go_meet
              exact ⟨congrArg _ (HvZ.out _ hx).symm, rfl⟩
          case rest =>
            obtain ⟨rfl, hww⟩ := hcut
            subst hww
            have Htg : Hid (tg V e = decide (vv V e.f + e.b = vv V e.t)) := rfl
            generalize vv V e.f = vf at *
            generalize vv V e.t = vt at *
            have HD : ∀ (_ : tg V e = true → sset bj e.f → sset bj e.t) (_ : ch = false), ∀ e' ∈ E.take (j + 1), tg V e' = true → sset bj e'.f → sset bj e'.t := fun hno hc e' he' => by
              rw [Hst.out] at he'
              rcases List.mem_append.1 he' with h8 | h8
              · exact Hcl.out hc e' h8
              · rw [List.mem_singleton.1 h8]; exact hno
            have HD2 := Lib.hid HD
            clear HD
            cases bf
            · have hno : Hid (tg V e = true → sset bj e.f → sset bj e.t) := fun _ h8 => by unfold sset at h8; rw [hbf] at h8; simp at h8
              clear hbf hbt
              go_wp2_with fail
              go_roundw
              case rel => exact ⟨j + 1, ch, bj, by omega, by go_num, rfl, HR.out, hown, Hu1.out, Hu2.out, HD2.out hno.out, hbr⟩
              case measure => simp [intOf] <;> omega
            · cases bt
              · by_cases ht : vf + e.b = vt
                · have hsf : sset bj e.f := hbf
                  have hR2 := HR.out.set hsf (tn_mem.2 ⟨e, Hin.out, rfl, rfl, by rw [Htg.out]; exact decide_eq_true ht⟩) et
                  have hun : un (n + 1) (bj.set e.t true) < un (n + 1) bj := un_lt (v := e.t) (fun x hx => by rw [sset_set (by omega)]; exact .inl hx) et (by unfold sset; rw [hbt]; simp) (by rw [sset_set (by omega)]; exact .inr rfl)
                  have HR2 := Lib.hid hR2
                  have Hun := Lib.hid hun
                  have hown2 := own_storeB hown e.t true
                  have hbr2 : Below g w (wc.setCell ⟨g, e.t, none⟩ (.bool true)) := hbr.setCell (Nat.le_refl _) _
                  clear hsf hR2 hun hbf hbt
                  go_wp2_with fail
                  go_roundw
                  case rel => exact ⟨j + 1, true, bj.set e.t true, by omega, by go_num, rfl, HR2.out, hown2, by have := Hun.out; have := Hu1.out; omega, fun _ => by have := Hun.out; have := Hu1.out; omega, fun h8 => (by cases h8), hbr2⟩
                  case measure => simp [intOf] <;> omega
                · have hno : Hid (tg V e = true → sset bj e.f → sset bj e.t) := fun h8 _ => by rw [Htg.out] at h8; exact absurd (of_decide_eq_true h8) ht
                  clear hbf hbt
                  go_wp2_with fail
                  go_roundw
                  case rel => exact ⟨j + 1, ch, bj, by omega, by go_num, rfl, HR.out, hown, Hu1.out, Hu2.out, HD2.out hno.out, hbr⟩
                  case measure => simp [intOf] <;> omega
              · have hno : Hid (tg V e = true → sset bj e.f → sset bj e.t) := fun _ _ => hbt
                clear hbf hbt
                go_wp2_with fail
                go_roundw
                case rel => exact ⟨j + 1, ch, bj, by omega, by go_num, rfl, HR.out, hown, Hu1.out, Hu2.out, HD2.out hno.out, hbr⟩
                case measure => simp [intOf] <;> omega
        · obtain rfl : j = m := by omega
          have hji : ¬ (j : Int) < (j : Int) := by omega
          rw [List.take_of_length_le (by omega)] at hcl
          have Hcl := Lib.hid hcl
          have Hmj : Hid (mU g (n + 1) wr = un (n + 1) bj) := mU_own hown hR.len
          have HR := Lib.hid hR
          clear hcl hR
          go_wp2_with fail
          go_roundw
          case rel => exact ⟨ch, bj, rfl, HR.out, hown, Hcl.out, hbr⟩
          case measure =>
            rw [Hme.out, Hmj.out]
            cases ch
            · simp [flg]; omega
            · have := hu2 rfl
              simp [flg]; omega
end Go.Proofs.Ytfaebmpdianniaa
