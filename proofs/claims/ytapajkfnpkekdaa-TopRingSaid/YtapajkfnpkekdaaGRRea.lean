/-
  'reached' of the reference: the nodes that tight edges lead to.
-/
import Derived.Test.YtapajkfnpkekdaaGWalk
import Derived.Test.YtapajkfnpkekdaaGRLon
namespace Go.Proofs.Ytapajkfnpkekdaa
open Go Go.RowKit

/-- the value of a node: the last node stands for 0 -/
def vv (V : List Int) (x : Nat) : Int := V.getD x 0
/-- an edge that holds with nothing to spare -/
def tg (V : List Int) (e : Edg) : Bool := decide (vv V e.f + e.b = vv V e.t)
/-- where tight edges lead from a node -/
def tn (V : List Int) (E : List Edg) (x : Nat) : List Nat := (E.filter fun e => e.f == x && tg V e).map (·.t)
theorem tn_mem {V : List Int} {E : List Edg} {x y : Nat} : y ∈ tn V E x ↔ ∃ e ∈ E, e.f = x ∧ e.t = y ∧ tg V e = true := by
  unfold tn
  rw [List.mem_map]
  constructor
  · rintro ⟨e, he, rfl⟩
    obtain ⟨h1, h2⟩ := List.mem_filter.1 he
    simp at h2
    exact ⟨e, h1, h2.1, rfl, h2.2⟩
  · rintro ⟨e, h1, h2, h3, h4⟩
    exact ⟨e, List.mem_filter.2 ⟨h1, by simp [h2, h4]⟩, h3⟩
def isT : Option Value → Bool
  | some (.bool true) => true
  | _ => false
/-- how many nodes are not marked, as they lie -/
def mU (g N : Nat) (w : World) : Nat := (List.range N).countP fun x => !isT (w.cell? ⟨g, x, none⟩)
def flg : Value → Nat
  | .bool true => 1
  | _ => 0
theorem mU_own {w : World} {base g n N : Nat} {e : TypeId} {bs : List Bool} (h : w.ownsRow base e 1 (.slice (some ⟨g, 0, none⟩) n n) n (bool1 bs)) (hl : bs.length = N) : mU g N w = un N bs := by
  unfold mU un
  refine List.countP_congr fun x hx => ?_
  have hxN : x < bs.length := by rw [hl]; exact List.mem_range.1 hx
  rw [(own_cellB h (List.getElem?_eq_getElem hxN)).1, List.getElem?_eq_getElem hxN]
  cases bs[x] <;> simp [isT]
/-- what is so of the marks at each time -/
structure RcI (next : Nat → List Nat) (s N : Nat) (bs : List Bool) : Prop where
  len : bs.length = N
  at_ : sset bs s
  rc : ∀ x, sset bs x → Rch next s x
theorem RcI.set {next : Nat → List Nat} {s N f t : Nat} {bs : List Bool} (h : RcI next s N bs) (hf : sset bs f) (ht : t ∈ next f) (htN : t < N) : RcI next s N (bs.set t true) := by
  refine ⟨by rw [List.length_set]; exact h.len, by rw [sset_set (by rw [h.len]; exact htN)]; exact .inl h.at_, fun x hx => ?_⟩
  rw [sset_set (by rw [h.len]; exact htN)] at hx
  rcases hx with h1 | rfl
  · exact h.rc x h1
  · exact .step (h.rc f hf) ht trivial
theorem RcI.all {s N : Nat} {V : List Int} {E : List Edg} {bs : List Bool} (h : RcI (tn V E) s N bs) (hc : ∀ e ∈ E, tg V e = true → sset bs e.f → sset bs e.t) (x : Nat) : sset bs x ↔ Rch (tn V E) s x := by
  refine ⟨h.rc x, fun hx => ?_⟩
  unfold Rch at hx
  induction hx with
  | refl _ => exact h.at_
  | step _ h2 _ ih =>
    obtain ⟨e, he, rfl, rfl, h3⟩ := tn_mem.1 h2
    exact hc e he h3 ih
theorem sset_iff {bs : List Bool} {x : Nat} (hx : x < bs.length) : sset bs x ↔ bs[x] = true := by
  unfold sset
  rw [List.getElem?_eq_getElem hx]
  simp

/-- what reached says -/
def ReaPost (n s : Nat) (V : List Int) (E : List Edg) (w : World) (e : Ending) (w' : World) : Prop :=
  ∃ (g : Nat) (bs : List Bool), e = .returned (.slice (some ⟨g, 0, none⟩) (n + 1) (n + 1)) ∧ w'.ownsRow w.heap.size 4 1 (.slice (some ⟨g, 0, none⟩) (n + 1) (n + 1)) (n + 1) (bool1 bs) ∧ bs.length = n + 1 ∧ (∀ x, sset bs x ↔ Rch (tn V E) s x) ∧ Below w.heap.size w w'

end Go.Proofs.Ytapajkfnpkekdaa
