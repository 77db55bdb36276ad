/-
  'Follows' of package graph.
-/
import Derived.Test.YtapajkfnpkekdaaConAll
import Derived.Test.YtapajkfnpkekdaaRGVld
import Derived.Test.YtapajkfnpkekdaaGRFol
import Derived.Deep.RegionLaw
import Derived.Deep.RegionHeldLaw
namespace Go.Proofs.Ytapajkfnpkekdaa
open Go Go.RowKit

theorem step_append_d {P : Program} {ops : Array Oper} {o : Oper} {a : Act} {w : World} {K : Act → World → Prop} {Q : Exit → Act → World → Prop} {E : Prop}
    (d : Nat) (hd : o.dst = some d) (hg : o.guard = none) (s x : Operand) (t : TypeId) (hop : o.op = Op.call { callee := Callee.builtin Builtin.append, args := #[s, x], argTypes := #[t, t] })
    (base : Nat) (e : TypeId) (i : TypeInfo) (z : Value) (size bytes : Nat) (h1 : P.underlying t = some (.slice e)) (h2 : P.info? e = some i) (h3 : i.zero = some z) (h4 : i.size = size) (h5 : i.bytes = bytes) (h6 : z.cells.size = size) (h7 : 0 < size)
    (v : Value) (n : Nat) (xs : List Value) (hs : a.eval s = v) (hown : w.ownsRow base e size v n xs)
    (ad : Addr) (m c : Nat) (news : List Value) (hx : a.eval x = .slice (some ad) m c) (hn : news.length = m * size) (hc : ∀ j u, news[j]? = some u → w.cell? (ad.add j) = some u) (h1c : ∀ u ∈ news, u.oneCell' = true)
    (b1 : n + m ≤ maxLen) (b2 : (n + m) * bytes ≤ 140737488355328) (b3 : base ≤ w.heap.size)
    (hK : ∀ v' w', w'.ownsRow base e size v' (n + m) (xs ++ news) → w.grownBy w' v.ownBlock → K (a.put (some d) v') w') :
    if Region.wanted o (yielded ops a.tmps) = true then Oper.wp P o a w K Q else E := step_append_own hg s x t hop base e i z size bytes h1 h2 h3 h4 h5 h6 h7 v n xs hs hown ad m c news hx hn hc h1c b1 b2 b3 (by rw [hd]; exact hK)

theorem addr_block (a : Addr) (j : Nat) : (a.add j).block = a.block := by unfold Addr.add; split <;> rfl
theorem gvld_snoc (v : Int) (cs : List LCn) (c : LCn) : gvld v (cs ++ [c]) = folOk v cs c := by
  unfold folOk gvld
  rw [fitB_snoc, List.length_append]
  rw [Bool.eq_iff_iff]
  simp only [Bool.and_eq_true, decide_eq_true_eq, List.length_singleton]
  constructor
  · rintro ⟨⟨a, b, d⟩, h1, h2⟩; exact ⟨⟨⟨⟨a, b, by omega⟩, h1⟩, h2⟩, by omega⟩
  · rintro ⟨⟨⟨⟨a, b, _⟩, h1⟩, h2⟩, d⟩; exact ⟨⟨a, b, by omega⟩, h1, h2⟩

end Go.Proofs.Ytapajkfnpkekdaa
