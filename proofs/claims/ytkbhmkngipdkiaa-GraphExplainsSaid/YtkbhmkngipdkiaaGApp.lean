/-
  append of a whole list of constraints to a row of constraints of one's own, in one law.
-/
import Derived.Test.YtkbhmkngipdkiaaGConcat
namespace Go.Proofs.Ytkbhmkngipdkiaa
open Go Go.RowKit

theorem own_nil_cap {w : World} {base n size c : Nat} {e : TypeId} {A : Option Addr} {xs : List Value} (h : w.ownsRow base e size (.slice A n c) n xs) : (A = none → c = 0) ∧ n ≤ c ∧ c ≤ maxLen := by
  rcases h.2 with ⟨h1, h2⟩ | ⟨g, cap, cur, h1, _, _, h3, h4, _⟩
  · cases h1; exact ⟨fun _ => rfl, by omega, Nat.zero_le _⟩
  · cases h1; exact ⟨fun e => by (cases e), h3, h4⟩

theorem wpList_append_cl {ops : Array Oper} {rest : List Oper} {o : Oper} {a : Act} {w : World} {Q : Exit → Act → World → Prop} (hgd : o.guard = none) (s x : Operand)
    (ho : o.op = .call { callee := .builtin .append, args := #[s, x], argTypes := #[22, 22] })
    (base B n : Nat) (v : Value) (xs : List Value) (hs : a.eval s = v) (hown : w.ownsRow base 46 4 v n xs) (A : Option Addr) (K cap : Nat) (cs ds : List LCn) (hx : a.eval x = .slice A K cap) (hA : A = none → cap = 0) (hCL : CL w B A K cs) (hcv : CV w B xs ds)
    (hB : B ≤ base) (hbase : base ≤ w.heap.size) (hn : n + K ≤ 100000) (m : Nat) (es : List LCn) (hm : m = n + K) (hes : es = ds ++ cs)
    (h : ∀ A' c' w' xs', w'.ownsRow base 46 4 (.slice A' m c') m xs' → CV w' B xs' es → CL w' w'.heap.size A' m es → Below base w w' → wpList Try.prog ops Q rest (a.put o.dst (.slice A' m c')) w') : wpList Try.prog ops Q (o :: rest) a w := by
  subst hm
  subst hes
  obtain ⟨i0, hi, hz0, hz1, hz2⟩ := info_parts infoC
  cases A with
  | none =>
    obtain rfl := hA rfl
    obtain ⟨rfl, rfl⟩ := cl_nil hCL
    obtain ⟨A', c', rfl, hc, _, _⟩ := CL.of_own hown hcv (Nat.le_trans hB hbase)
    refine wpList_append_own_none hgd s x 22 ho base 46 i0 4 Try.underlying22 hi _ n xs hs hown hx ?_
    exact h A' c' w xs hown (by rw [List.append_nil]; exact hcv) (by rw [List.append_nil]; exact hc) (Below.refl _ _)
  | some ad =>
    obtain ⟨ys, hys, hcs⟩ := CV.cells hCL
    obtain ⟨hcv2, hcell⟩ := hcs w (Below.refl _ _)
    refine wpList_append_own w hgd s x 22 ho base 46 i0 (.agg #[.int .i64 0, .slice none 0 0, .int .i64 0, .slice none 0 0]) 4 64 Try.underlying22 hi hz0 hz1 hz2 rfl (by decide) v n xs hs hown ad K cap ys hx hys hcell hcv2.oneCell (by unfold maxLen; omega) (by omega) hbase ?_
    intro v' w' hown' hg _
    have hb : Below base w w' := (Below.refl _ w).grown hg hbase fun j hj => (hown.lt j hj).1
    have hcv' := (hcv.below (hb.mono hB)).append (hcv2.below (hb.mono hB))
    obtain ⟨A', c', rfl, hc, _, _⟩ := CL.of_own hown' hcv' (Nat.le_trans (Nat.le_trans hB hbase) hb.size)
    exact h A' c' w' _ hown' hcv' hc hb
end Go.Proofs.Ytkbhmkngipdkiaa
