/-
  A region that draws its order, whose operations only read old cells and whose callees leave old cells alone (they may make memory): walked once, in the class of all worlds in which nothing below a block has changed.
-/
import Derived.Test.YtdhbfkbkgjmniaaGreatDoorBase
namespace Go.Proofs.YtdhbfkbkgjmniaaGreatDoor
open Go Go.RowKit

/-- a world in which nothing below block B is other than in W -/
structure Bel (B : Nat) (W : World) where
  v : World
  h : Below B W v

instance (B : Nat) (W : World) : Nonempty (Bel B W) := ⟨⟨W, Below.refl _ _⟩⟩

theorem wp_region_bel {P : Program} {id : Nat} {Q : Exit → Act → World → Prop} {a : Act} {w : World} {l : List Oper} (B : Nat) (W : World) (hm : P.follows .mixedOrders = true) (hB : Region.lexB .any l.toArray = true) (hw : Below B W w)
    (h : wpQuiet P l.toArray (fun w' => ∃ p : Bel B W, w' = p.v) (fun a' => ∀ w', (∃ p : Bel B W, w' = p.v) → Q .normal a' w') l a) : (Code.region id l.toArray true).wp P Q a w :=
  wp_region_quiet (C := fun w' => ∃ p : Bel B W, w' = p.v) hm hB ⟨⟨w.drew, hw.drew⟩, rfl⟩ (by simpa using h)

theorem Bel.size {B : Nat} {W : World} (p : Bel B W) : W.heap.size ≤ p.v.heap.size := p.h.size
theorem Bel.cell {B : Nat} {W : World} {a : Addr} {v : Value} (ha : a.block < B) (h : W.cell? a = some v) (p : Bel B W) : p.v.cell? a = some v := (p.h.cell ha).trans h

/-- a callee that leaves old memory alone, met in a world of the class -/
theorem Calls.bel_of {P : Program} {f : FuncId} {args : Array Value} {B : Nat} {W : World} {p : Bel B W} {v : Value} (hB : B ≤ W.heap.size)
    (h : Calls P f args p.v fun e w' => e = .returned v ∧ Below p.v.heap.size p.v w') : Calls P f args p.v fun e w'' => e = .returned v ∧ ∃ q : Bel B W, w'' = q.v :=
  h.mono fun _ w' ⟨he, hb⟩ => ⟨he, ⟨w', p.h.trans (hb.mono (Nat.le_trans hB p.h.size))⟩, rfl⟩
theorem Calls.bel_same {P : Program} {f : FuncId} {args : Array Value} {B : Nat} {W : World} {p : Bel B W} {v : Value}
    (h : Calls P f args p.v fun e w' => e = .returned v ∧ p.v = w') : Calls P f args p.v fun e w'' => e = .returned v ∧ ∃ q : Bel B W, w'' = q.v :=
  h.mono fun _ _ ⟨he, hb⟩ => ⟨he, p, hb.symm⟩
end Go.Proofs.YtdhbfkbkgjmniaaGreatDoor
