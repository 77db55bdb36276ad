/-
  'Extend' of the reference: it says the same as Extend of package graph.
-/
import Derived.Test.YtkbhmkngipdkiaaGExt
import Derived.Test.YtkbhmkngipdkiaaGRSol
namespace Go.Proofs.Ytkbhmkngipdkiaa
open Go Go.RowKit

theorem gvld_app (v : Int) (cs ds : List LCn) : gvld v (cs ++ ds) = true ↔ gvld v cs = true ∧ gvld v ds = true ∧ cs.length + ds.length ≤ 3000 := by
  unfold gvld fitB
  simp only [Bool.and_eq_true, decide_eq_true_eq, List.all_append, List.length_append]
  constructor
  · rintro ⟨⟨a, b, c⟩, d, e⟩; exact ⟨⟨⟨a, b, by omega⟩, d⟩, ⟨⟨a, b, by omega⟩, e⟩, c⟩
  · rintro ⟨⟨⟨a, b, _⟩, d⟩, ⟨_, e⟩, c⟩; exact ⟨⟨a, b, c⟩, d, e⟩
theorem gvld_app_false {v : Int} {cs ds : List LCn} (h : ¬ (gvld v cs = true ∧ gvld v ds = true ∧ cs.length + ds.length ≤ 3000)) : gvld v (cs ++ ds) = false := by
  cases hg : gvld v (cs ++ ds) with
  | false => rfl
  | true => exact absurd ((gvld_app v cs ds).1 hg) h
/-- the reference's numbers are the least ones -/
theorem RS.lst {n : Nat} {cs : List LCn} {L : List Int} (h : RS n cs L) : Lst (fun e => e ∈ esA n cs) (gx L) := by
  refine ⟨h.sat, h.nn, fun y hy hn v => ?_⟩
  by_cases hv : v < n
  · have h1 := h.least y hy v hv
    have h2 := hn n
    omega
  · rw [gx_out h.len (by omega)]; exact hn v
theorem RS.isSol {n : Nat} {cs : List LCn} {L : List Int} (hcs : ∀ c ∈ cs, Con n c) (h : RS n cs L) : IsSol n cs L := ⟨L, h.lst, h.sol hcs h.lst⟩
theorem RS.notSol {n : Nat} {cs : List LCn} {L sol : List Int} (hcs : ∀ c ∈ cs, Con n c) (h : RS n cs L) (hne : L ≠ sol) : ¬ IsSol n cs sol := fun ⟨xs, h1, h2⟩ => hne (by rw [← h2]; exact (h.sol hcs h1).symm)
/-- what Extend of the reference says -/
def RExtPost (v : Int) (cs ds : List LCn) (sol : List Int) (w : World) (e : Ending) (w' : World) : Prop :=
  Below w.heap.size w w' ∧ (gvld v (cs ++ ds) = false ∧ e = .returned (.tuple #[.slice none 0 0, .int .i64 4]) ∨
    gvld v (cs ++ ds) = true ∧ ∃ n : Nat, v = n ∧ (¬ IsSol n cs sol ∧ e = .returned (.tuple #[.slice none 0 0, .int .i64 1]) ∨
      IsSol n cs sol ∧ (e = .returned (.tuple #[.slice none 0 0, .int .i64 20]) ∧ (∀ y, Sat (fun e => e ∈ esA n (cs ++ ds)) y → False) ∨
        ∃ u L, e = .returned (.tuple #[u, .int .i64 0]) ∧ w'.ownsRow w.heap.size 3 1 u n (int1 L) ∧ RS n (cs ++ ds) L)))
theorem ExtPost.shape {v : Int} {cs ds : List LCn} {sol : List Int} {w w1 : World} {e : Ending} (h : ExtPost v cs ds sol w e w1) : ∃ A n c er, e = .returned (.tuple #[.slice A n c, .int .i64 er]) := by
  obtain ⟨_, h⟩ := h
  rcases h with ⟨_, rfl⟩ | ⟨_, n, _, ⟨_, rfl⟩ | ⟨_, ⟨rfl, _⟩ | ⟨u, xs, rfl, h3, _⟩⟩⟩
  · exact ⟨_, _, _, _, rfl⟩
  · exact ⟨_, _, _, _, rfl⟩
  · exact ⟨_, _, _, _, rfl⟩
  · obtain ⟨A, c, rfl, _⟩ := il_own h3
    exact ⟨_, _, _, _, rfl⟩
theorem ExtPost.same {v : Int} {cs ds : List LCn} {sol : List Int} {w w1 w2 : World} {e d : Ending} (h : ExtPost v cs ds sol w e w1) (g : RExtPost v cs ds sol w1 d w2) :
    ∃ A n cA B cB er l, e = .returned (.tuple #[.slice A n cA, .int .i64 er]) ∧ d = .returned (.tuple #[.slice B n cB, .int .i64 er]) ∧ IL w2 w2.heap.size A n l ∧ IL w2 w2.heap.size B n l ∧ n ≤ 1000000 := by
  obtain ⟨hb1, h⟩ := h
  obtain ⟨hb2, g⟩ := g
  have hnil : IL w2 w2.heap.size none 0 [] := ⟨rfl, fun h => by omega⟩
  rcases h with ⟨h1, rfl⟩ | ⟨h1, n, rfl, h2⟩ <;> rcases g with ⟨g1, rfl⟩ | ⟨g1, m, gm, g2⟩
  · exact ⟨_, _, _, _, _, _, _, rfl, rfl, hnil, hnil, by omega⟩
  · rw [h1] at g1; cases g1
  · rw [h1] at g1; cases g1
  · obtain rfl : n = m := by omega
    obtain ⟨n', e1, e2, _, hcs⟩ := gvld_parts h1
    obtain rfl : n = n' := by omega
    rcases h2 with ⟨h3, rfl⟩ | ⟨h3, h4⟩ <;> rcases g2 with ⟨g3, rfl⟩ | ⟨g3, g4⟩
    · exact ⟨_, _, _, _, _, _, _, rfl, rfl, hnil, hnil, by omega⟩
    · exact (h3 g3).elim
    · exact (g3 h3).elim
    · rcases h4 with ⟨rfl, h5⟩ | ⟨u, xs, rfl, h5, h6⟩ <;> rcases g4 with ⟨rfl, g5⟩ | ⟨u', L, rfl, g5, g6⟩
      · exact ⟨_, _, _, _, _, _, _, rfl, rfl, hnil, hnil, by omega⟩
      · exact (h5 _ g6.sat).elim
      · exact (g5 _ h6.sat).elim
      · rw [g6.sol hcs h6] at h5
        obtain ⟨A, cA, rfl, hA⟩ := il_own h5
        obtain ⟨B, cB, rfl, hB⟩ := il_own g5
        exact ⟨_, _, _, _, _, _, _, rfl, rfl, (hA.below hb2).more hb2.size, hB, by omega⟩

end Go.Proofs.Ytkbhmkngipdkiaa
