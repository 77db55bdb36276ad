/-
  'parts' of package level: the texts of the parts of any text, as a row of strings.
-/
import Derived.Test.YtgbbmcfhakliiaaGreatDoorAtoi
import Derived.Test.YtgbbmcfhakliiaaGreatDoorTxtR
namespace Go.Proofs.YtgbbmcfhakliiaaGreatDoor
open Go Go.RowKit Go.Shelf

/-- the slice value (A, n) reads as the texts ps -/
def SL (w : World) (B : Nat) (A : Option Addr) (n : Nat) (ps : List (List UInt8)) : Prop :=
  ps.length = n ∧ (0 < n → ∃ b off, A = some ⟨b, off, none⟩ ∧ b < B ∧ ∀ j x, ps[j]? = some x → w.cell? ⟨b, off + j, none⟩ = some (.string (bs x)))
theorem SL.at_ {w : World} {B n k : Nat} {A : Option Addr} {ps : List (List UInt8)} (h : SL w B A n ps) (hk : k < n) : ∃ b off x, A = some ⟨b, off, none⟩ ∧ b < B ∧ ps[k]? = some x ∧ w.cell? ⟨b, off + k, none⟩ = some (.string (bs x)) := by
  obtain ⟨b, off, e, hb, hc⟩ := h.2 (by omega)
  have hl : k < ps.length := by have := h.1; omega
  exact ⟨b, off, ps[k], e, hb, List.getElem?_eq_getElem hl, hc k _ (List.getElem?_eq_getElem hl)⟩
theorem SL.below {w w' : World} {B n : Nat} {A : Option Addr} {ps : List (List UInt8)} (h : SL w B A n ps) (hb : Below B w w') : SL w' B A n ps :=
  ⟨h.1, fun hn => by
    obtain ⟨b, off, e, hB, hc⟩ := h.2 hn
    exact ⟨b, off, e, hB, fun j x hx => (hb.cell (p := ⟨b, off + j, none⟩) hB).trans (hc j x hx)⟩⟩

theorem bs_self (s : ByteArray) : bs s.data.toList = s := by apply ByteArray.ext; simp [bs]
theorem bs_size (l : List UInt8) : (bs l).size = l.length := by simp [bs, ByteArray.size]
theorem splitK_len (sep : List UInt8) : ∀ (k : Nat) (s : List UInt8), ∀ p ∈ Lib.splitK sep 0 k s, p.length ≤ s.length
  | 0, s, p, hp => by rw [show Lib.splitK sep 0 0 s = [s] from rfl] at hp; rw [List.mem_singleton.1 hp]; exact Nat.le_refl _
  | k + 1, s, p, hp => by
    rw [Lib.splitK] at hp
    split at hp
    · rw [List.mem_singleton.1 hp]; exact Nat.le_refl _
    · rcases List.mem_cons.1 hp with rfl | hp
      · rw [List.length_take]; omega
      · have := splitK_len sep k _ p hp
        rw [List.length_drop] at this
        omega
theorem trimPrefix_le (l p : List UInt8) : (Lib.trimPrefix l p).length ≤ l.length := by
  unfold Lib.trimPrefix; split
  · rw [List.length_drop]; omega
  · exact Nat.le_refl _
theorem trimSuffix_le (l p : List UInt8) : (Lib.trimSuffix l p).length ≤ l.length := by
  unfold Lib.trimSuffix; split
  · rw [List.length_take]; omega
  · exact Nat.le_refl _
theorem partsF_len (s : List UInt8) : ∀ p ∈ partsF s, p.length ≤ s.length := by
  intro p hp
  unfold partsF at hp
  split at hp
  · have h1 := splitK_len [44] _ _ p hp
    have h2 := trimSuffix_le (Lib.trimPrefix s [109, 97, 120, 40]) [41]
    have h3 := trimPrefix_le s [109, 97, 120, 40]
    omega
  · rw [List.mem_singleton.1 hp]; exact Nat.le_refl _
theorem splitB_bs (k : Nat) (l : List UInt8) : Lib.splitB ⟨#[44]⟩ 0 k (bs l) = (Lib.splitK [44] 0 k l).map bs := by
  have h := Lib.splitB_data ⟨#[44]⟩ 0 k (bs l)
  rw [bs_data] at h
  rw [← h, List.map_map]
  have e : (bs ∘ fun x : ByteArray => x.data.toList) = id := funext bs_self
  rw [e, List.map_id]
theorem cutPrefix_any (s : ByteArray) (p : List UInt8) (w : World) :
    Calls Tryz.prog 31 #[.string s, .string (bs p)] w fun e w' => e = .returned (.tuple #[.string (bs (Lib.trimPrefix s.data.toList p)), .bool (Lib.hasPrefix s.data.toList p)]) ∧ w' = w := by
  have h := Any.strings_CutPrefix Tryz.layCutPrefix s (bs p) w
  rw [bs_data] at h
  exact h

set_option maxRecDepth 100000 in
set_option maxHeartbeats 2000000 in
theorem parts_any (s : ByteArray) (w : World) (hs : s.size ≤ 1000000) (hE : w.ShapedOpen Tryz.prog) :
    Calls Tryz.prog 30 #[.string s] w fun e w' => ∃ (A : Option Addr) (n cap : Nat), e = .returned (.slice A n cap) ∧ SL w' w'.heap.size A n (partsF s.data.toList) ∧ Below w.heap.size w w' ∧ n ≤ 1000001 ∧ ∀ b off, A = some ⟨b, off, none⟩ → w.heap.size ≤ b := by
  have hl : s.data.toList.length ≤ 1000000 := by rw [← Lib.size_eq]; exact hs
  have hc := cutPrefix_any s [109, 97, 120, 40] w
  have hpl := trimPrefix_le s.data.toList [109, 97, 120, 40]
  cases hp : Lib.hasPrefix s.data.toList [109, 97, 120, 40]
  · rw [hp] at hc
    have HP : Hid (partsF s.data.toList = [s.data.toList]) := partsF_one hp
    have Hc := Lib.hid hc
    clear hc hp hpl hl
    go_enter Tryz.func30, Tryz.ntmps30
    go_wp2_with fail
    refine Hc.out.mono ?_
    rintro e w1 ⟨rfl, rfl⟩
    go_wp2_with fail
    go_ret
    refine ⟨_, _, _, rfl, ?_, (Below.refl _ w1).alloc (Nat.le_refl _) _, by omega, fun b off e => by injection e with e; injection e with e; omega⟩
    rw [HP.out]
    refine ⟨rfl, fun _ => ⟨w1.heap.size, 0, rfl, by simp, fun j x hx => ?_⟩⟩
    have hj : j = 0 := by have := (List.getElem?_eq_some_iff.1 hx).1; simp at this; exact this
    subst hj
    simp at hx; subst hx
    rw [bs_self]
    simp
  · rw [hp] at hc
    obtain ⟨t, ht⟩ : ∃ t, Lib.trimPrefix s.data.toList [109, 97, 120, 40] = t := ⟨_, rfl⟩
    rw [ht] at hc hpl
    have h2 := Any.strings_TrimSuffix Tryz.layTrimSuffix (bs t) ⟨#[41]⟩ w (by rw [bs_size]; omega)
    rw [bs_data] at h2
    obtain ⟨u, hu⟩ : ∃ u, Lib.trimSuffix t [41] = u := ⟨_, rfl⟩
    have hul := trimSuffix_le t [41]
    rw [hu] at hul
    change Calls Tryz.prog 47 #[.string (bs t), .string ⟨#[41]⟩] w (fun e w' => e = .returned (.string (bs (Lib.trimSuffix t [41]))) ∧ w' = w) at h2
    rw [hu] at h2
    have h3 := Any.strings_SplitN_shaped Tryz.laySplitN (bs u) ⟨#[44]⟩ 9 w hE (by rw [bs_size]; omega) (by decide) (by omega) (by omega)
    rw [bs_size, splitB_bs] at h3
    have Hn : Hid ((Lib.splitK [44] 0 (min 9 (u.length + 1) - 1) u).length ≤ 1000001) := by
      have h1 := Lib.splitB_length_le ⟨#[44]⟩ 0 (min 9 (u.length + 1) - 1) (bs u)
      rw [splitB_bs, List.length_map] at h1
      rw [Hid]; omega
    have HP : Hid (partsF s.data.toList = Lib.splitK [44] 0 (min 9 (u.length + 1) - 1) u) := by rw [Hid, partsF, if_pos hp, ht, hu]; rfl
    generalize hps : Lib.splitK [44] 0 (min 9 (u.length + 1) - 1) u = ps at h3 HP Hn
    have hc3 := h3
    have Hc := Lib.hid hc
    have H2 := Lib.hid h2
    have H3 := Lib.hid h3
    clear hc h2 h3 hc3 hp hpl hl ht hu hul hps
    go_enter Tryz.func30, Tryz.ntmps30
    go_wp2_with fail
    refine Hc.out.mono ?_
    rintro e w1 ⟨rfl, rfl⟩
    go_wp2_with fail
    refine H2.out.mono ?_
    rintro e w2 ⟨rfl, rfl⟩
    go_wp2_with fail
    refine H3.out.mono ?_
    rintro e w3 ⟨rfl, rfl⟩
    go_wp2_with fail
    go_ret
    refine ⟨_, _, _, rfl, ?_, (Below.refl _ w2).alloc (Nat.le_refl _) _, Hn.out, fun b off e => by injection e with e; injection e with e; omega⟩
    rw [HP.out]
    refine ⟨rfl, fun _ => ⟨w2.heap.size, 0, rfl, by simp, fun j x hx => ?_⟩⟩
    rw [Nat.zero_add, World.cell?_alloc_new]
    obtain ⟨hj, hxe⟩ := List.getElem?_eq_some_iff.1 hx
    simp [Lib.cellsOf, List.getElem?_append_left, hj, hxe]
end Go.Proofs.YtgbbmcfhakliiaaGreatDoor
