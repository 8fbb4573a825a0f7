/- Slices of slices of numbers; sameGroups. -/
import Derived.Test.YthpeaeepcbbfcaaAV
namespace Go.Proofs.Ythpeaeepcbbfcaa
open Go.RowKit

/-- The slice value with address p and length n reads as the list of lists ls. -/
structure Rs (w : World) (p : Option Addr) (n : Nat) (ls : List (List Int)) : Prop where
  len : ls.length = n
  cell : n = 0 ∨ ∃ b off, p = some ⟨b, off, none⟩ ∧ b < w.heap.size ∧ ∀ j, j < n → ∃ q m c, w.cell? ⟨b, off + j, none⟩ = some (.slice q m c) ∧ m ≤ c ∧ m ≤ 1000 ∧ Rd w q m (ls.getD j [])
theorem Rs.nil (w : World) (p : Option Addr) : Rs w p 0 [] := ⟨rfl, .inl rfl⟩
theorem Rs.below {w w' : World} {p : Option Addr} {n : Nat} {ls : List (List Int)} (h : Rs w p n ls) (hb : Below w.heap.size w w') : Rs w' p n ls := by
  refine ⟨h.len, ?_⟩
  rcases h.cell with h0 | ⟨b, off, hp, hlt, hc⟩
  · exact .inl h0
  · refine .inr ⟨b, off, hp, Nat.lt_of_lt_of_le hlt hb.size, fun j hj => ?_⟩
    obtain ⟨q, m, c, h1, h2, h3, h4⟩ := hc j hj
    exact ⟨q, m, c, (hb.cell (p := ⟨b, off + j, none⟩) hlt).trans h1, h2, h3, h4.below hb⟩
theorem Rs.at {w : World} {p : Option Addr} {n : Nat} {ls : List (List Int)} (h : Rs w p n ls) {k : Nat} (hk : k < n) : ∃ b off q m c l, p = some ⟨b, off, none⟩ ∧ b < w.heap.size ∧ w.cell? ⟨b, off + k, none⟩ = some (.slice q m c) ∧ m ≤ c ∧ m ≤ 1000 ∧ Hid (Rd w q m l) ∧ Hid (ls.getD k [] = l) := by
  rcases h.cell with h0 | ⟨b, off, h1, h2, h3⟩
  · omega
  · obtain ⟨q, m, c, g1, g2, g3, g4⟩ := h3 k hk
    exact ⟨b, off, q, m, c, _, h1, h2, g1, g2, g3, g4, rfl⟩

/-- What a round of sameGroups keeps: the two cells. -/
structure Sg (wr : World) (A1 A2 : Addr) (v1 v2 : Value) (W : World) : Prop where
  below : Below wr.heap.size wr W
  l1 : A1.block < wr.heap.size
  l2 : A2.block < wr.heap.size
  c1 : wr.cell? A1 = some v1
  c2 : wr.cell? A2 = some v2
variable {wr W W' : World} {A1 A2 : Addr} {v1 v2 : Value}
theorem Sg.drew (h : Sg wr A1 A2 v1 v2 W) : Sg wr A1 A2 v1 v2 W.drew := ⟨h.below.drew, h.l1, h.l2, h.c1, h.c2⟩
theorem Sg.next (h : Sg wr A1 A2 v1 v2 W) (hb : Below W.heap.size W W') : Sg wr A1 A2 v1 v2 W' := ⟨bel_next h.below hb, h.l1, h.l2, h.c1, h.c2⟩
theorem Sg.all (h : Sg wr A1 A2 v1 v2 W) : Sg wr A1 A2 v1 v2 W ∧ W.cell? A1 = some v1 ∧ W.cell? A2 = some v2 := ⟨h, (h.below.cell h.l1).trans h.c1, (h.below.cell h.l2).trans h.c2⟩

set_option maxRecDepth 100000 in
set_option maxHeartbeats 1600000 in
theorem sameGroups_any (p q : Option Addr) (n c d : Nat) (ls : List (List Int)) (w : World) (hn : n ≤ 1000) (hnc : n ≤ c) (hnd : n ≤ d) (hx : Rs w p n ls) (hy : Rs w q n ls) :
    Calls Try.prog 45 #[.slice p n c, .slice q n d] w fun e w' => e = .returned (.bool true) ∧ Below w.heap.size w w' := by
  have HX := Lib.hid hx
  have HY := Lib.hid hy
  clear hx hy
  go_enter Try.func45, Try.ntmps45
  go_wp2_with fail
  go_loopw [5] (fun i wr => ∃ k : Nat, k ≤ n ∧ i = .int .i64 k ∧ Hid (Below w.heap.size w wr)) (fun i _ => n - (intOf i).toNat)
  case atStart => exact ⟨0, Nat.zero_le _, rfl, Lib.hid (Below.refl _ _)⟩
  case round =>
    obtain ⟨k, hk, rfl, HB⟩ := hrel
    by_cases hlt : k < n
    · obtain ⟨b1, o1, q1, m1, c1, l1, rfl, hb1, hcell1, hm1, hm1', hr1, ha⟩ := (HX.out.below HB.out).at hlt
      obtain ⟨b2, o2, q2, m2, c2, l2, rfl, hb2, hcell2, hm2, hm2', hr2, hb⟩ := (HY.out.below HB.out).at hlt
      obtain rfl : l1 = l2 := ha.out.symm.trans hb.out
      obtain rfl : m1 = m2 := hr1.out.len.symm.trans hr2.out.len
      have hs := Lib.hid (fun W (hW : Below wr.heap.size wr W) => same_any q1 q2 m1 c1 c2 l1 W hm1' hm1 hm2 (hr1.out.below hW) (hr2.out.below hW))
      have hG := Lib.hid (show Sg wr ⟨b1, o1 + k, none⟩ ⟨b2, o2 + k, none⟩ (.slice q1 m1 c1) (.slice q2 m1 c2) wr from ⟨Below.refl _ _, hb1, hb2, hcell1, hcell2⟩)
      clear ha hb hm1 hm2 hb1 hb2 hcell1 hcell2
      go_wp2_with fail
      go_region_held3 (fun w' => Sg wr ⟨b1, o1 + k, none⟩ ⟨b2, o2 + k, none⟩ (.slice q1 m1 c1) (.slice q2 m1 c2) w' ∧ w'.cell? ⟨b1, o1 + k, none⟩ = some (.slice q1 m1 c1) ∧ w'.cell? ⟨b2, o2 + k, none⟩ = some (.slice q2 m1 c2))
        (first | exact Sg.all (Sg.drew hG.out) | exact Sg.all hG.out | (go_split_ands; exact Sg.all (Sg.next (by assumption) hb1)) | go_keep)
        (first | (go_at_call 38; go_split_ands; refine (hs.out _ (Sg.below (by assumption))).mono ?_; rintro e w1 ⟨rfl, hb1⟩; have hG1 := Lib.hid (Sg.next (by assumption) hb1)))
      have HBk := Lib.hid (bel_next HB.out hG1.out.below)
      go_wp2_with fail
      go_roundw
      case rel => exact ⟨k + 1, by omega, by go_num, HBk⟩
      case measure => simp [intOf]; omega
    · obtain rfl : k = n := by omega
      go_wp2_with fail
      go_ret
      exact ⟨rfl, HB.out⟩
end Go.Proofs.Ythpeaeepcbbfcaa
