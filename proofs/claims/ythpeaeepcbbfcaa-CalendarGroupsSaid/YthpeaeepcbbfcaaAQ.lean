/- Slices of numbers; same. -/
import Derived.Test.YthpeaeepcbbfcaaAP
namespace Go.Proofs.Ythpeaeepcbbfcaa
open Go.RowKit

/-- The slice value with address p and length n reads as the list l. -/
structure Rd (w : World) (p : Option Addr) (n : Nat) (l : List Int) : Prop where
  len : l.length = n
  cell : n = 0 ∨ ∃ b off, p = some ⟨b, off, none⟩ ∧ b < w.heap.size ∧ ∀ j, j < n → w.cell? ⟨b, off + j, none⟩ = some (.int .i64 (l.getD j 0))
theorem Rd.nil (w : World) (p : Option Addr) : Rd w p 0 [] := ⟨rfl, .inl rfl⟩
theorem Rd.below {w w' : World} {p : Option Addr} {n : Nat} {l : List Int} (h : Rd w p n l) (hb : Below w.heap.size w w') : Rd w' p n l := by
  refine ⟨h.len, ?_⟩
  rcases h.cell with h0 | ⟨b, off, hp, hlt, hc⟩
  · exact .inl h0
  · exact .inr ⟨b, off, hp, Nat.lt_of_lt_of_le hlt hb.size, fun j hj => (hb.cell (p := ⟨b, off + j, none⟩) hlt).trans (hc j hj)⟩
theorem Rd.at {w : World} {p : Option Addr} {n : Nat} {l : List Int} (h : Rd w p n l) {k : Nat} (hk : k < n) : ∃ b off d, p = some ⟨b, off, none⟩ ∧ b < w.heap.size ∧ w.cell? ⟨b, off + k, none⟩ = some (.int .i64 d) ∧ Hid (l.getD k 0 = d) := by
  rcases h.cell with h0 | ⟨b, off, h1, h2, h3⟩
  · omega
  · exact ⟨b, off, _, h1, h2, h3 k hk, rfl⟩

set_option maxHeartbeats 800000 in
theorem same_any (p q : Option Addr) (n c d : Nat) (l : List Int) (w : World) (hn : n ≤ 1000) (hnc : n ≤ c) (hnd : n ≤ d) (hx : Rd w p n l) (hy : Rd w q n l) :
    Calls Try.prog 38 #[.slice p n c, .slice q n d] w fun e w' => e = .returned (.bool true) ∧ Below w.heap.size w w' := by
  have HX := Lib.hid hx
  have HY := Lib.hid hy
  clear hx hy
  go_enter Try.func38, Try.ntmps38
  go_wp2_with fail
  go_loopw [5] (fun i wr => ∃ k t : Nat, k ≤ n ∧ i = .int .i64 k ∧ wr = w.drewN t) (fun i _ => n - (intOf i).toNat)
  case atStart => exact ⟨0, 0, Nat.zero_le _, rfl, rfl⟩
  case round =>
    obtain ⟨k, t, hk, rfl, rfl⟩ := hrel
    by_cases hlt : k < n
    · obtain ⟨b1, o1, a, rfl, hb1, hc1, ha⟩ := HX.out.at hlt
      obtain ⟨b2, o2, b, rfl, hb2, hc2, hb⟩ := HY.out.at hlt
      obtain rfl : a = b := ha.out.symm.trans hb.out
      have g1 : (w.drewN t).cell? ⟨b1, o1 + k, none⟩ = some (.int .i64 a) := hc1
      have g2 : (w.drewN t).cell? ⟨b2, o2 + k, none⟩ = some (.int .i64 a) := hc2
      clear ha hb
      go_wp2_with fail
      go_quiet (fail)
      go_wp2_with fail
      go_roundw
      case rel => exact ⟨k + 1, _, by omega, by go_num, rfl⟩
      case measure => simp [intOf]; omega
    · obtain rfl : k = n := by omega
      go_wp2_with fail
      go_ret
      exact ⟨rfl, below_drewN (Below.refl _ _) _⟩
end Go.Proofs.Ythpeaeepcbbfcaa
