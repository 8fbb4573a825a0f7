/- Lists of integers in memory; the product of sizes. -/
import Derived.Test.YtigidchicloleaaGreatDoorTE
import Derived.WalkKit
import Derived.WalkSpells
import Derived.WalkLawsBesides
import Derived.Lib.Hide
import Derived.IntWalk
set_option maxHeartbeats 1000000
set_option maxRecDepth 100000
namespace Go.Proofs.YtigidchicloleaaGreatDoor.Arr
open Go.RowKit
open Go.Lib
structure Rd (w : World) (p : Option Addr) (l : List Int) : Prop where
  wf : ∀ z ∈ l, -9223372036854775808 ≤ z ∧ z ≤ 9223372036854775807
  cell : l.length = 0 ∨ ∃ b off, p = some ⟨b, off, none⟩ ∧ b < w.heap.size ∧ ∀ j, j < l.length → w.cell? ⟨b, off + j, none⟩ = some (.int .i64 (l.getD j 0))
theorem Rd.below {w w' : World} {p : Option Addr} {l : List Int} (h : Rd w p l) (hb : Below w.heap.size w w') : Rd w' p l := ⟨h.wf, h.cell.imp id fun ⟨b, off, h1, h2, h3⟩ =>
  ⟨b, off, h1, Nat.lt_of_lt_of_le h2 hb.size, fun j hj => (hb.cell (p := ⟨b, off + j, none⟩) h2).trans (h3 j hj)⟩⟩
theorem Rd.at {w : World} {p : Option Addr} {l : List Int} (h : Rd w p l) {k : Nat} (hk : k < l.length) : ∃ b off z, p = some ⟨b, off, none⟩ ∧ b < w.heap.size ∧ w.cell? ⟨b, off + k, none⟩ = some (.int .i64 z) ∧ Hid (z = l.getD k 0) ∧ -9223372036854775808 ≤ z ∧ z ≤ 9223372036854775807 := by
  rcases h.cell with h0 | ⟨b, off, h1, h2, h3⟩
  · omega
  · refine ⟨b, off, _, h1, h2, h3 k hk, Lib.hid rfl, ?_⟩
    have hm : l.getD k 0 ∈ l := by rw [List.getD_eq_getElem?_getD, List.getElem?_eq_getElem hk]; exact List.getElem_mem hk
    exact h.wf _ hm
def RdN (w : World) (p : Option Addr) (l : List Nat) : Prop := Rd w p (l.map Int.ofNat)
theorem RdN.below {w w' : World} {p : Option Addr} {l : List Nat} (h : RdN w p l) (hb : Below w.heap.size w w') : RdN w' p l := Rd.below h hb
theorem RdN.at {w : World} {p : Option Addr} {l : List Nat} (h : RdN w p l) {k : Nat} (hk : k < l.length) : ∃ b off x, p = some ⟨b, off, none⟩ ∧ b < w.heap.size ∧ w.cell? ⟨b, off + k, none⟩ = some (.int .i64 ((x : Nat) : Int)) ∧ Hid (x = l.getD k 0) := by
  obtain ⟨b, off, z, h1, h2, h3, h4, -⟩ := Rd.at h (k := k) (by simpa using hk)
  refine ⟨b, off, l.getD k 0, h1, h2, ?_, Lib.hid rfl⟩
  rw [h3, h4.out, List.getD_eq_getElem?_getD, List.getElem?_map, List.getD_eq_getElem?_getD, List.getElem?_eq_getElem hk]
  rfl
def prod (l : List Nat) : Nat := l.foldl (· * ·) 1
theorem prod_take {l : List Nat} {i : Nat} (h : i < l.length) : prod (l.take (i + 1)) = prod (l.take i) * l.getD i 0 := by
  rw [List.take_succ_eq_append_getElem h, prod, List.foldl_append]
  simp [prod, List.getD_eq_getElem?_getD, List.getElem?_eq_getElem h]
theorem prod_le {l : List Nat} (hb : ∀ x ∈ l, x ≤ 1024) : ∀ i, i ≤ l.length → prod (l.take i) ≤ 1024 ^ i
  | 0, _ => by simp [prod]
  | i + 1, h => by
    have h1 := prod_le hb i (by omega)
    have h2 : l.getD i 0 ≤ 1024 := by
      rw [List.getD_eq_getElem?_getD, List.getElem?_eq_getElem (by omega)]
      exact hb _ (List.getElem_mem _)
    rw [prod_take (by omega), Nat.pow_succ]
    exact Nat.mul_le_mul h1 h2
theorem pow_small {i : Nat} (h : i ≤ 4) : 1024 ^ i ≤ 1099511627776 := by
  have := Nat.pow_le_pow_right (n := 1024) (by decide) h
  exact Nat.le_trans this (by decide)
theorem product_any (p : Option Addr) (c : Nat) (l : List Nat) (w : World) (hl : l.length ≤ 4) (hb : ∀ x ∈ l, x ≤ 1024) (h : RdN w p l) :
    Calls Tryz.prog 57 #[.slice p l.length c] w fun e w' => w = w' ∧ e = .returned (.int .i64 ((prod l : Nat) : Int)) := by
  have H := Lib.hid h
  have HB := Lib.hid hb
  obtain ⟨n, HN⟩ : ∃ n, Hid (n = l.length) := ⟨_, rfl⟩
  rw [← HN.out] at hl ⊢
  have hni : (n : Int) ≤ 4 := by omega
  clear h hb
  go_enter Tryz.func57, Tryz.ntmps57
  go_wp2_with fail
  go_loop [3, 8] (fun pv iv => ∃ i a : Nat, i ≤ n ∧ iv = .int .i64 i ∧ pv = .int .i64 a ∧ Hid (a = prod (l.take i))) (fun _ iv => n - (Go.RowKit.intOf iv).toNat)
  case atStart => exact ⟨0, 1, Nat.zero_le _, rfl, rfl, Lib.hid (by simp [prod])⟩
  case round =>
    obtain ⟨i, a, hi, rfl, rfl, HA⟩ := hrel
    have ii : (i : Int) ≤ (n : Int) := by omega
    by_cases hlt : i < n
    · have ilt : (i : Int) < (n : Int) := by omega
      obtain ⟨b, off, x, rfl, -, hcell, HX⟩ := H.out.at (k := i) (by rw [← HN.out]; exact hlt)
      obtain ⟨m, HM⟩ : ∃ m, Hid (m = a * x) := ⟨_, rfl⟩
      have hst : Hid (m = prod (l.take (i + 1))) := Lib.hid (by rw [HM.out, prod_take (by rw [← HN.out]; exact hlt), ← HA.out, ← HX.out])
      have hmul : (a : Int) * (x : Int) = (m : Int) := by rw [HM.out]; exact (Int.natCast_mul a x).symm
      have hmi : (m : Int) ≤ 1099511627776 := by
        have h1 := prod_le HB.out (i + 1) (by rw [← HN.out]; omega)
        have h2 := pow_small (i := i + 1) (by omega)
        rw [← hst.out] at h1
        omega
      go_wp2_with fail
      go_round
      case rel => exact ⟨i + 1, m, by omega, by go_num, rfl, hst⟩
      case measure => simp [Go.RowKit.intOf]; omega
    · obtain rfl : i = n := by omega
      have ilt : ¬ (i : Int) < (i : Int) := by omega
      have hfin : Hid (a = prod l) := Lib.hid (by rw [HA.out, HN.out, List.take_length])
      go_wp2_with fail
      go_ret
      exact ⟨rfl, by rw [hfin.out]; rfl⟩
end Go.Proofs.YtigidchicloleaaGreatDoor.Arr
