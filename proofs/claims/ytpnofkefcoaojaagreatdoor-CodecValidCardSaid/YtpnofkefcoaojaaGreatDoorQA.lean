/- Lists of stages; which are too steep for a statement. -/
import Derived.Test.YtpnofkefcoaojaaGreatDoorCF
import Derived.Test.YtpnofkefcoaojaaGreatDoorTE
import Derived.WalkKit
import Derived.WalkSpells
import Derived.WalkLawsBesides
import Derived.Lib.Hide
import Derived.Laws.Externs
import Derived.Shelf.Spec.BitsCarry
import Derived.Laws.CopyOwn
set_option maxHeartbeats 2000000
set_option maxRecDepth 100000
namespace Go.Proofs.YtpnofkefcoaojaaGreatDoor
open Go.RowKit
open Go.Lib
abbrev Sg := Int × Int × List UInt8
def RdG (w : World) (p : Option Addr) (l : List Sg) : Prop := l.length = 0 ∨ ∃ b off, p = some ⟨b, off, none⟩ ∧ b < w.heap.size ∧ ∀ j, j < l.length → w.cell? ⟨b, off + j * 3, none⟩ = some (.int .i64 (l.getD j (0, 0, [])).1) ∧ w.cell? ⟨b, off + j * 3 + 1, none⟩ = some (.int .i64 (l.getD j (0, 0, [])).2.1) ∧ w.cell? ⟨b, off + j * 3 + 2, none⟩ = some (.string ⟨(l.getD j (0, 0, [])).2.2.toArray⟩)
theorem RdG.below {w w' : World} {p : Option Addr} {l : List Sg} (h : RdG w p l) (hb : Below w.heap.size w w') : RdG w' p l := h.imp id fun ⟨b, off, h1, h2, h3⟩ =>
  ⟨b, off, h1, Nat.lt_of_lt_of_le h2 hb.size, fun j hj => ⟨(hb.cell (p := ⟨b, off + j * 3, none⟩) h2).trans (h3 j hj).1, (hb.cell (p := ⟨b, off + j * 3 + 1, none⟩) h2).trans (h3 j hj).2.1, (hb.cell (p := ⟨b, off + j * 3 + 2, none⟩) h2).trans (h3 j hj).2.2⟩⟩
theorem RdG.at {w : World} {p : Option Addr} {l : List Sg} (h : RdG w p l) {k : Nat} (hk : k < l.length) : ∃ b off x y z, p = some ⟨b, off, none⟩ ∧ b < w.heap.size ∧ w.cell? ⟨b, off + k * 3, none⟩ = some (.int .i64 x) ∧ w.cell? ⟨b, off + k * 3 + 1, none⟩ = some (.int .i64 y) ∧ w.cell? ⟨b, off + k * 3 + 2, none⟩ = some (.string ⟨(z : List UInt8).toArray⟩) ∧ Hid (l.getD k (0, 0, []) = (x, y, z)) := by
  rcases h with h0 | ⟨b, off, h1, h2, h3⟩
  · omega
  · exact ⟨b, off, _, _, _, h1, h2, (h3 k hk).1, (h3 k hk).2.1, (h3 k hk).2.2, Lib.hid rfl⟩
def steepT (l : List Sg) : Bool := decide (10 < l.length) || l.any (fun x => decide (200 < x.2.2.length))
theorem steep_any (p : Option Addr) (c n : Nat) (l : List Sg) (w : World) (hx : Hid (l.length = n)) (hs : RdG w p l) :
    Calls Tryz.prog 9 #[.slice p n c] w fun e w' => e = .returned (.bool (steepT l)) ∧ w = w' := by
  have HS := Lib.hid hs
  obtain ⟨v, HV⟩ : ∃ v, Hid (steepT l = v) := ⟨_, rfl⟩
  rw [HV.out]
  clear hs
  by_cases h10 : 10 < n
  · have h1 : (10 : Int) < (n : Int) := by omega
    obtain rfl : v = true := by rw [← HV.out]; unfold steepT; rw [decide_eq_true (by rw [hx.out]; exact h10)]; rfl
    go_enter Tryz.func9, Tryz.ntmps9
    go_wp2_with fail
    go_ret
    exact ⟨rfl, rfl⟩
  have h1 : ¬ (10 : Int) < (n : Int) := by omega
  have hni : (n : Int) ≤ 10 := by omega
  have HYES : Hid (∀ j, j < n → 200 < (l.getD j (0, 0, [])).2.2.length → v = true) := Lib.hid (fun j hj h => by
    rw [← HV.out]; unfold steepT
    rw [Bool.or_eq_true]
    have hj2 : j < l.length := by rw [hx.out]; exact hj
    rw [List.getD_eq_getElem?_getD, List.getElem?_eq_getElem hj2] at h
    exact .inr (List.any_eq_true.2 ⟨_, List.getElem_mem hj2, decide_eq_true h⟩))
  have HNO : Hid ((∀ j, j < n → ¬ 200 < (l.getD j (0, 0, [])).2.2.length) → v = false) := Lib.hid (fun h => by
    rw [← HV.out]; unfold steepT
    rw [decide_eq_false (by rw [hx.out]; exact h10), Bool.false_or, List.any_eq_false]
    intro x hx2
    obtain ⟨j, hj, rfl⟩ := List.getElem_of_mem hx2
    have := h j (by rw [← hx.out]; exact hj)
    rw [List.getD_eq_getElem?_getD, List.getElem?_eq_getElem hj] at this
    simpa using this)
  go_enter Tryz.func9, Tryz.ntmps9
  go_wp2_with fail
  go_loopw [3] (fun iv wr => ∃ i : Nat, i ≤ n ∧ iv = .int .i64 i ∧ w = wr ∧ Hid (∀ j, j < i → ¬ 200 < (l.getD j (0, 0, [])).2.2.length)) (fun iv _ => n - (intOf iv).toNat)
  case atStart => exact ⟨0, Nat.zero_le _, rfl, rfl, Lib.hid (fun j hj => by omega)⟩
  case round =>
    obtain ⟨i, hi, rfl, rfl, HA⟩ := hrel
    have ii : (i : Int) ≤ (n : Int) := by omega
    by_cases hlt : i < n
    · have ilt : (i : Int) < (n : Int) := by omega
      obtain ⟨b1, o1, x, y, z, e1, -, hc1, hc2, hc3, hx1⟩ := HS.out.at (k := i) (by rw [hx.out]; exact hlt)
      subst e1
      obtain ⟨m, HM⟩ : ∃ m, Hid (z.length = m) := ⟨_, rfl⟩
      have hsz : (⟨z.toArray⟩ : ByteArray).size = m := by rw [← ByteArray.size_data]; simpa using HM.out
      obtain ⟨X, HX⟩ : ∃ X : ByteArray, Hid (⟨z.toArray⟩ = X) := ⟨_, rfl⟩
      rw [HX.out] at hc3 hsz
      by_cases h2 : 200 < m
      · have h3 : (200 : Int) < (m : Int) := by omega
        obtain rfl : v = true := HYES.out i hlt (by rw [hx1.out]; show 200 < z.length; rw [HM.out]; exact h2)
        go_wp2_with fail
        go_ret
        exact ⟨rfl, by first | rfl | trivial⟩
      · have h3 : ¬ (200 : Int) < (m : Int) := by omega
        have HA2 : Hid (∀ j, j < i + 1 → ¬ 200 < (l.getD j (0, 0, [])).2.2.length) := Lib.hid (fun j hj => by
          by_cases e : j = i
          · rw [e, hx1.out]; show ¬ 200 < z.length; rw [HM.out]; exact h2
          · exact HA.out j (by omega))
        go_wp2_with fail
        go_roundw
        case rel => exact ⟨i + 1, by omega, by go_num, by first | rfl | trivial, HA2⟩
        case measure => simp [intOf]; omega
    · obtain rfl : i = n := by omega
      have ilt : ¬ (i : Int) < (i : Int) := by omega
      obtain rfl : v = false := HNO.out HA.out
      go_wp2_with fail
      go_ret
      exact ⟨rfl, by first | rfl | trivial⟩
end Go.Proofs.YtpnofkefcoaojaaGreatDoor
set_option maxRecDepth 100000
set_option maxHeartbeats 800000
namespace Go.Proofs.YtpnofkefcoaojaaGreatDoor
end Go.Proofs.YtpnofkefcoaojaaGreatDoor
namespace Big
theorem Canon.of_last {B : Nat} {l : List Nat} (h : Dig B l) (k : Nat) (hk : l.length = k + 1) (h0 : l.getD k 0 ≠ 0) : Canon B l := by
  refine ⟨h, ?_⟩
  rw [List.getLast?_eq_getElem?, hk, Nat.add_sub_cancel]
  rw [List.getD_eq_getElem?_getD] at h0
  intro e; rw [e] at h0; simp at h0
theorem Canon.zero_iff {B : Nat} (hB : 0 < B) {l : List Nat} (h : Canon B l) : val B l = 0 ↔ l = [] := by
  constructor
  · intro h0
    cases l with
    | nil => rfl
    | cons x t =>
      have := h.pow_le t.length (by simp)
      have hp : 0 < B ^ t.length := Nat.pow_pos hB
      omega
  · rintro rfl; rfl
end Big
namespace Go.Proofs.YtpnofkefcoaojaaGreatDoor
open Go.RowKit
end Go.Proofs.YtpnofkefcoaojaaGreatDoor
namespace Go.Proofs.YtpnofkefcoaojaaGreatDoor
open Go.RowKit Big
end Go.Proofs.YtpnofkefcoaojaaGreatDoor
