/- The error of groups; the document's Shuffle. -/
import Derived.Test.YtpbcdmefngbjjaaGreatDoorMF
import Derived.Test.YtpbcdmefngbjjaaGreatDoorCM
import Derived.BigQuiet
namespace Go.Proofs.YtpbcdmefngbjjaaGreatDoor
open Go.RowKit
open Go.Lib
/-- Bytes in a row of the call's own, without an error. -/
def RowPost (L : List UInt8) (w : World) (e : Ending) (w' : World) : Prop := Below w.heap.size w w' ∧ ∃ v, e = .returned (.tuple #[v, .int .i64 0]) ∧ w'.ownsRow w.heap.size 5 1 v L.length (u8s L)
def BadPost (w : World) (e : Ending) (w' : World) : Prop := Below w.heap.size w w' ∧ e = .returned (.tuple #[.slice none 0 0, .int .i64 2])
set_option maxRecDepth 100000 in
theorem asked_bad (p : Option Addr) (k c : Nat) (n : Int) (w : World) (h : n < 1 ∨ 8 < n) : Calls Tryz.prog 34 #[.slice p k c, .int .i64 n] w fun e w' => e = .returned (.int .i64 2) ∧ w = w' := by
  by_cases h1 : n < 1
  · clear h
    go_enter Tryz.func34, Tryz.ntmps34
    go_wp2_with fail
    go_ret
    exact ⟨rfl, rfl⟩
  · have h2 : 8 < n := by omega
    clear h
    go_enter Tryz.func34, Tryz.ntmps34
    go_wp2_with fail
    go_ret
    exact ⟨rfl, rfl⟩
set_option maxRecDepth 100000 in
theorem asked_ok (p : Option Addr) (k c n : Nat) (w : World) (h1 : 1 ≤ n) (h2 : n ≤ 8) (hk : k ≤ 1000) : Calls Tryz.prog 34 #[.slice p k c, .int .i64 (n : Int)] w fun e w' => e = .returned (.int .i64 0) ∧ w = w' := by
  have h1' : ¬ (n : Int) < 1 := by omega
  have h2' : ¬ 8 < (n : Int) := by omega
  have hk' : (k : Int) ≤ 1000 := by omega
  clear h1 h2 hk
  go_enter Tryz.func34, Tryz.ntmps34
  go_wp2_with fail
  go_ret
  exact ⟨rfl, rfl⟩
set_option maxRecDepth 100000 in
theorem size_bad (n : Int) (w : World) (h : n < 1 ∨ 8 < n) : Calls Tryz.prog 63 #[.int .i64 n] w fun e w' => e = .returned (.bool false) ∧ w = w' := by
  by_cases h1 : n < 1
  · have h1' : decide (1 ≤ n) = false := by simp; omega
    clear h
    go_enter Tryz.func63, Tryz.ntmps63
    go_wp2_with fail
    go_ret
    exact ⟨rfl, rfl⟩
  · have h2 : decide (n ≤ 8) = false := by simp; omega
    clear h
    go_enter Tryz.func63, Tryz.ntmps63
    go_wp2_with fail
    go_ret
    exact ⟨rfl, rfl⟩
set_option maxRecDepth 100000 in
theorem size_ok (n : Nat) (w : World) (h1 : 1 ≤ n) (h2 : n ≤ 8) : Calls Tryz.prog 63 #[.int .i64 (n : Int)] w fun e w' => e = .returned (.bool true) ∧ w = w' := by
  have h1' : decide (1 ≤ (n : Int)) = true := by simp; omega
  have h2' : decide ((n : Int) ≤ 8) = true := by simp; omega
  clear h1 h2
  go_enter Tryz.func63, Tryz.ntmps63
  go_wp2_with fail
  go_ret
  exact ⟨rfl, rfl⟩
set_option maxRecDepth 100000 in
theorem check_bad (p : Option Addr) (k c : Nat) (n : Int) (w : World) (h : n < 1 ∨ 8 < n) : Calls Tryz.prog 38 #[.slice p k c, .int .i64 n] w fun e w' => e = .returned (.int .i64 2) ∧ w = w' := by
  have H := Lib.hid (size_bad n w h)
  clear h
  go_enter Tryz.func38, Tryz.ntmps38
  go_wp2_with fail
  refine (H.out).mono ?_
  rintro e w' ⟨rfl, rfl⟩
  go_wp2_with fail
  go_ret
  exact ⟨rfl, rfl⟩
set_option maxRecDepth 100000 in
theorem check_ok (p : Option Addr) (k c n : Nat) (w : World) (h1 : 1 ≤ n) (h2 : n ≤ 8) (hk : k ≤ 1000) : Calls Tryz.prog 38 #[.slice p k c, .int .i64 (n : Int)] w fun e w' => e = .returned (.int .i64 0) ∧ w = w' := by
  have H := Lib.hid (size_ok n w h1 h2)
  have hk' : (k : Int) ≤ 1000 := by omega
  clear h1 h2 hk
  go_enter Tryz.func38, Tryz.ntmps38
  go_wp2_with fail
  refine (H.out).mono ?_
  rintro e w' ⟨rfl, rfl⟩
  go_wp2_with fail
  go_ret
  exact ⟨rfl, rfl⟩
end Go.Proofs.YtpbcdmefngbjjaaGreatDoor
