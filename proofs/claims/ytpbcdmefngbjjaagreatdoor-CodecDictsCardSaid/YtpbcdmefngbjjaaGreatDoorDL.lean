/- What Shuffle, Unshuffle answer, in one form; and where the size is refused. -/
import Derived.Test.YtpbcdmefngbjjaaGreatDoorDI
import Derived.Test.YtpbcdmefngbjjaaGreatDoorDJ
import Derived.Test.YtpbcdmefngbjjaaGreatDoorDE
import Derived.Test.YtpbcdmefngbjjaaGreatDoorCI
namespace Go.Proofs.YtpbcdmefngbjjaaGreatDoor
open Go.RowKit
open Go.Lib
def RowB (L : List UInt8) (len : Nat) (w : World) (e : Ending) (w' : World) : Prop := Below w.heap.size w w' ∧ ∃ q d, e = .returned (.tuple #[.slice q len d, .int .i64 0]) ∧ len ≤ d ∧ Bs w' q L
theorem RowPost.bs {L : List UInt8} {len : Nat} {w w' : World} {e : Ending} (h : RowPost L w e w') (hL : L.length = len) : RowB L len w e w' := by
  obtain ⟨h1, v, he, ho⟩ := h
  obtain ⟨q, d, hv, hb, hd⟩ := own_bytes ho
  subst hL
  exact ⟨h1, q, d, by rw [he, hv], hd, hb⟩
theorem shuffle_b (p : Option Addr) (c n len : Nat) (l : List UInt8) (w : World) (HN : Hid (len = l.length)) (h1 : 1 ≤ n) (h2 : n ≤ 8) (hl : len ≤ 1000) (hb : Bs w p l) :
    Calls Tryz.prog 17 #[.slice p len c, .int .i64 (n : Int)] w (RowB (shufL l n) len w) := by
  have e := HN.out
  subst e
  exact (shuffle_ok p c n l w h1 h2 hl hb).mono fun _ _ h => h.bs (shufL_length l)
theorem unshuffle_b (p : Option Addr) (c n len : Nat) (l : List UInt8) (w : World) (HN : Hid (len = l.length)) (h1 : 1 ≤ n) (h2 : n ≤ 8) (hl : len ≤ 1000) (hb : Bs w p l) :
    Calls Tryz.prog 19 #[.slice p len c, .int .i64 (n : Int)] w (RowB (unshL l n) len w) := by
  have e := HN.out
  subst e
  exact (unshuffle_ok p c n l w h1 h2 hl hb).mono fun _ _ h => h.bs (unshL_length l)
theorem rshuffle_b (p : Option Addr) (c n len : Nat) (l : List UInt8) (w : World) (HN : Hid (len = l.length)) (h1 : 1 ≤ n) (h2 : n ≤ 8) (hl : len ≤ 1000) (hc : Hid (len ≤ c)) (hpc : Hid (p = none → c = 0)) (hb : Bs w p l) :
    Calls Tryz.prog 18 #[.slice p len c, .int .i64 (n : Int)] w (RowB (shufL l n) len w) := by
  have e := HN.out
  subst e
  exact (rshuffle_ok p c n l w h1 h2 hl hc.out hpc.out hb).mono fun _ _ h => h.bs (shufL_length l)
theorem runshuffle_b (p : Option Addr) (c n len : Nat) (l : List UInt8) (w : World) (HN : Hid (len = l.length)) (h1 : 1 ≤ n) (h2 : n ≤ 8) (hl : len ≤ 1000) (hc : Hid (len ≤ c)) (hpc : Hid (p = none → c = 0)) (hb : Bs w p l) :
    Calls Tryz.prog 20 #[.slice p len c, .int .i64 (n : Int)] w (RowB (unshL l n) len w) := by
  have e := HN.out
  subst e
  exact (runshuffle_ok p c n l w h1 h2 hl hc.out hpc.out hb).mono fun _ _ h => h.bs (unshL_length l)
theorem is_b (p q : Option Addr) (c d len : Nat) (l : List UInt8) (e : Int) (w : World) (hL : l.length = len) (hp : Bs w p l) (hq : Bs w q l) :
    Calls Tryz.prog 15 #[.slice p len c, .int .i64 e, .slice q len d, .int .i64 e] w fun r w' => r = .returned (.bool true) ∧ w = w' := by
  subst hL; exact is_same p q c d l e w hp hq
theorem back_b (p q : Option Addr) (c d len : Nat) (l : List UInt8) (w : World) (hL : l.length = len) (hp : Bs w p l) (hq : Bs w q l) :
    Calls Tryz.prog 16 #[.slice p len c, .int .i64 0, .slice q len d] w fun r w' => r = .returned (.bool true) ∧ w = w' := by
  subst hL; exact back_same p q c d l w hp hq
set_option maxRecDepth 100000 in
set_option maxHeartbeats 1600000 in
theorem shuffle_bad (p : Option Addr) (k c : Nat) (n : Int) (w : World) (h : n < 1 ∨ 8 < n) : Calls Tryz.prog 17 #[.slice p k c, .int .i64 n] w (BadPost w) := by
  have H : Hid (∀ W, Calls Tryz.prog 38 #[.slice p k c, .int .i64 n] W fun e w' => e = .returned (.int .i64 2) ∧ W = w') := Lib.hid fun W => check_bad p k c n W h
  clear h
  go_enter Tryz.func17, Tryz.ntmps17
  go_wp2_with fail
  refine (H.out _).mono ?_
  rintro e w' ⟨rfl, rfl⟩
  go_wp2_with fail
  go_ret2
  exact ⟨(Below.refl _ _).alloc (Nat.le_refl _) _, rfl⟩
set_option maxRecDepth 100000 in
set_option maxHeartbeats 1600000 in
theorem rshuffle_bad (p : Option Addr) (k c : Nat) (n : Int) (w : World) (h : n < 1 ∨ 8 < n) : Calls Tryz.prog 18 #[.slice p k c, .int .i64 n] w (BadPost w) := by
  have H := Lib.hid (asked_bad p k c n w h)
  clear h
  go_enter Tryz.func18, Tryz.ntmps18
  go_wp2_with fail
  refine (H.out).mono ?_
  rintro e w' ⟨rfl, rfl⟩
  go_wp2_with fail
  go_ret2
  exact ⟨Below.refl _ _, rfl⟩
set_option maxRecDepth 100000 in
set_option maxHeartbeats 1600000 in
theorem unshuffle_bad (p : Option Addr) (k c : Nat) (n : Int) (w : World) (h : n < 1 ∨ 8 < n) : Calls Tryz.prog 19 #[.slice p k c, .int .i64 n] w (BadPost w) := by
  have H : Hid (∀ W, Calls Tryz.prog 38 #[.slice p k c, .int .i64 n] W fun e w' => e = .returned (.int .i64 2) ∧ W = w') := Lib.hid fun W => check_bad p k c n W h
  clear h
  go_enter Tryz.func19, Tryz.ntmps19
  go_wp2_with fail
  refine (H.out _).mono ?_
  rintro e w' ⟨rfl, rfl⟩
  go_wp2_with fail
  go_ret2
  exact ⟨(Below.refl _ _).alloc (Nat.le_refl _) _, rfl⟩
set_option maxRecDepth 100000 in
set_option maxHeartbeats 1600000 in
theorem runshuffle_bad (p : Option Addr) (k c : Nat) (n : Int) (w : World) (h : n < 1 ∨ 8 < n) : Calls Tryz.prog 20 #[.slice p k c, .int .i64 n] w (BadPost w) := by
  have H := Lib.hid (asked_bad p k c n w h)
  clear h
  go_enter Tryz.func20, Tryz.ntmps20
  go_wp2_with fail
  refine (H.out).mono ?_
  rintro e w' ⟨rfl, rfl⟩
  go_wp2_with fail
  go_ret2
  exact ⟨Below.refl _ _, rfl⟩
end Go.Proofs.YtpbcdmefngbjjaaGreatDoor
