/- The laws' small helpers: bytes and an error are the specification's; bytes come back. -/
import Derived.Test.YtpbcdmefngbjjaaGreatDoorCI
import Derived.Laws.IdiomStrings
namespace Go.Proofs.YtpbcdmefngbjjaaGreatDoor
open Go.RowKit
open Go.Lib
theorem add_lit (b off j : Nat) : (⟨b, off, none⟩ : Addr).add j = ⟨b, off + j, none⟩ := by
  cases j <;> simp [Addr.add]
theorem conv_bytes (w : World) (p : Option Addr) (c : Nat) (l : List UInt8) (h : Bs w p l) : (convert 22 9 (.slice p l.length c)).run Tryz.prog w = .ok (.string ⟨l.toArray⟩) w := by
  rcases h with h0 | ⟨b, off, rfl, hb, hc⟩
  · obtain rfl := List.eq_nil_of_length_eq_zero h0
    cases p with
    | some a => exact run_convert_bytes_back w 22 9 5 a c [] Tryz.underlying22 Tryz.underlying5 Tryz.underlying9 (fun j hj => by simp at hj)
    | none =>
      show (convert 22 9 (.slice none 0 c)).run Tryz.prog w = _
      rw [run_convert_bytes_string w 22 9 5 none 0 c Tryz.underlying22 Tryz.underlying5 Tryz.underlying9]
      simp [Conv.bytesToString]
      try rfl
  · refine run_convert_bytes_back w 22 9 5 ⟨b, off, none⟩ c l Tryz.underlying22 Tryz.underlying5 Tryz.underlying9 (fun j hj => ?_)
    rw [add_lit, hc j hj, List.getD_eq_getElem?_getD, List.getElem?_eq_getElem hj]; rfl
set_option maxRecDepth 100000 in
theorem is_same (p q : Option Addr) (c d : Nat) (l : List UInt8) (e : Int) (w : World) (hp : Bs w p l) (hq : Bs w q l) :
    Calls Tryz.prog 15 #[.slice p l.length c, .int .i64 e, .slice q l.length d, .int .i64 e] w fun r w' => r = .returned (.bool true) ∧ w = w' := by
  have h1 := conv_bytes w p c l hp
  have h2 := conv_bytes w q d l hq
  clear hp hq
  obtain ⟨s, hs⟩ : ∃ s : ByteArray, s = ⟨l.toArray⟩ := ⟨_, rfl⟩
  rw [← hs] at h1 h2
  clear hs
  go_enter Tryz.func15, Tryz.ntmps15
  go_wp2_with fail
  go_ret
  exact ⟨rfl, rfl⟩
set_option maxRecDepth 100000 in
theorem back_same (p q : Option Addr) (c d : Nat) (l : List UInt8) (w : World) (hp : Bs w p l) (hq : Bs w q l) :
    Calls Tryz.prog 16 #[.slice p l.length c, .int .i64 0, .slice q l.length d] w fun r w' => r = .returned (.bool true) ∧ w = w' := by
  have h1 := conv_bytes w p c l hp
  have h2 := conv_bytes w q d l hq
  clear hp hq
  obtain ⟨s, hs⟩ : ∃ s : ByteArray, s = ⟨l.toArray⟩ := ⟨_, rfl⟩
  rw [← hs] at h1 h2
  clear hs
  go_enter Tryz.func16, Tryz.ntmps16
  go_wp2_with fail
  go_ret
  exact ⟨rfl, rfl⟩
end Go.Proofs.YtpbcdmefngbjjaaGreatDoor
