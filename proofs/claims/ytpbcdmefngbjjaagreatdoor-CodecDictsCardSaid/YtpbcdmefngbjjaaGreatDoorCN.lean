/- The program's tokens with a distance. -/
import Derived.Test.YtpbcdmefngbjjaaGreatDoorCM
namespace Go.Proofs.YtpbcdmefngbjjaaGreatDoor
open Go.RowKit
open Go.Lib
set_option maxRecDepth 100000 in
set_option maxHeartbeats 1600000 in
theorem copyTok_short (q : Option Addr) (no co b0 off cap d n : Nat) (w : World) (hc : w.cell? ⟨b0, off, none⟩ = some (.int .u8 (d : Int))) (hd : (d : Int) ≤ 255) (hd1 : 128 ≤ (d : Int)) (hno : (no : Int) ≤ 500000) (hn1 : 1 ≤ n) (hn : n < 3) :
    Calls Tryz.prog 54 #[.slice q no co, .slice (some ⟨b0, off, none⟩) n cap] w fun e w' => e = .returned (.tuple #[.slice none 0 0, .int .i64 0, .int .i64 5]) ∧ w = w' := by
  have hn' : (n : Int) < 3 := by omega
  have t1 : decide (1048576 < (no : Int) + ((d : Int) - 128 + 4)) = false := by simp; omega
  go_enter Tryz.func54, Tryz.ntmps54
  go_wp2_with fail
  go_ret3
  exact ⟨rfl, rfl⟩
set_option maxRecDepth 100000 in
set_option maxHeartbeats 1600000 in
theorem copyTok_far (q : Option Addr) (no co b0 off cap d n : Nat) (l : List UInt8) (w : World) (hl : l.length = n) (hb : Bs w (some ⟨b0, off, none⟩) l) (hd0 : (l.getD 0 0).toNat = d) (hd1 : 128 ≤ (d : Int)) (hno : (no : Int) ≤ 500000) (hn : 3 ≤ n) (hcap : n ≤ cap) (hf : nb ((l.drop 1).take 2) = 0 ∨ no < nb ((l.drop 1).take 2)) :
    Calls Tryz.prog 54 #[.slice q no co, .slice (some ⟨b0, off, none⟩) n cap] w fun e w' => e = .returned (.tuple #[.slice none 0 0, .int .i64 0, .int .i64 5]) ∧ w = w' := by
  have hd : (d : Int) ≤ 255 := by have := (l.getD 0 0).toNat_lt; omega
  have hc : w.cell? ⟨b0, off, none⟩ = some (.int .u8 (d : Int)) := by
    rcases hb with h0 | ⟨b1, o1, h1, h2, h3⟩
    · omega
    · cases h1
      have := h3 0 (by omega)
      rw [hd0] at this; exact this
  have hs := bs_sub hb 1 2 (by omega) rfl
  have hl2 : ((l.drop 1).take 2).length = 2 := by simp; omega
  have HN := Lib.hid (bnumber_any (some ⟨b0, off + 1, none⟩) (cap - 1) _ w (by omega) hs)
  rw [hl2] at HN
  have hlt := nb_lt ((l.drop 1).take 2)
  rw [hl2] at hlt
  obtain ⟨D, HD⟩ : ∃ D, Hid (D = nb ((l.drop 1).take 2)) := ⟨_, rfl⟩
  rw [← HD.out] at HN hlt hf
  have hD : (D : Int) ≤ 65535 := by have : (256 : Nat) ^ 2 = 65536 := by decide
                                    omega
  have t1 : decide (1048576 < (no : Int) + ((d : Int) - 128 + 4)) = false := by simp; omega
  have hn3 : ¬ (n : Int) < 3 := by omega
  clear hb hs hl2 hd0 hlt hl
  by_cases h0 : D = 0
  · subst h0
    go_enter Tryz.func54, Tryz.ntmps54
    go_wp2_with fail
    refine (HN.out).mono ?_
    rintro e w' ⟨rfl, rfl⟩
    go_wp2_with fail
    go_ret3
    exact ⟨rfl, rfl⟩
  · have t2 : ((D : Int) == 0) = false := by simp; omega
    have t3 : decide ((no : Int) < (D : Int)) = true := by simp; omega
    go_enter Tryz.func54, Tryz.ntmps54
    go_wp2_with fail
    refine (HN.out).mono ?_
    rintro e w' ⟨rfl, rfl⟩
    go_wp2_with fail
    go_ret3
    exact ⟨rfl, rfl⟩
end Go.Proofs.YtpbcdmefngbjjaaGreatDoor
