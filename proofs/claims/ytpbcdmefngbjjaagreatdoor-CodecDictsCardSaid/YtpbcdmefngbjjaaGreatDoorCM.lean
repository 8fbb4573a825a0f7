/- The program's tokens. -/
import Derived.Test.YtpbcdmefngbjjaaGreatDoorMU
import Derived.Test.YtpbcdmefngbjjaaGreatDoorCJ
namespace Go.Proofs.YtpbcdmefngbjjaaGreatDoor
open Go.RowKit
open Go.Lib
def Tok (B : Nat) (w : World) (v : Value) (l : List UInt8) (n : Int) (e : Ending) (w' : World) : Prop := ∃ v', e = .returned (.tuple #[v', .int .i64 n, .int .i64 0]) ∧ Grew B w v l w' v'
/-- A part of what came in. -/
theorem bs_sub {w : World} {b off n : Nat} {l : List UInt8} (h : Bs w (some ⟨b, off, none⟩) l) (k m : Nat) (hk : k + m ≤ l.length) (hn : n = off + k) : Bs w (some ⟨b, n, none⟩) ((l.drop k).take m) := by
  subst hn
  rcases h with h0 | ⟨b1, o1, h1, h2, h3⟩
  · exact .inl (by simp; omega)
  · cases h1
    refine .inr ⟨b, off + k, rfl, h2, fun j hj => ?_⟩
    have hj2 : j < m := by simp at hj; omega
    rw [Nat.add_assoc, h3 (k + j) (by omega)]
    simp [List.getD_eq_getElem?_getD, hj2]
theorem bs_tail {w : World} {b off n : Nat} {l : List UInt8} (h : Bs w (some ⟨b, off, none⟩) l) (k : Nat) (hk : k ≤ l.length) (hn : n = off + k) : Bs w (some ⟨b, n, none⟩) (l.drop k) := by
  have := bs_sub h k (l.length - k) (by omega) hn
  rwa [List.take_of_length_le (by simp)] at this
set_option maxRecDepth 100000 in
set_option maxHeartbeats 1600000 in
theorem plainTok_no (q : Option Addr) (no co b0 off cap d n : Nat) (w : World) (hc : w.cell? ⟨b0, off, none⟩ = some (.int .u8 (d : Int))) (hd : (d : Int) ≤ 255) (hno : (no : Int) ≤ 500000) (hn1 : 1 ≤ n) (hn : n < d + 2) :
    Calls Tryz.prog 53 #[.slice q no co, .slice (some ⟨b0, off, none⟩) n cap] w fun e w' => e = .returned (.tuple #[.slice none 0 0, .int .i64 0, .int .i64 5]) ∧ w = w' := by
  have hn' : (n : Int) < (d : Int) + 1 + 1 := by omega
  have hn'' : (n : Int) < 1 + (d : Int) + 1 := by omega
  go_enter Tryz.func53, Tryz.ntmps53
  go_wp2_with fail
  go_ret3
  exact ⟨rfl, rfl⟩
set_option maxRecDepth 100000 in
set_option maxHeartbeats 1600000 in
theorem plainTok_yes (B : Nat) (q : Option Addr) (o l : List UInt8) (co b0 off cap d n : Nat) (w : World) (hB : B ≤ w.heap.size) (ho : w.ownsRow B 5 1 (.slice q o.length co) o.length (u8s o)) (hl : l.length = n) (hb : Bs w (some ⟨b0, off, none⟩) l) (hd0 : (l.getD 0 0).toNat = d) (hno : (o.length : Int) ≤ 500000) (hn : d + 2 ≤ n) (hcap : n ≤ cap) :
    Calls Tryz.prog 53 #[.slice q o.length co, .slice (some ⟨b0, off, none⟩) n cap] w (Tok B w (.slice q o.length co) (o ++ (l.drop 1).take (d + 1)) ((d : Int) + 2)) := by
  obtain ⟨i0, hi, hz0, hz1, hz2⟩ := info_parts info5
  have hd : (d : Int) ≤ 255 := by have := (l.getD 0 0).toNat_lt; omega
  have hc : w.cell? ⟨b0, off, none⟩ = some (.int .u8 (d : Int)) := by
    rcases hb with h0 | ⟨b1, o1, h1, h2, h3⟩
    · omega
    · cases h1
      have := h3 0 (by omega)
      rw [hd0] at this; exact this
  have hs := Lib.hid (bs_sub hb 1 (d + 1) (by omega) rfl)
  have hnews := Lib.hid (hs.out.news (Below.refl _ _) _ rfl)
  have hul : Hid ((u8s ((l.drop 1).take (d + 1))).length = (d + 1) * 1) := Lib.hid (by rw [u8s_length]; simp; omega)
  obtain ⟨k, hk⟩ : ∃ k, Hid (k = o.length) := ⟨_, rfl⟩
  rw [← hk.out] at ho hno ⊢
  have hlen : Hid (k + (d + 1) ≤ maxLen ∧ (k + (d + 1)) * 1 ≤ 140737488355328 ∧ B ≤ w.heap.size) := Lib.hid ⟨by unfold maxLen; omega, by omega, hB⟩
  have hown := Lib.hid ho
  have HB := Lib.hid hB
  have hfin : Hid (∀ v' w', w'.ownsRow B 5 1 v' (k + (d + 1)) (u8s o ++ u8s ((l.drop 1).take (d + 1))) → w.grownBy w' (Value.slice q k co).ownBlock → (v'.ownBlock = (Value.slice q k co).ownBlock ∨ v'.ownBlock = some w.heap.size) → Tok B w (.slice q k co) (o ++ (l.drop 1).take (d + 1)) ((d : Int) + 2) (.returned (.tuple #[v', .int .i64 ((d : Int) + 2), .int .i64 0])) w') := Lib.hid (fun v' w' h1 h2 h3 => ⟨v', rfl, by
    refine ⟨?_, h2, h3.imp id fun h => ⟨_, h, Nat.le_refl _⟩⟩
    have e : (o ++ (l.drop 1).take (d + 1)).length = k + (d + 1) := by simp; rw [hk.out]; omega
    rw [e, u8s, List.map_append]; exact h1⟩)
  obtain ⟨L, HL⟩ : ∃ L, Hid (L = (l.drop 1).take (d + 1)) := ⟨_, rfl⟩
  rw [← HL.out] at hfin hul hnews ⊢
  clear hb hd0 ho hB hl hs
  have t1 : decide (1048576 < (k : Int) + ((d : Int) + 2) - 1) = false := by simp; omega
  have t2 : decide ((n : Int) < (d : Int) + 2) = false := by simp; omega
  have e1 : (1 : Int) + (d : Int) + 1 = ((d + 2 : Nat) : Int) := by omega
  go_enter Tryz.func53, Tryz.ntmps53
  go_wp2_with (at_builtin; refine wpList_append_own_at _ rfl (.tmp 24) (.tmp 27) 22 rfl B 5 i0 (.int .u8 0) 1 1 Tryz.underlying22 hi hz0 hz1 hz2 rfl (by decide) _ _ _ rfl hown.out ⟨b0, off + 1, none⟩ (d + 1) (cap - 1) (u8s L) rfl hul.out hnews.out (u8s_one L) hlen.out.1 hlen.out.2.1 HB.out ?_)
  intro v5 w5 hown5 hgrow5 _ hat5
  have HE := Lib.hid (hfin.out v5 w5 hown5 hgrow5 hat5)
  clear hown5 hgrow5 hat5
  go_wp2_with fail
  go_ret3
  exact HE.out
end Go.Proofs.YtpbcdmefngbjjaaGreatDoor
