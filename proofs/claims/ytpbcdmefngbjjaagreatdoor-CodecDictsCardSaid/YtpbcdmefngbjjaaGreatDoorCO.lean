/- The program's tokens with a distance, where they stand for bytes. -/
import Derived.Test.YtpbcdmefngbjjaaGreatDoorCN
namespace Go.Proofs.YtpbcdmefngbjjaaGreatDoor
open Go.RowKit
open Go.Lib
set_option maxRecDepth 100000 in
set_option maxHeartbeats 1600000 in
theorem copyTok_yes (B : Nat) (q : Option Addr) (o l : List UInt8) (co b0 off cap d n : Nat) (w : World) (hB : B ≤ w.heap.size) (ho : w.ownsRow B 5 1 (.slice q o.length co) o.length (u8s o)) (hl : l.length = n) (hb : Bs w (some ⟨b0, off, none⟩) l) (hd0 : (l.getD 0 0).toNat = d) (hd1 : 128 ≤ (d : Int)) (hno : (o.length : Int) ≤ 500000) (hn : 3 ≤ n) (hcap : n ≤ cap) (hf0 : nb ((l.drop 1).take 2) ≠ 0) (hf : nb ((l.drop 1).take 2) ≤ o.length) :
    Calls Tryz.prog 54 #[.slice q o.length co, .slice (some ⟨b0, off, none⟩) n cap] w (Tok B w (.slice q o.length co) (cp (d - 124) (nb ((l.drop 1).take 2)) o) 3) := by
  obtain ⟨i0, hi, hz0, hz1, hz2⟩ := info_parts info5
  have hd : (d : Int) ≤ 255 := by have := (l.getD 0 0).toNat_lt; omega
  have hc : w.cell? ⟨b0, off, none⟩ = some (.int .u8 (d : Int)) := by
    rcases hb with h0 | ⟨b1, o1, h1, h2, h3⟩
    · omega
    · cases h1
      have := h3 0 (by omega)
      rw [hd0] at this; exact this
  have hs := bs_sub hb 1 2 (by omega) rfl
  have hl2 : ((l.drop 1).take 2).length = 2 := by simp; omega
  have HN := Lib.hid (bnumber_any (some ⟨b0, off + 1, none⟩) (cap - 1) _ w (by omega) hs)
  rw [hl2] at HN
  have hlt := nb_lt ((l.drop 1).take 2)
  rw [hl2] at hlt
  obtain ⟨D, HD⟩ : ∃ D, Hid (D = nb ((l.drop 1).take 2)) := ⟨_, rfl⟩
  rw [← HD.out] at HN hlt hf hf0 ⊢
  have hD : (D : Int) ≤ 65535 := by have : (256 : Nat) ^ 2 = 65536 := by decide
                                    omega
  have HG0 := Lib.hid (Grew.refl ho)
  have HB := Lib.hid hB
  have HF := Lib.hid hf
  obtain ⟨no, hk⟩ : ∃ no, Hid (no = o.length) := ⟨_, rfl⟩
  obtain ⟨m, hm⟩ : ∃ m, Hid (m = d - 124) := ⟨_, rfl⟩
  rw [← hm.out]
  rw [← hk.out] at hno HG0 HF ⊢
  have hmd : (d : Int) - 128 + 4 = ((m : Nat) : Int) := by rw [hm.out]; omega
  have hm2 : (m : Int) ≤ 131 := by rw [hm.out]; omega
  have t1 : decide (1048576 < (no : Int) + (m : Int)) = false := by simp; omega
  have hn3 : ¬ (n : Int) < 3 := by omega
  have t2 : ((D : Int) == 0) = false := by simp; omega
  have t3 : decide (no < D) = false := by have := HF.out; simp; omega
  have hD1 : Hid (0 < D) := Lib.hid (by omega)
  clear hb hs hl2 hd0 hlt hl hf hf0 ho hB
  go_enter Tryz.func54, Tryz.ntmps54
  go_wp2_with fail
  refine (HN.out).mono ?_
  rintro e w' ⟨rfl, rfl⟩
  go_wp2_with fail
  clear t1 t2 t3
  go_loopw [0, 36] (fun vr i wr => ∃ (k : Nat) (b : List UInt8), k ≤ m ∧ i = .int .i64 k ∧ Hid (b.length = no + k) ∧ Hid (cp (m - k) D b = cp m D o) ∧ Hid (Grew B w (.slice q no co) b wr vr)) (fun _ i _ => m - (intOf i).toNat)
  case atStart => exact ⟨0, o, Nat.zero_le _, rfl, Lib.hid hk.out.symm, Lib.hid (by rw [Nat.sub_zero]), HG0⟩
  case round =>
    obtain ⟨k, b, hkm, rfl, HL, HE, HG⟩ := hrel
    by_cases hlt : k < m
    · obtain ⟨g, cp1, hv5, hcap1, hg, hgl, hcell, -, -⟩ := own_set HG.out.own (by have := HL.out; have := HF.out; have := hD1.out; omega)
      rw [HL.out] at hv5 hcap1 hcell
      subst hv5
      obtain ⟨x, HX⟩ : ∃ x : UInt8, Hid (x = b.getD (no + k - D) 0) := ⟨_, rfl⟩
      have gc : wr.cell? ⟨g, no + k - D, none⟩ = some (.int .u8 ((x.toNat : Nat) : Int)) := by rw [HX.out]; exact hcell _ (by have := hD1.out; have := HF.out; omega)
      have hbl : Hid (b.length + 1 ≤ maxLen ∧ (b.length + 1) * 1 ≤ 140737488355328 ∧ B ≤ wr.heap.size + 1) := Lib.hid (by
        have h1 := HL.out
        have h3 := HG.out.grown.size
        have h4 := HB.out
        unfold maxLen; omega)
      have hix : (no : Int) + (k : Int) - (D : Int) = ((no + k - D : Nat) : Int) := by have := HF.out; omega
      have hne : Hid (cp (m - (k + 1)) D (b ++ [x]) = cp m D o) := Lib.hid (by
        rw [← HE.out, show m - k = (m - (k + 1)) + 1 by omega, cp, HL.out, HX.out])
      rw [HL.out] at hbl
      clear hcell
      have hown := Lib.hid HG.out.own
      rw [HL.out] at hown
      have q3 : no + k - D < no + k := by have := hD1.out; have := HF.out; omega
      go_wp2_with (at_builtin; refine wpList_append_own_at _ rfl (.tmp 38) (.tmp 46) 22 rfl B 5 i0 (.int .u8 0) 1 1 Tryz.underlying22 hi hz0 hz1 hz2 rfl (by decide) _ _ _ rfl ((hown.out).alloc _) ⟨_, 0, none⟩ 1 1 [.int .u8 (x.toNat : Int)] rfl rfl (cell_one_new _ _ _) (by intro u hu; simp at hu; subst hu; rfl) hbl.out.1 hbl.out.2.1 (by simp; exact hbl.out.2.2) ?_)
      intro v5 w5 hown5 hgrow5 _ hat5
      have HG5 := Lib.hid (HG.out.next (by rw [HL.out]) hown5 hgrow5 hat5)
      clear hown5 hgrow5 hat5
      go_wp2_with fail
      go_roundw
      case rel => exact ⟨k + 1, b ++ [x], by omega, by go_num, Lib.hid (by rw [List.length_append, HL.out]; rfl), hne, HG5⟩
      case measure => simp [intOf]; omega
    · obtain rfl : k = m := by omega
      go_wp2_with fail
      go_ret3
      have hE := HE.out
      rw [Nat.sub_self, cp] at hE
      rw [← hE]
      exact ⟨_, rfl, HG.out⟩
end Go.Proofs.YtpbcdmefngbjjaaGreatDoor
