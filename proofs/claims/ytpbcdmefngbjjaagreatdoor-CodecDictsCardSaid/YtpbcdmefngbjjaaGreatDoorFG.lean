/- The document's dictionary coder: plain bytes; how long two places agree. -/
import Derived.Test.YtpbcdmefngbjjaaGreatDoorDQ
import Derived.BigQuiet
import Derived.Test.YtpbcdmefngbjjaaGreatDoorDV
import Derived.Test.YtpbcdmefngbjjaaGreatDoorMU
namespace Go.Proofs.YtpbcdmefngbjjaaGreatDoor
open Go.RowKit
open Go.Lib
/-- Tokens of plain bytes. -/
def spF : Nat → List UInt8 → List UInt8
  | 0, _ => []
  | f + 1, l => if l.length = 0 then [] else UInt8.ofNat (min l.length 128 - 1) :: (l.take (min l.length 128) ++ spF f (l.drop (min l.length 128)))
def spL (l : List UInt8) : List UInt8 := spF l.length l
theorem spF_more : ∀ (f : Nat) (l : List UInt8), l.length ≤ f → spF f l = spL l := by
  intro f
  induction f using Nat.strongRecOn with
  | _ f ih =>
    intro l hl
    cases f with
    | zero =>
      have h0 : l.length = 0 := by omega
      rw [spL, h0]
    | succ f =>
      unfold spL
      by_cases h0 : l.length = 0
      · rw [spF, if_pos h0, h0, spF]
      · obtain ⟨g, hg⟩ : ∃ g, l.length = g + 1 := ⟨l.length - 1, by omega⟩
        have hd : (l.drop (min l.length 128)).length ≤ g := by rw [List.length_drop]; omega
        rw [hg, spF, spF, if_neg h0, if_neg h0, ih f (by omega) _ (by omega)]
        by_cases hgf : g = f
        · rw [hgf, ih f (by omega) _ (by omega)]
        · rw [ih g (by omega) _ hd]
theorem spL_nil : spL [] = [] := rfl
theorem spL_step {l : List UInt8} (h : 0 < l.length) : spL l = UInt8.ofNat (min l.length 128 - 1) :: (l.take (min l.length 128) ++ spL (l.drop (min l.length 128))) := by
  obtain ⟨g, hg⟩ : ∃ g, l.length = g + 1 := ⟨l.length - 1, by omega⟩
  have hd : (l.drop (min l.length 128)).length ≤ g := by rw [List.length_drop]; omega
  rw [spL, hg, spF, if_neg (by omega), spF_more g _ hd, hg]
/-- So many bytes from a on, at most 131, are the same as those d in front of them. -/
def Agree (l : List UInt8) (a d j : Nat) : Prop := a + j < l.length ∧ l.getD (a + j) 0 = l.getD (a + j - d) 0
structure IsRun (l : List UInt8) (a d n : Nat) : Prop where
  le : n ≤ 131
  same : ∀ j, j < n → Agree l a d j
  stop : n = 131 ∨ ¬ Agree l a d n
theorem IsRun.one {l : List UInt8} {a d n m : Nat} (h : IsRun l a d n) (k : IsRun l a d m) : n = m := by
  rcases Nat.lt_trichotomy n m with hl | he | hg
  · rcases h.stop with h1 | h1
    · have := k.le; omega
    · exact absurd (k.same n hl) h1
  · exact he
  · rcases k.stop with h1 | h1
    · have := h.le; omega
    · exact absurd (h.same m hg) h1
end Go.Proofs.YtpbcdmefngbjjaaGreatDoor
namespace Go.Proofs.YtpbcdmefngbjjaaGreatDoor
open Go.RowKit
open Go.Lib
theorem byte_bs (w : World) (y : UInt8) : Bs (w.alloc (.cells #[.int .u8 (y.toNat : Int)] 5)) (some ⟨w.heap.size, 0, none⟩) [y] := by
  refine .inr ⟨w.heap.size, 0, rfl, by simp, fun j hj => ?_⟩
  obtain rfl : j = 0 := by simp at hj; omega
  have := World.alloc_heap_new w (.cells #[.int .u8 (y.toNat : Int)] 5)
  simp only [World.cell?, this]
  rfl
/-- A slice that came in. -/
structure Came (w : World) (p : Option Addr) (len c : Nat) (l : List UInt8) : Prop where
  hl : l.length = len
  hc : len ≤ c
  lies : Bs w p l
theorem Came.rest {w : World} {b0 off len c : Nat} {l : List UInt8} (h : Came w (some ⟨b0, off, none⟩) len c l) {m : Nat} (hm : m ≤ len) (hc : m < c) : Came w (some ⟨b0, off + m, none⟩) (len - m) (c - m) (l.drop m) :=
  ⟨by rw [List.length_drop, h.hl], by have := h.hc; omega, bs_tail h.lies m (by rw [h.hl]; exact hm) rfl⟩
set_option maxRecDepth 100000 in
set_option maxHeartbeats 1600000 in
theorem spoken_any (p : Option Addr) (len c : Nat) (l : List UInt8) (w : World) (hl : len ≤ 1000) (h : Came w p len c l) :
    Calls Tryz.prog 52 #[.slice p len c] w (App w.heap.size w (.slice none 0 0) (spL l)) := by
  have H0 := Lib.hid h
  have HG0 : Hid (Grew w.heap.size w (.slice none 0 0) [] w (.slice none 0 0)) := Lib.hid (Grew.refl (l := []) (World.ownsRow_nil w w.heap.size 5 1))
  obtain ⟨R, HR⟩ : ∃ R, Hid (R = spL l) := ⟨_, rfl⟩
  rw [← HR.out]
  clear h
  go_enter Tryz.func52, Tryz.ntmps52
  go_wp2_with fail
  go_loopw [0, 3] (fun bv ov wr => ∃ (q : Option Addr) (len1 c1 : Nat) (l1 D : List UInt8), bv = .slice q len1 c1 ∧ len1 ≤ 1000 ∧ Hid (Came w q len1 c1 l1) ∧ Hid (D ++ spL l1 = R) ∧ Hid (D.length ≤ 1001000 - 1001 * len1) ∧ Hid (Grew w.heap.size w (.slice none 0 0) D wr ov)) (fun bv _ _ => match bv with | .slice _ n _ => n | _ => 0)
  case atStart => exact ⟨p, len, c, l, [], rfl, hl, H0, Lib.hid HR.out.symm, Lib.hid (Nat.zero_le _), HG0⟩
  case round =>
    obtain ⟨q, len1, c1, l1, D, rfl, hl1, HC, HD, HDL, HG⟩ := hrel
    by_cases h0 : 0 < len1
    · obtain ⟨b0, off, rfl, -, -⟩ := at_cell HC.out.lies (t := 0) (by rw [HC.out.hl]; exact h0)
      have hbw : Hid (Below w.heap.size w wr) := Lib.hid (HG.out.below (Nat.le_refl _) (by intro k hk; cases hk))
      obtain ⟨m, HM⟩ : ∃ m, Hid (m = min len1 128) := ⟨_, rfl⟩
      have hm1 : 1 ≤ m := by rw [HM.out]; omega
      have hm2 : m ≤ len1 := by rw [HM.out]; omega
      have hm3 : m ≤ 128 := by rw [HM.out]; omega
      have hmin : (if 128 < (len1 : Int) then (128 : Int) else (len1 : Int)) = (m : Int) := by rw [HM.out]; split <;> omega
      have hmin2 : min (128 : Int) (len1 : Int) = (m : Int) := by rw [HM.out]; omega
      have hmin3 : min (len1 : Int) 128 = (m : Int) := by rw [HM.out]; omega
      have h0' : 0 < (len1 : Int) := by omega
      have hi1 : 1 ≤ (m : Int) := by omega
      have hi2 : (m : Int) ≤ (len1 : Int) := by omega
      have hi3 : (m : Int) ≤ 128 := by omega
      have hil : (len1 : Int) ≤ 1000 := by omega
      have hic : (len1 : Int) ≤ (c1 : Int) := by have := HC.out.hc; omega
      have hic2 : (m : Int) ≤ (c1 : Int) := by omega
      obtain ⟨y, HY⟩ : ∃ y : UInt8, Hid (y = UInt8.ofNat (m - 1)) := ⟨_, rfl⟩
      have hyn : y.toNat = m - 1 := by rw [HY.out, UInt8.toNat_ofNat']; omega
      have hyi : (m : Int) - 1 = ((y.toNat : Nat) : Int) := by rw [hyn]; omega
      have hyl : ((y.toNat : Nat) : Int) ≤ 127 := by rw [hyn]; omega
      have hstep : Hid (spL l1 = y :: (l1.take m ++ spL (l1.drop m))) := Lib.hid (by rw [spL_step (by rw [HC.out.hl]; exact h0), HC.out.hl, ← HM.out, ← HY.out])
      have HG1 := Lib.hid (HG.out.trans (Grew.of_below HG.out.own ((Below.refl _ wr).alloc (Nat.le_refl _) (.cells #[.int .u8 ((y.toNat : Nat) : Int)] 5))))
      have hone := Lib.hid (byte_bs wr y)
      have hDl : D.length ≤ 1001000 := Nat.le_trans HDL.out (by omega)
      have hbl : Hid (D.length + 1 ≤ 140737488355328 ∧ w.heap.size ≤ (wr.alloc (.cells #[.int .u8 ((y.toNat : Nat) : Int)] 5)).heap.size) := Lib.hid ⟨by omega, by have := hbw.out.size; simp; omega⟩
      clear hyn
      go_wp2_with (at_builtin; refine wpList_append_bs rfl (.tmp 11) (.tmp 15) rfl w.heap.size _ D.length D rfl rfl HG1.out.own _ 1 1 [y] rfl rfl hone.out hbl.out.1 hbl.out.2 ?_)
      intro v4 w4 hg4
      obtain ⟨D4, HD4⟩ : ∃ D4, Hid (D4 = D ++ [y]) := ⟨D ++ [y], Lib.hid rfl⟩
      rw [← HD4.out] at hg4
      have G4 := Lib.hid (HG1.out.trans hg4)
      clear hg4
      have hB4 : Hid (Below w.heap.size w w4) := Lib.hid (G4.out.below (Nat.le_refl _) (by intro k hk; cases hk))
      have hD4 : Hid (D4.length = D.length + 1) := Lib.hid (by rw [HD4.out, List.length_append]; rfl)
      have hbs4 : Hid (Bs w4 (some ⟨b0, off, none⟩) (l1.take m)) := Lib.hid (by
        have h := bs_sub (HC.out.lies.below hB4.out) 0 m (by rw [HC.out.hl]; omega) (Nat.add_zero off).symm
        rwa [List.drop_zero] at h)
      have htl : (l1.take m).length = m := by rw [List.length_take, HC.out.hl]; omega
      have hbl4 : Hid (D4.length + m ≤ 140737488355328 ∧ w.heap.size ≤ w4.heap.size) := Lib.hid ⟨by rw [hD4.out]; omega, hB4.out.size⟩
      go_wp2_with (at_builtin; refine wpList_append_bs rfl (.tmp 17) (.tmp 20) rfl w.heap.size v4 D4.length D4 rfl rfl G4.out.own _ m _ (l1.take m) rfl htl hbs4.out hbl4.out.1 hbl4.out.2 ?_)
      intro v5 w5 hg5
      have G5 := Lib.hid (G4.out.trans hg5)
      clear hg5 htl
      have HD5 : Hid ((D4 ++ l1.take m) ++ spL (l1.drop m) = R) := Lib.hid (by rw [← HD.out, hstep.out, HD4.out]; simp)
      have hDL5 : Hid ((D4 ++ l1.take m).length ≤ 1001000 - 1001 * (len1 - m)) := Lib.hid (by
        have h1 := HDL.out
        rw [List.length_append, hD4.out, List.length_take]; omega)
      by_cases hcm : c1 = m
      · subst hcm
        have hlc : len1 = c1 := by have := HC.out.hc; omega
        subst hlc
        have hd0 : l1.drop len1 = [] := List.drop_of_length_le (by rw [HC.out.hl]; exact Nat.le_refl _)
        rw [hd0] at HD5
        have HC5 : Hid (Came w (some ⟨b0, off, none⟩) 0 0 []) := Lib.hid ⟨rfl, Nat.le_refl _, Bs.nil _ _⟩
        have hDL6 : Hid ((D4 ++ l1.take len1).length ≤ 1001000 - 1001 * 0) := Lib.hid (by have := hDL5.out; rwa [Nat.sub_self] at this)
        go_wp2_with fail
        go_roundw
        case rel => exact ⟨_, 0, 0, [], _, rfl, by decide, HC5, HD5, hDL6, G5⟩
        case measure => simp; omega
      · have hcm' : m < c1 := by have := HC.out.hc; omega
        have HC5 := Lib.hid (HC.out.rest hm2 hcm')
        go_wp2_with fail
        go_roundw
        case rel => exact ⟨_, len1 - m, c1 - m, l1.drop m, _, rfl, by omega, HC5, HD5, hDL5, G5⟩
        case measure => simp; omega
    · obtain rfl : len1 = 0 := by omega
      have hl0 : l1 = [] := List.eq_nil_of_length_eq_zero HC.out.hl
      subst hl0
      have e := HD.out
      rw [spL_nil, List.append_nil] at e
      rw [e] at HG
      go_wp2_with fail
      go_ret
      exact ⟨_, rfl, HG.out⟩
end Go.Proofs.YtpbcdmefngbjjaaGreatDoor
namespace Go.Proofs.YtpbcdmefngbjjaaGreatDoor
open Go.RowKit
open Go.Lib
def RunN (l : List UInt8) (a d : Nat) (w : World) (e : Ending) (w' : World) : Prop := Below w.heap.size w w' ∧ ∃ n : Nat, IsRun l a d n ∧ e = .returned (.int .i64 (n : Int))
set_option maxRecDepth 100000 in
set_option maxHeartbeats 4000000 in
theorem run_any (b0 off len c a d : Nat) (l : List UInt8) (w : World) (hl : len ≤ 1000) (h1 : 1 ≤ d) (h2 : d ≤ a) (h3 : a < len) (h : Came w (some ⟨b0, off, none⟩) len c l) :
    Calls Tryz.prog 74 #[.slice (some ⟨b0, off, none⟩) len c, .int .i64 (a : Int), .int .i64 (d : Int)] w (RunN l a d w) := by
  have H := Lib.hid h
  have il : (len : Int) ≤ 1000 := by omega
  have ia : (a : Int) < (len : Int) := by omega
  have id : 1 ≤ (d : Int) := by omega
  have ida : (d : Int) ≤ (a : Int) := by omega
  clear h
  go_enter Tryz.func74, Tryz.ntmps74
  go_wp2_with fail
  go_loopw [7] (fun nv wr => ∃ n : Nat, n ≤ 131 ∧ nv = .int .i64 n ∧ Hid (∀ j, j < n → Agree l a d j) ∧ Hid (Below w.heap.size w wr)) (fun nv _ => 131 - (Go.RowKit.intOf nv).toNat)
  case atStart => exact ⟨0, by decide, rfl, Lib.hid (fun j hj => by omega), Lib.hid (Below.refl _ _)⟩
  case round =>
    obtain ⟨n, hn, rfl, HA, HB⟩ := hrel
    have hni : (n : Int) ≤ 131 := by omega
    by_cases hn1 : n < 131
    · have g9 : decide ((n : Int) < 131) = true := decide_eq_true (by omega)
      have g9' : (n : Int) < 131 := by omega
      obtain ⟨an, HAN⟩ : ∃ an, Hid (an = a + n) := ⟨_, rfl⟩
      have han : (a : Int) + (n : Int) = (an : Int) := by rw [HAN.out]; omega
      have hani : (an : Int) ≤ 1131 := by rw [HAN.out]; omega
      by_cases hlt : an < len
      · have g16 : decide (an < len) = true := decide_eq_true hlt
        have g16' : (an : Int) < (len : Int) := by omega
        obtain ⟨bk, HBK⟩ : ∃ bk, Hid (bk = an - d) := ⟨_, rfl⟩
        have hbk : (an : Int) - (d : Int) = (bk : Int) := by rw [HBK.out, HAN.out]; omega
        have hbkl : (bk : Int) < (len : Int) := by rw [HBK.out]; omega
        obtain ⟨b1, o1, x, e1, -, hc1, hx, hxi⟩ := (H.out.lies.below HB.out).at (k := an) (by rw [H.out.hl]; exact hlt)
        cases e1
        obtain ⟨b1, o1, y, e1, -, hc2, hy, hyi⟩ := (H.out.lies.below HB.out).at (k := bk) (by rw [H.out.hl, HBK.out]; omega)
        cases e1
        by_cases hxy : x = y
        · have hag : Hid (Agree l a d n) := Lib.hid ⟨by rw [H.out.hl, ← HAN.out]; exact hlt, by
            have hx' := hx.out
            have hy' := hy.out
            rw [HAN.out] at hx'
            rw [HBK.out, HAN.out] at hy'
            exact UInt8.toNat_inj.1 (by rw [hx', hy', hxy])⟩
          subst hxy
          have HA2 : Hid (∀ j, j < n + 1 → Agree l a d j) := Lib.hid (fun j hj => by
            by_cases e : j = n
            · rw [e]; exact hag.out
            · exact HA.out j (by omega))
          go_wp2_with fail
          go_quiet (fail)
          go_wp2_with fail
          go_roundw
          case rel => exact ⟨n + 1, by omega, by go_num, HA2, Lib.hid (below_dn HB.out _)⟩
          case measure => simp [Go.RowKit.intOf]; omega
        · have hag : Hid (¬ Agree l a d n) := Lib.hid (fun h => hxy (by
            have hx' := hx.out
            have hy' := hy.out
            rw [HAN.out] at hx'
            rw [HBK.out, HAN.out] at hy'
            rw [← hx', ← hy', h.2]))
          have hxi2 : ((x : Int) == (y : Int)) = false := by rw [beq_eq_false_iff_ne]; omega
          have hxi3 : ¬ (x : Int) = (y : Int) := by omega
          have hfin : Hid (∀ nq, RunN l a d w (.returned (.int .i64 (n : Int))) (wr.drewN nq)) := Lib.hid (fun nq => ⟨below_dn HB.out _, n, ⟨hn, HA.out, .inr hag.out⟩, rfl⟩)
          go_wp2_with fail
          go_quiet (fail)
          go_wp2_with fail
          go_ret
          exact hfin.out _
      · have g16 : decide (an < len) = false := decide_eq_false hlt
        have g16' : ¬ (an : Int) < (len : Int) := by omega
        have hfin : Hid (∀ nq, RunN l a d w (.returned (.int .i64 (n : Int))) (wr.drewN nq)) := Lib.hid (fun nq => ⟨below_dn HB.out _, n, ⟨hn, HA.out, .inr (fun h => hlt (by have := h.1; rw [H.out.hl] at this; rw [HAN.out]; exact this))⟩, rfl⟩)
        go_wp2_with fail
        go_quiet (fail)
        go_wp2_with fail
        go_ret
        exact hfin.out _
    · obtain rfl : n = 131 := by omega
      have hfin : Hid (∀ nq, RunN l a d w (.returned (.int .i64 131)) (wr.drewN nq)) := Lib.hid (fun nq => ⟨below_dn HB.out _, 131, ⟨hn, HA.out, .inl rfl⟩, rfl⟩)
      go_wp2_with fail
      go_quiet (fail)
      go_wp2_with fail
      go_ret
      exact hfin.out _
end Go.Proofs.YtpbcdmefngbjjaaGreatDoor
namespace Go.Proofs.YtpbcdmefngbjjaaGreatDoor
open Go.RowKit
open Go.Lib
instance (l : List UInt8) (a d j : Nat) : Decidable (Agree l a d j) := by unfold Agree; infer_instance
/-- How many bytes from place 131 - f on agree. -/
def rnC (l : List UInt8) (a d : Nat) : Nat → Nat
  | 0 => 0
  | f + 1 => if Agree l a d (131 - (f + 1)) then 1 + rnC l a d f else 0
def rn (l : List UInt8) (a d : Nat) : Nat := rnC l a d 131
theorem rnC_run (l : List UInt8) (a d : Nat) : ∀ f, f ≤ 131 → rnC l a d f ≤ f ∧ (∀ j, j < rnC l a d f → Agree l a d (131 - f + j)) ∧ (rnC l a d f = f ∨ ¬ Agree l a d (131 - f + rnC l a d f))
  | 0, _ => ⟨Nat.le_refl _, (fun j h => by cases h), .inl rfl⟩
  | f + 1, hf => by
    obtain ⟨h1, h2, h3⟩ := rnC_run l a d f (by omega)
    rw [rnC]
    by_cases h : Agree l a d (131 - (f + 1))
    · rw [if_pos h]
      refine ⟨by omega, fun j hj => ?_, ?_⟩
      · by_cases hj0 : j = 0
        · rw [hj0, Nat.add_zero]; exact h
        · have := h2 (j - 1) (by omega)
          rwa [show 131 - f + (j - 1) = 131 - (f + 1) + j by omega] at this
      · rcases h3 with h3 | h3
        · exact .inl (by omega)
        · exact .inr (by rwa [show 131 - f + rnC l a d f = 131 - (f + 1) + (1 + rnC l a d f) by omega] at h3)
    · rw [if_neg h]
      exact ⟨Nat.zero_le _, (fun j hj => by omega), .inr (by rw [Nat.add_zero]; exact h)⟩
theorem rn_run (l : List UInt8) (a d : Nat) : IsRun l a d (rn l a d) := by
  obtain ⟨h1, h2, h3⟩ := rnC_run l a d 131 (Nat.le_refl _)
  refine ⟨h1, fun j hj => ?_, ?_⟩
  · have := h2 j hj
    rwa [Nat.sub_self, Nat.zero_add] at this
  · rcases h3 with h3 | h3
    · exact .inl h3
    · exact .inr (by rwa [Nat.sub_self, Nat.zero_add] at h3)
theorem rn_le (l : List UInt8) (a d : Nat) : rn l a d ≤ 131 := (rn_run l a d).le
/-- The best of the distances up to D: the first one with the most bytes. -/
def best (l : List UInt8) (a : Nat) : Nat → Nat × Nat
  | 0 => (0, 0)
  | D + 1 => if (best l a D).1 < rn l a (D + 1) then (rn l a (D + 1), D + 1) else best l a D
theorem best_le (l : List UInt8) (a : Nat) : ∀ D, (best l a D).1 ≤ 131 ∧ (best l a D).2 ≤ D
  | 0 => ⟨Nat.zero_le _, Nat.le_refl _⟩
  | D + 1 => by
    have h := best_le l a D
    rw [best]
    split
    · exact ⟨rn_le _ _ _, Nat.le_refl _⟩
    · exact ⟨h.1, Nat.le_succ_of_le h.2⟩
set_option maxRecDepth 100000 in
set_option maxHeartbeats 4000000 in
theorem longest_any (b0 off len c a : Nat) (l : List UInt8) (w : World) (hl : len ≤ 1000) (h3 : a < len) (h : Came w (some ⟨b0, off, none⟩) len c l) :
    Calls Tryz.prog 51 #[.slice (some ⟨b0, off, none⟩) len c, .int .i64 (a : Int)] w fun e w' => Below w.heap.size w w' ∧ e = .returned (.tuple #[.int .i64 ((best l a a).1 : Int), .int .i64 ((best l a a).2 : Int)]) := by
  have H := Lib.hid h
  have ia : (a : Int) ≤ 1000 := by omega
  have HL := Lib.hid hl
  have H3 := Lib.hid h3
  clear h hl h3
  go_enter Tryz.func51, Tryz.ntmps51
  go_wp2_with fail
  go_loopw [6, 7, 8] (fun nv dv iv wr => ∃ D : Nat, D ≤ a ∧ iv = .int .i64 ((D : Int) + 1) ∧ nv = .int .i64 ((best l a D).1 : Int) ∧ dv = .int .i64 ((best l a D).2 : Int) ∧ Hid (Below w.heap.size w wr)) (fun _ _ iv _ => a + 1 - (Go.RowKit.intOf iv).toNat)
  case atStart => exact ⟨0, Nat.zero_le _, rfl, rfl, rfl, Lib.hid (Below.refl _ _)⟩
  case round =>
    obtain ⟨D, hD, rfl, rfl, rfl, HB⟩ := hrel
    obtain ⟨D1, HD1⟩ : ∃ D1, Hid (D1 = D + 1) := ⟨_, rfl⟩
    have hd1 : (D : Int) + 1 = (D1 : Int) := by rw [HD1.out]; omega
    rw [hd1]
    obtain ⟨n0, HN0⟩ : ∃ n0, Hid (n0 = (best l a D).1) := ⟨_, rfl⟩
    obtain ⟨d0, HD0⟩ : ∃ d0, Hid (d0 = (best l a D).2) := ⟨_, rfl⟩
    rw [← HN0.out, ← HD0.out]
    have hn0 : (n0 : Int) ≤ 131 := by rw [HN0.out]; have := (best_le l a D).1; omega
    have hd0 : (d0 : Int) ≤ 1000 := by rw [HD0.out]; have := (best_le l a D).2; omega
    by_cases hDa : D < a
    · have g1 : (D1 : Int) ≤ (a : Int) := by rw [HD1.out]; omega
      have g1d : decide (D1 ≤ a) = true := decide_eq_true (by omega)
      have g2 : (D1 : Int) ≤ 65535 := by omega
      have g2d : decide ((D1 : Int) ≤ 65535) = true := decide_eq_true g2
      have HR := Lib.hid (run_any b0 off len c a D1 l wr HL.out (by rw [HD1.out]; omega) (by omega) H3.out ⟨H.out.hl, H.out.hc, H.out.lies.below HB.out⟩)
      go_wp2_with fail
      refine (HR.out).mono ?_
      rintro e w2 ⟨hb2, n, hn, rfl⟩
      have en : n = rn l a D1 := hn.one (rn_run l a D1)
      have HB2 := Lib.hid (HB.out.trans (hb2.mono HB.out.size))
      have hni : (n : Int) ≤ 131 := by have := hn.le; omega
      clear hb2 hn
      by_cases hgt : n0 < n
      · have hgt' : (n0 : Int) < (n : Int) := by omega
        have eb : best l a D1 = (n, D1) := by rw [HD1.out, best, ← HN0.out, ← HD1.out, ← en, if_pos hgt]
        clear en
        go_wp2_with fail
        go_roundw
        case rel => exact ⟨D1, by omega, by go_num, by rw [eb], by rw [eb], HB2⟩
        case measure => simp [Go.RowKit.intOf]; omega
      · have hgt' : ¬ (n0 : Int) < (n : Int) := by omega
        have eb : best l a D1 = (n0, d0) := by rw [HD1.out, best, ← HN0.out, ← HD1.out, ← en, if_neg hgt, HN0.out, HD0.out]
        clear en
        go_wp2_with fail
        go_roundw
        case rel => exact ⟨D1, by omega, by go_num, by rw [eb], by rw [eb], HB2⟩
        case measure => simp [Go.RowKit.intOf]; omega
    · obtain rfl : D = a := by omega
      have g1 : ¬ (D1 : Int) ≤ (D : Int) := by rw [HD1.out]; omega
      have g1d : decide (D1 ≤ D) = false := decide_eq_false (by rw [HD1.out]; omega)
      go_wp2_with fail
      go_ret2
      exact ⟨HB.out, by rw [← HN0.out, ← HD0.out]; rfl⟩
end Go.Proofs.YtpbcdmefngbjjaaGreatDoor
namespace Go.Proofs.YtpbcdmefngbjjaaGreatDoor
open Go.RowKit
open Go.Lib
theorem spL_len : ∀ (k : Nat) (l : List UInt8), l.length ≤ k → (spL l).length ≤ 2 * l.length
  | 0, l, h => by
    obtain rfl := List.eq_nil_of_length_eq_zero (Nat.le_zero.1 h)
    exact Nat.le_refl _
  | k + 1, l, h => by
    by_cases h0 : 0 < l.length
    · have h1 := spL_len k (l.drop (min l.length 128)) (by rw [List.length_drop]; omega)
      rw [List.length_drop] at h1
      rw [spL_step h0, List.length_cons, List.length_append, List.length_take]; omega
    · obtain rfl := List.eq_nil_of_length_eq_zero (by omega : l.length = 0)
      exact Nat.le_refl _
theorem rn_fits (l : List UInt8) (a d : Nat) (h : a ≤ l.length) : a + rn l a d ≤ l.length := by
  rcases Nat.eq_zero_or_pos (rn l a d) with h0 | h0
  · omega
  · have := ((rn_run l a d).same (rn l a d - 1) (by omega)).1; omega
theorem best_fits (l : List UInt8) (a : Nat) (h : a ≤ l.length) : ∀ D, a + (best l a D).1 ≤ l.length
  | 0 => h
  | D + 1 => by
    rw [best]
    split
    · exact rn_fits l a _ h
    · exact best_fits l a h D
/-- A token with a distance. -/
def tok (n d : Nat) : List UInt8 := [UInt8.ofNat (124 + n), UInt8.ofNat (d / 256), UInt8.ofNat (d % 256)]
def dcF (l : List UInt8) : Nat → Nat → Nat → List UInt8
  | 0, fr, _ => spL (l.drop fr)
  | f + 1, fr, a =>
    if a < l.length then
      if (best l a a).1 < 4 then dcF l f fr (a + 1)
      else spL ((l.drop fr).take (a - fr)) ++ (tok (best l a a).1 (best l a a).2 ++ dcF l f (a + (best l a a).1) (a + (best l a a).1))
    else spL (l.drop fr)
def dicL (l : List UInt8) : List UInt8 := dcF l l.length 0 0
theorem dcF_end {l : List UInt8} {a : Nat} (h : ¬ a < l.length) (f fr : Nat) : dcF l f fr a = spL (l.drop fr) := by
  cases f with
  | zero => rfl
  | succ f => rw [dcF, if_neg h]
theorem tok_bs (w : World) (x y z : UInt8) : Bs (w.alloc (.cells #[.int .u8 (x.toNat : Int), .int .u8 (y.toNat : Int), .int .u8 (z.toNat : Int)] 5)) (some ⟨w.heap.size, 0, none⟩) [x, y, z] := by
  refine .inr ⟨w.heap.size, 0, rfl, by simp, fun j hj => ?_⟩
  have : j = 0 ∨ j = 1 ∨ j = 2 := by simp at hj; omega
  have h := World.alloc_heap_new w (.cells #[.int .u8 (x.toNat : Int), .int .u8 (y.toNat : Int), .int .u8 (z.toNat : Int)] 5)
  simp only [World.cell?, h]
  rcases this with rfl | rfl | rfl <;> rfl
set_option maxRecDepth 100000 in
set_option maxHeartbeats 4000000 in
theorem rdict_some (b0 off len c : Nat) (l : List UInt8) (w : World) (hl : len ≤ 1000) (h : Came w (some ⟨b0, off, none⟩) len c l) :
    Calls Tryz.prog 26 #[.slice (some ⟨b0, off, none⟩) len c] w (RowPost (dicL l) w) := by
  have H := Lib.hid h
  have il : (len : Int) ≤ 1000 := by omega
  have HL := Lib.hid hl
  have hc := h.hc
  have ic : (len : Int) ≤ (c : Int) := by omega
  have hlen := Lib.hid h.hl
  obtain ⟨R, HR⟩ : ∃ R, Hid (R = dicL l) := ⟨_, rfl⟩
  rw [← HR.out]
  have HG0 : Hid (Grew w.heap.size w (.slice none 0 0) [] w (.slice none 0 0)) := Lib.hid (Grew.refl (l := []) (World.ownsRow_nil w w.heap.size 5 1))
  clear h hl
  go_enter Tryz.func26, Tryz.ntmps26
  go_wp2_with fail
  go_loopw [4, 5, 6] (fun ov fv av wr => ∃ (f fr a : Nat) (D : List UInt8), fr ≤ a ∧ a ≤ len ∧ fv = .int .i64 fr ∧ av = .int .i64 a ∧ Hid (len - a ≤ f) ∧ Hid (D ++ dcF l f fr a = R) ∧ Hid (D.length ≤ 2 * fr) ∧ Hid (Grew w.heap.size w (.slice none 0 0) D wr ov)) (fun _ _ av _ => len - (Go.RowKit.intOf av).toNat)
  case atStart => exact ⟨len, 0, 0, [], Nat.le_refl _, Nat.zero_le _, rfl, rfl, Lib.hid (Nat.le_refl _), Lib.hid (by rw [HR.out, dicL, hlen.out]; rfl), Lib.hid (Nat.zero_le _), HG0⟩
  case round =>
    obtain ⟨f, fr, a, D, hfa, hal, rfl, rfl, HF, HD, HDL, HG⟩ := hrel
    have hbw : Hid (Below w.heap.size w wr) := Lib.hid (HG.out.below (Nat.le_refl _) (by intro k hk; cases hk))
    have ia : (a : Int) ≤ (len : Int) := by omega
    have ifr : (fr : Int) ≤ (a : Int) := by omega
    have hCa := Lib.hid (Came.mk (w := wr) (p := some ⟨b0, off, none⟩) (c := c) H.out.hl H.out.hc (H.out.lies.below hbw.out))
    by_cases hlt : a < len
    · have ilt : (a : Int) < (len : Int) := by omega
      obtain ⟨n, HN⟩ : ∃ n, Hid (n = (best l a a).1) := ⟨_, rfl⟩
      obtain ⟨d, HDd⟩ : ∃ d, Hid (d = (best l a a).2) := ⟨_, rfl⟩
      have hn131 : n ≤ 131 := by rw [HN.out]; exact (best_le l a a).1
      have hda : d ≤ a := by rw [HDd.out]; exact (best_le l a a).2
      have hfit : a + n ≤ len := by rw [HN.out, ← hlen.out]; exact best_fits l a (by rw [hlen.out]; exact hal) a
      have HLg := Lib.hid (longest_any b0 off len c a l wr HL.out hlt hCa.out)
      rw [← HN.out, ← HDd.out] at HLg
      obtain ⟨f1, rfl⟩ : ∃ f1, f = f1 + 1 := ⟨f - 1, by have := HF.out; omega⟩
      have in131 : (n : Int) ≤ 131 := by omega
      have id1000 : (d : Int) ≤ 1000 := by have := HL.out; omega
      go_wp2_with fail
      refine (HLg.out).mono ?_
      rintro e w2 ⟨hb2, rfl⟩
      have G2 := Lib.hid (HG.out.trans (Grew.of_below HG.out.own hb2))
      have hB2 := Lib.hid (hbw.out.trans (hb2.mono hbw.out.size))
      clear hb2
      by_cases hn4 : n < 4
      · have in4 : (n : Int) < 4 := by omega
        have hstep : Hid (D ++ dcF l f1 fr (a + 1) = R) := Lib.hid (by rw [← HD.out, dcF, if_pos (by rw [hlen.out]; exact hlt), ← HN.out, if_pos hn4])
        go_wp2_with fail
        go_roundw
        case rel => exact ⟨f1, fr, a + 1, D, by omega, by omega, rfl, by go_num, Lib.hid (by have := HF.out; omega), hstep, HDL, G2⟩
        case measure => simp [Go.RowKit.intOf]; omega
      · have in4 : ¬ (n : Int) < 4 := by omega
        obtain ⟨k, HK⟩ : ∃ k, Hid (k = a - fr) := ⟨_, rfl⟩
        have fk : a - fr = k := HK.out.symm
        have ifc : (fr : Int) < (c : Int) := by omega
        have iac : (a : Int) ≤ (c : Int) := by omega
        obtain ⟨s1, HS1⟩ : ∃ s1, Hid (s1 = (l.drop fr).take k) := ⟨_, rfl⟩
        have hs1 : Came w2 (some ⟨b0, off + fr, none⟩) k (c - fr) s1 := ⟨by rw [HS1.out, List.length_take, List.length_drop, hlen.out, HK.out]; omega, by rw [HK.out]; omega, by rw [HS1.out]; exact bs_sub (H.out.lies.below hB2.out) fr k (by rw [hlen.out, HK.out]; omega) rfl⟩
        have HSp := Lib.hid (spoken_any (some ⟨b0, off + fr, none⟩) k (c - fr) s1 w2 (by rw [HK.out]; have := HL.out; omega) hs1)
        have hspl : Hid ((spL s1).length ≤ 2 * k) := Lib.hid (by have := spL_len k s1 (by rw [hs1.hl]; exact Nat.le_refl _); rwa [hs1.hl] at this)
        have hstep : Hid (D ++ (spL s1 ++ (tok n d ++ dcF l f1 (a + n) (a + n))) = R) := Lib.hid (by rw [← HD.out, dcF, if_pos (by rw [hlen.out]; exact hlt), ← HN.out, if_neg hn4, ← HDd.out, HS1.out, HK.out])
        clear hs1
        go_wp2_with fail
        refine (HSp.out).mono ?_
        rintro e w3 ⟨v3, rfl, hg3⟩
        have hb3 : Below w2.heap.size w2 w3 := hg3.below (Nat.le_refl _) (by intro k hk; cases hk)
        obtain ⟨p3, c3, rfl, hs3, -⟩ := own_bytes hg3.own
        obtain ⟨S, HS⟩ : ∃ S, Hid (S = spL s1) := ⟨_, rfl⟩
        rw [← HS.out] at hs3 hspl hstep ⊢
        obtain ⟨m3, HM3⟩ : ∃ m3, Hid (m3 = S.length) := ⟨_, rfl⟩
        rw [← HM3.out]
        have HS3 := Lib.hid hs3
        have G3 := Lib.hid (G2.out.trans (Grew.of_below G2.out.own hb3))
        have hB3 := Lib.hid (hB2.out.trans (hb3.mono hB2.out.size))
        have hDl : D.length ≤ 2000 := by have := HDL.out; have := HL.out; omega
        have hm3 : m3 ≤ 2000 := by have := hspl.out; have := HL.out; rw [HM3.out]; rw [HK.out] at *; omega
        have hbl3 : Hid (D.length + m3 ≤ 140737488355328 ∧ w.heap.size ≤ w3.heap.size) := Lib.hid ⟨by omega, hB3.out.size⟩
        clear hg3 hb3 hs3
        go_wp2_with (at_builtin; refine wpList_append_bs rfl (.tmp 26) (.tmp 31) rfl w.heap.size _ D.length D rfl rfl G3.out.own p3 m3 c3 S rfl HM3.out.symm HS3.out hbl3.out.1 hbl3.out.2 ?_)
        intro v4 w4 hg4
        obtain ⟨D4, HD4⟩ : ∃ D4, Hid (D4 = D ++ S) := ⟨_, rfl⟩
        rw [← HD4.out] at hg4
        have G4 := Lib.hid (G3.out.trans hg4)
        clear hg4
        have hB4 : Hid (Below w.heap.size w w4) := Lib.hid (G4.out.below (Nat.le_refl _) (by intro k hk; cases hk))
        have hD4 : Hid (D4.length ≤ 2 * a) := Lib.hid (by
          have h1 := HDL.out
          have h2 := hspl.out
          rw [HD4.out, List.length_append]; rw [HK.out] at h2; omega)
        obtain ⟨x, HX⟩ : ∃ x : UInt8, Hid (x = UInt8.ofNat (124 + n)) := ⟨_, rfl⟩
        obtain ⟨y, HY⟩ : ∃ y : UInt8, Hid (y = UInt8.ofNat (d / 256)) := ⟨_, rfl⟩
        obtain ⟨z, HZ⟩ : ∃ z : UInt8, Hid (z = UInt8.ofNat (d % 256)) := ⟨_, rfl⟩
        have hx : x.toNat = 124 + n := by rw [HX.out, UInt8.toNat_ofNat']; omega
        have hy : y.toNat = d / 256 := by rw [HY.out, UInt8.toNat_ofNat']; omega
        have hz : z.toNat = d % 256 := by rw [HZ.out, UInt8.toNat_ofNat']; omega
        have G4a := Lib.hid (G4.out.trans (Grew.of_below G4.out.own ((Below.refl _ w4).alloc (Nat.le_refl _) (.cells #[.int .u8 (128 + (n : Int) - 4), .int .u8 ((d : Int) / 256), .int .u8 ((d : Int) % 256)] 5))))
        have htk : Hid (Bs (w4.alloc (.cells #[.int .u8 (128 + (n : Int) - 4), .int .u8 ((d : Int) / 256), .int .u8 ((d : Int) % 256)] 5)) (some ⟨w4.heap.size, 0, none⟩) [x, y, z]) := Lib.hid (by
          have h := tok_bs w4 x y z
          rwa [show ((x.toNat : Nat) : Int) = 128 + (n : Int) - 4 by omega, show ((y.toNat : Nat) : Int) = (d : Int) / 256 by omega, show ((z.toNat : Nat) : Int) = (d : Int) % 256 by omega] at h)
        have hbl4 : Hid (D4.length + 3 ≤ 140737488355328 ∧ w.heap.size ≤ (w4.alloc (.cells #[.int .u8 (128 + (n : Int) - 4), .int .u8 ((d : Int) / 256), .int .u8 ((d : Int) % 256)] 5)).heap.size) := Lib.hid ⟨by have := hD4.out; have := HL.out; omega, by have := hB4.out.size; simp; omega⟩
        have htok : Hid (tok n d = [x, y, z]) := Lib.hid (by rw [tok, HX.out, HY.out, HZ.out])
        clear hx hy hz
        go_wp2_with (at_builtin; refine wpList_append_bs rfl (.tmp 33) (.tmp 43) rfl w.heap.size v4 D4.length D4 rfl rfl G4a.out.own _ 3 3 [x, y, z] rfl rfl htk.out hbl4.out.1 hbl4.out.2 ?_)
        intro v5 w5 hg5
        have G5 := Lib.hid (G4a.out.trans hg5)
        clear hg5
        obtain ⟨an, HAN⟩ : ∃ an, Hid (an = a + n) := ⟨_, rfl⟩
        have han : (a : Int) + (n : Int) = (an : Int) := by rw [HAN.out]; omega
        have hanl : an ≤ len := by rw [HAN.out]; exact hfit
        have hani : (an : Int) ≤ 1000 := by omega
        have hD5 : Hid ((D4 ++ [x, y, z]) ++ dcF l f1 an an = R) := Lib.hid (by rw [← hstep.out, HD4.out, htok.out, HAN.out]; simp only [List.append_assoc])
        have hDL5 : Hid ((D4 ++ [x, y, z]).length ≤ 2 * an) := Lib.hid (by
          have h1 := hD4.out
          rw [List.length_append]; show D4.length + 3 ≤ _
          rw [HAN.out]; omega)
        go_wp2_with fail
        go_roundw
        case rel => exact ⟨f1, an, an, D4 ++ [x, y, z], Nat.le_refl _, hanl, rfl, rfl, Lib.hid (by have := HF.out; rw [HAN.out]; omega), hD5, hDL5, G5⟩
        case measure => simp [Go.RowKit.intOf]; rw [HAN.out]; omega
    · obtain rfl : a = len := by omega
      have hnl : ¬ a < l.length := by rw [hlen.out]; omega
      have e := HD.out
      rw [dcF_end hnl] at e
      have ilt : ¬ (a : Int) < (a : Int) := by omega
      have ifc : (fr : Int) ≤ (c : Int) := by omega
      obtain ⟨k, HK⟩ : ∃ k, Hid (k = a - fr) := ⟨_, rfl⟩
      have fk : a - fr = k := HK.out.symm
      obtain ⟨s1, HS1⟩ : ∃ s1, Hid (s1 = l.drop fr) := ⟨_, rfl⟩
      rw [← HS1.out] at e
      have HSp : Hid (∀ q c1, Came wr q k c1 s1 → Calls Tryz.prog 52 #[.slice q k c1] wr (App wr.heap.size wr (.slice none 0 0) (spL s1))) := Lib.hid (fun q c1 hq => spoken_any q k c1 s1 wr (by rw [HK.out]; have := HL.out; omega) hq)
      have hsl : s1.length = k := by rw [HS1.out, List.length_drop, hlen.out, HK.out]
      have hspl : Hid ((spL s1).length ≤ 2 * k) := Lib.hid (by have := spL_len k s1 (by rw [hsl]; exact Nat.le_refl _); rwa [hsl] at this)
      obtain ⟨S, HS⟩ : ∃ S, Hid (S = spL s1) := ⟨_, rfl⟩
      rw [← HS.out] at HSp e hspl
      have hDl : D.length ≤ 2000 := by have := HDL.out; have := HL.out; omega
      have hSl : S.length ≤ 2000 := by have := hspl.out; have := HL.out; rw [HK.out] at *; omega
      have HE := Lib.hid e
      clear e
      by_cases hcf : c = fr
      · have hk0 : k = 0 := by rw [HK.out]; omega
        have hCm : Hid (Came wr (some ⟨b0, off, none⟩) 0 0 s1) := Lib.hid ⟨by rw [hsl]; exact hk0, Nat.le_refl _, .inl (by rw [hsl]; exact hk0)⟩
        rw [hk0] at HSp
        subst hcf
        obtain rfl : a = c := by omega
        clear fk
        go_wp2_with fail
        refine (HSp.out _ _ hCm.out).mono ?_
        rintro e w3 ⟨v3, rfl, hg3⟩
        have hb3 : Below wr.heap.size wr w3 := hg3.below (Nat.le_refl _) (by intro k hk; cases hk)
        obtain ⟨p3, c3, rfl, hs3, -⟩ := own_bytes hg3.own
        obtain ⟨m3, HM3⟩ : ∃ m3, Hid (m3 = S.length) := ⟨_, rfl⟩
        rw [← HM3.out]
        have HS3 := Lib.hid hs3
        have G3 := Lib.hid (HG.out.trans (Grew.of_below HG.out.own hb3))
        have hB3 := Lib.hid (hbw.out.trans (hb3.mono hbw.out.size))
        have hbl3 : Hid (D.length + m3 ≤ 140737488355328 ∧ w.heap.size ≤ w3.heap.size) := Lib.hid ⟨by rw [HM3.out]; omega, hB3.out.size⟩
        clear hg3 hb3 hs3
        go_wp2_with (at_builtin; refine wpList_append_bs rfl (.tmp 49) (.tmp 53) rfl w.heap.size _ D.length D rfl rfl G3.out.own p3 m3 c3 S rfl HM3.out.symm HS3.out hbl3.out.1 hbl3.out.2 ?_)
        intro v4 w4 hg4
        have G4 := Lib.hid (G3.out.trans hg4)
        rw [HE.out] at G4
        clear hg4
        have hB4 : Hid (Below w.heap.size w w4) := Lib.hid (G4.out.below (Nat.le_refl _) (by intro k hk; cases hk))
        go_wp2_with fail
        go_ret2
        exact ⟨hB4.out, _, rfl, G4.out.own⟩
      · have ifc' : (fr : Int) < (c : Int) := by omega
        have hCm : Hid (Came wr (some ⟨b0, off + fr, none⟩) k (c - fr) s1) := Lib.hid ⟨hsl, by rw [HK.out]; omega, by rw [HS1.out]; exact bs_tail hCa.out.lies fr (by rw [hlen.out]; omega) rfl⟩
        go_wp2_with fail
        refine (HSp.out _ _ hCm.out).mono ?_
        rintro e w3 ⟨v3, rfl, hg3⟩
        have hb3 : Below wr.heap.size wr w3 := hg3.below (Nat.le_refl _) (by intro k hk; cases hk)
        obtain ⟨p3, c3, rfl, hs3, -⟩ := own_bytes hg3.own
        obtain ⟨m3, HM3⟩ : ∃ m3, Hid (m3 = S.length) := ⟨_, rfl⟩
        rw [← HM3.out]
        have HS3 := Lib.hid hs3
        have G3 := Lib.hid (HG.out.trans (Grew.of_below HG.out.own hb3))
        have hB3 := Lib.hid (hbw.out.trans (hb3.mono hbw.out.size))
        have hbl3 : Hid (D.length + m3 ≤ 140737488355328 ∧ w.heap.size ≤ w3.heap.size) := Lib.hid ⟨by rw [HM3.out]; omega, hB3.out.size⟩
        clear hg3 hb3 hs3
        go_wp2_with (at_builtin; refine wpList_append_bs rfl (.tmp 49) (.tmp 53) rfl w.heap.size _ D.length D rfl rfl G3.out.own p3 m3 c3 S rfl HM3.out.symm HS3.out hbl3.out.1 hbl3.out.2 ?_)
        intro v4 w4 hg4
        have G4 := Lib.hid (G3.out.trans hg4)
        rw [HE.out] at G4
        clear hg4
        have hB4 : Hid (Below w.heap.size w w4) := Lib.hid (G4.out.below (Nat.le_refl _) (by intro k hk; cases hk))
        go_wp2_with fail
        go_ret2
        exact ⟨hB4.out, _, rfl, G4.out.own⟩
end Go.Proofs.YtpbcdmefngbjjaaGreatDoor
namespace Go.Proofs.YtpbcdmefngbjjaaGreatDoor
open Go.RowKit Go.Shelf
open Go.Lib
attribute [local go_sem] Oper.semAt_some
theorem chunk_in (m : Nat) (p : Option Addr) (len c : Nat) (w : World) :
    CallsIn Fence.wide m Tryz.prog 73 #[.slice p len c, .int .i64 128] w fun e w' => e = .returned (.func (.func 83) #[] #[.pointer (some ⟨w.heap.size, 0, none⟩), .pointer (some ⟨w.heap.size + 1, 0, none⟩)]) ∧ w' = (w.alloc (.cells #[.slice p len c] 22)).alloc (.cells #[.int .i64 128] 3) := by
  refine callsIn_of_wp Tryz.func73 rfl trivial ?_ rfl
  simp only [Tryz.ntmps73, List.size_toArray, List.length_cons, List.length_nil, Nat.reduceAdd, Nat.reduceSub, Array.replicate_succ, Array.replicate_zero, List.push_toArray, List.append_toArray, List.nil_append, List.cons_append]
  gi_wp2
  go_ret
  exact ⟨rfl, rfl⟩
abbrev ptL (len t : Nat) : Nat := min (len - 128 * t) 128
abbrev ptE (b0 off len k : Nat) (x : Pl k) : Array Value := #[.slice (some ⟨b0, off + 128 * x.1, none⟩) (ptL len x.1) (ptL len x.1)]
set_option maxRecDepth 100000 in
set_option maxHeartbeats 2000000 in
theorem it83_in (m : Nat) (hm : 1 ≤ m) (lr Bb Bn N0 len k c b0 off : Nat) (HK : Hid (k = (len + 127) / 128)) (hlen : len ≤ 1000) (hc : len ≤ c) (J Jx : List (Pl k) → World → Prop)
    (hJd : ∀ pre W q, J pre W → J pre (W.drewN q))
    (hY : ∀ pre x W, J pre W → pre.length < k → YieldAt Fence.wide (m - 1) Tryz.prog lr (ptE b0 off len k x) W fun e W' =>
      (e = .returned (.bool true) ∧ J (pre ++ [x]) W' ∧ Keep3 N0 Bn Bb W W') ∨ (e = .returned (.bool false) ∧ Jx (pre ++ [x]) W'))
    (W : World) (hBn : W.cell? ⟨Bn, 0, none⟩ = some (.int .i64 128)) (hBb : W.cell? ⟨Bb, 0, none⟩ = some (.slice (some ⟨b0, off, none⟩) len c)) (h0 : J [] W) :
    CallsIn Fence.wide m Tryz.prog 83 #[.func (.yield lr) #[] #[], .pointer (some ⟨Bb, 0, none⟩), .pointer (some ⟨Bn, 0, none⟩)] W fun e W' => (∃ v, e = .returned v) ∧
      ((∃ ys, ys.map (·.1) = List.range k ∧ J ys W') ∨ (∃ pre, True ∧ Jx pre W')) := by
  have hli : (len : Int) ≤ 1000 := by omega
  have hci : (len : Int) ≤ (c : Int) := by omega
  have hkl : k ≤ 8 := by rw [HK.out]; omega
  refine callsIn_of_wp Tryz.func83 rfl trivial ?_ rfl
  simp only [Tryz.ntmps83, List.size_toArray, List.length_cons, List.length_nil, Nat.reduceAdd, Nat.reduceSub, Array.replicate_succ, Array.replicate_zero, List.push_toArray, List.append_toArray, List.nil_append, List.cons_append]
  gi_wp2
  have HJ0 := Lib.hid h0
  gi_loopw [4] (fun tv wr => ∃ (t i : Nat) (pre : List (Pl k)), i ≤ k ∧ tv = .int .i64 t ∧ Hid (t = 128 * i) ∧ Hid (pre.map (·.1) = List.range i) ∧ Hid (J pre wr) ∧ Hid (Keep3 N0 Bn Bb W wr)) (fun tv _ => len + 128 - (Go.RowKit.intOf tv).toNat)
  case atStart => exact ⟨0, 0, [], Nat.zero_le _, rfl, rfl, rfl, HJ0, Lib.hid (Keep3.refl _ _ _ _)⟩
  case round =>
    obtain ⟨t, i, pre, hik, rfl, HT, HP, HJ, HB⟩ := hrel
    have hti : (t : Int) ≤ 1024 := by rw [HT.out]; omega
    by_cases hilt : i < k
    · have htl : t < len := by rw [HT.out]; have := HK.out; omega
      have htl' : (t : Int) < (len : Int) := by omega
      have htc : (t : Int) < (c : Int) := by omega
      have hcn := HB.out.c1.trans hBn
      have hcb := HB.out.c2.trans hBb
      obtain ⟨e, HE⟩ : ∃ e, Hid (e = ptL len i) := ⟨_, rfl⟩
      have he1 : 1 ≤ e := by rw [HE.out]; have := HT.out; simp only [ptL]; omega
      obtain ⟨r, HR⟩ : ∃ r, Hid (r = len - t) := ⟨_, rfl⟩
      have fr : len - t = r := HR.out.symm
      have hmin : (if (r : Int) < 128 then (r : Int) else 128) = (e : Int) := by
        rw [HE.out, HR.out]; have := HT.out; simp only [ptL]; split <;> omega
      have hmin2 : min (128 : Int) (r : Int) = (e : Int) := by
        rw [HE.out, HR.out]; have := HT.out; simp only [ptL]; omega
      have hmin3 : min (r : Int) 128 = (e : Int) := by rw [Int.min_comm]; exact hmin2
      have her : e ≤ len - t := by rw [HE.out]; have := HT.out; simp only [ptL]; omega
      have hei : 1 ≤ (e : Int) := by omega
      have hei2 : (e : Int) ≤ 128 := by rw [HE.out]; simp only [ptL]; omega
      obtain ⟨an, HAN⟩ : ∃ an, Hid (an = t + e) := ⟨_, rfl⟩
      have han : (t : Int) + (e : Int) = (an : Int) := by rw [HAN.out]; omega
      have hanl : (an : Int) ≤ (len : Int) := by rw [HAN.out]; omega
      have hta : (t : Int) < (an : Int) := by omega
      have hta' : (t : Int) ≤ (an : Int) := by omega
      have hac : (an : Int) ≤ (c : Int) := by omega
      have fan : an - t = e := by rw [HAN.out]; omega
      have hne : ¬ an = t := by omega
      have htle : t ≤ len := by omega
      have hct : ¬ c = t := by omega
      have hcb2 : wr.drew.cell? ⟨Bb, 0, none⟩ = some (.slice (some ⟨b0, off, none⟩) len c) := hcb
      have hcn2 : wr.drew.cell? ⟨Bn, 0, none⟩ = some (.int .i64 128) := hcn
      have HJ2 := Lib.hid (hJd pre wr 1 HJ.out)
      have HB2 : Hid (Keep3 N0 Bn Bb W wr.drew) := Lib.hid (HB.out.trans ⟨(Below.refl _ _).drew, rfl, rfl⟩)
      obtain ⟨fn, tmps, assign, body, hy, hRo⟩ := hY pre ⟨i, hilt⟩ wr.drew HJ2.out (by
        have h := congrArg List.length HP.out
        rw [List.length_map, List.length_range] at h; omega)
      have hy2 : (Instr.yield lr #[.slice (some ⟨b0, off + t, none⟩) e e]).run Tryz.prog wr.drew = .ok (.round lr fn tmps assign body) wr.drew := by
        rw [HT.out, HE.out]; exact hy
      clear hy
      gi_wp2
      refine wpIn_wide.2 ?_
      refine wp_region_noPanic ?_
      refine wp_region_held_drew (S := fun W' => W'.cell? ⟨Bb, 0, none⟩ = some (.slice (some ⟨b0, off, none⟩) len c) ∧ W'.cell? ⟨Bn, 0, none⟩ = some (.int .i64 128)) (by kernel_rfl) ⟨hcb2, hcn2⟩ (fun hHeld => ?_)
      refine wpAnyH_take (i := 0) (v := ?v1) rfl (by kernel_rfl) (by kernel_rfl) (by kernel_rfl) (fun _ _ _ h => h) (Or.inl ⟨by rfl, ?hy1⟩) (by assumption) ?rest1
      case hy1 =>
        intro W' hSw
        obtain ⟨e1, e2⟩ := hSw
        go_simp
        with_reducible rfl
      simp only [List.getElem_toArray, List.getElem_cons_zero, Act.put, List.setIfInBounds_toArray, List.set_cons_zero, List.set_cons_succ]
      refine wpAnyH_take (i := 1) (v := ?v2) rfl (by kernel_rfl) (by kernel_rfl) (by kernel_rfl) (fun _ _ _ h => h) (Or.inl ⟨by rfl, ?hy2⟩) (by assumption) ?rest2
      case hy2 =>
        intro W' hSw
        obtain ⟨e1, e2⟩ := hSw
        go_simp
        with_reducible rfl
      simp only [List.getElem_toArray, List.getElem_cons_zero, List.getElem_cons_succ, Act.put, List.setIfInBounds_toArray, List.set_cons_zero, List.set_cons_succ]
      refine wpAnyH_take (i := 2) (v := ?v3) rfl (by kernel_rfl) (by kernel_rfl) (by kernel_rfl) (fun _ _ _ h => h) (Or.inl ⟨by rfl, ?hy3⟩) (by assumption) ?rest3
      case hy3 =>
        intro W' hSw
        obtain ⟨e1, e2⟩ := hSw
        go_simp
        with_reducible rfl
      simp only [List.getElem_toArray, List.getElem_cons_zero, List.getElem_cons_succ, Act.put, List.setIfInBounds_toArray, List.set_cons_zero, List.set_cons_succ]
      refine wpAnyH_take (i := 3) (v := ?v4) rfl (by kernel_rfl) (by kernel_rfl) (by kernel_rfl) (fun _ _ _ h => h) (Or.inl ⟨by rfl, ?hy4⟩) (by assumption) ?rest4
      case hy4 =>
        intro W' hSw
        obtain ⟨e1, e2⟩ := hSw
        go_simp
        with_reducible rfl
      simp only [List.getElem_toArray, List.getElem_cons_zero, List.getElem_cons_succ, Act.put, List.setIfInBounds_toArray, List.set_cons_zero, List.set_cons_succ]
      refine wpAnyH_take (i := 4) (v := ?v5) rfl (by kernel_rfl) (by kernel_rfl) (by kernel_rfl) (fun _ _ _ h => h) (Or.inl ⟨by rfl, ?hy5⟩) (by assumption) ?rest5
      case hy5 =>
        intro W' hSw
        obtain ⟨e1, e2⟩ := hSw
        go_simp
        with_reducible rfl
      simp only [List.getElem_toArray, List.getElem_cons_zero, List.getElem_cons_succ, Act.put, List.setIfInBounds_toArray, List.set_cons_zero, List.set_cons_succ]
      refine wpAnyH_take (i := 5) (v := ?v6) rfl (by kernel_rfl) (by kernel_rfl) (by kernel_rfl) (fun _ _ _ h => h) (Or.inl ⟨by rfl, ?hy6⟩) (by assumption) ?rest6
      case hy6 =>
        intro W' hSw
        obtain ⟨e1, e2⟩ := hSw
        go_simp
        with_reducible rfl
      simp only [List.getElem_toArray, List.getElem_cons_zero, List.getElem_cons_succ, Act.put, List.setIfInBounds_toArray, List.set_cons_zero, List.set_cons_succ]
      refine wpAnyH_ready (rs := [6]) (by kernel_rfl) (by simp) ?_
      refine AllReadyH.cons (i := 6) rfl (fun K hK => ?_) AllReadyH.nil
      go_simp
      refine hK.out _ _ (⟨hcb2, hcn2⟩) (fun hHeld => ?_)
      clear hK K
      refine wpAnyH_done (by kernel_rfl) ?_ _
      refine NoPanic.normal ?_
      clear hHeld
      gi_wp2
      trace_state
      refine hRo.mono ?_
      rintro e' W3 (⟨rfl, hJ3, hk3⟩ | ⟨rfl, hJx3⟩)
      · have HB3 := Lib.hid (HB2.out.trans hk3)
        have HJ3 := Lib.hid hJ3
        have hcn3 := HB3.out.c1.trans hBn
        clear hJ3 hk3 hy2
        gi_wp2
        go_roundw
        case rel => exact ⟨t + 128, i + 1, pre ++ [⟨i, hilt⟩], by omega, by go_num, Lib.hid (by rw [HT.out]; omega), Lib.hid (by rw [List.map_append, HP.out, List.range_succ]; rfl), HJ3, HB3⟩
        case measure => simp [Go.RowKit.intOf]; omega
      · gi_wp2
        refine bodyPost_ret (results_none rfl _ _ _) rfl ?_
        exact ⟨⟨_, rfl⟩, .inr ⟨_, trivial, hJx3⟩⟩
    · obtain rfl : i = k := by omega
      have hcb := HB.out.c2.trans hBb
      have htl : ¬ (t : Int) < (len : Int) := by rw [HT.out]; have := HK.out; omega
      gi_wp2
      go_end0
      exact ⟨⟨_, rfl⟩, .inl ⟨pre, HP.out, HJ.out⟩⟩
theorem chunk_stops (m : Nat) (hm : 1 ≤ m) (Bb Bn N0 len k c b0 off : Nat) (HK : Hid (k = (len + 127) / 128)) (hlen : len ≤ 1000) (hc : len ≤ c) (w : World) (hB1 : Bn < w.heap.size) (hB2 : Bb < w.heap.size)
    (hBn : w.cell? ⟨Bn, 0, none⟩ = some (.int .i64 128)) (hBb : w.cell? ⟨Bb, 0, none⟩ = some (.slice (some ⟨b0, off, none⟩) len c)) :
    SeqStopsK Fence.wide m Tryz.prog 83 #[.pointer (some ⟨Bb, 0, none⟩), .pointer (some ⟨Bn, 0, none⟩)] (ptE b0 off len k) (Keep3 N0 Bn Bb) (fun ys => ys.map (·.1) = List.range k) (fun _ => True) k w := fun lr J Jx W hW hJ _ hY h0 =>
  it83_in m hm lr Bb Bn N0 len k c b0 off HK hlen hc J Jx (fun pre W' q hj => hJ pre W' (W'.drewN q) none hj ⟨rfl, rfl, rfl, Nat.le_refl _, fun _ _ _ => rfl⟩ (fun r e => by cases e)) hY W
    ((hW.cell (p := ⟨Bn, 0, none⟩) hB1).trans hBn) ((hW.cell (p := ⟨Bb, 0, none⟩) hB2).trans hBb) h0
end Go.Proofs.YtpbcdmefngbjjaaGreatDoor
namespace Go.Proofs.YtpbcdmefngbjjaaGreatDoor
open Go.RowKit Go.Shelf
open Go.Lib
attribute [local go_sem] Oper.semAt_some
/-- The token of part t. -/
def ptT (l : List UInt8) (len t : Nat) : List UInt8 := UInt8.ofNat (ptL len t - 1) :: (l.drop (128 * t)).take (ptL len t)
def ptD (l : List UInt8) (len : Nat) (ts : List Nat) : List UInt8 := (ts.map (ptT l len)).flatten
theorem ptD_snoc (l : List UInt8) (len : Nat) (ts : List Nat) (t : Nat) : ptD l len (ts ++ [t]) = ptD l len ts ++ ptT l len t := by
  rw [ptD, List.map_append, List.flatten_append]; simp [ptD]
theorem ptD_range (l : List UInt8) : ∀ i, 128 * i < l.length + 128 → ptD l l.length (List.range i) ++ spL (l.drop (128 * i)) = spL l
  | 0, _ => rfl
  | i + 1, h => by
    have hd : 0 < (l.drop (128 * i)).length := by rw [List.length_drop]; omega
    have h1 := ptD_range l i (by omega)
    rw [spL_step hd, List.drop_drop] at h1
    have e1 : min (l.drop (128 * i)).length 128 = ptL l.length i := by rw [List.length_drop]
    rw [e1] at h1
    rw [List.range_succ, ptD_snoc, ptT, ← h1, List.append_assoc]
    congr 1
    rw [List.cons_append]
    by_cases hl : l.length - 128 * i < 128
    · have e2 : ptL l.length i = l.length - 128 * i := by simp only [ptL]; omega
      have e3 : l.drop (128 * (i + 1)) = [] := List.drop_of_length_le (by omega)
      have e4 : l.drop (128 * i + ptL l.length i) = [] := List.drop_of_length_le (by rw [e2]; omega)
      rw [e3, e4]
    · have e2 : ptL l.length i = 128 := by simp only [ptL]; omega
      rw [e2, show 128 * (i + 1) = 128 * i + 128 by omega]
theorem ptD_all (l : List UInt8) : ptD l l.length (List.range ((l.length + 127) / 128)) = spL l := by
  have h := ptD_range l ((l.length + 127) / 128) (by omega)
  rwa [List.drop_of_length_le (by omega), spL_nil, List.append_nil] at h
theorem ptD_len (l : List UInt8) (len : Nat) : ∀ ts : List Nat, (ptD l len ts).length ≤ 129 * ts.length
  | [] => Nat.le_refl _
  | t :: ts => by
    have h := ptD_len l len ts
    have e : ptD l len (t :: ts) = ptT l len t ++ ptD l len ts := rfl
    have h2 : ptL len t ≤ 128 := by simp only [ptL]; omega
    rw [e, List.length_append, ptT, List.length_cons, List.length_take, List.length_cons]; omega
structure ApI (B N : Nat) (p : Option Addr) (len c : Nat) (w : World) (v0 v : Value) (D : List UInt8) (W : World) : Prop where
  old : w.grownBy W v0.ownBlock
  lies : v.ownBlock = v0.ownBlock ∨ ∃ j, v.ownBlock = some j ∧ w.heap.size ≤ j
  own : W.ownsRow B 5 1 v D.length (u8s D)
  out : W.heap[N]? = some (.cells #[v] 22 (0, 0))
  i1 : W.heap[N + 1]? = some (.cells #[.slice p len c] 22 (0, 0))
  i2 : W.heap[N + 1 + 1]? = some (.cells #[.int .i64 128] 3 (0, 0))
  bel : Below B w W
section
variable {B N : Nat} {p : Option Addr} {len c : Nat} {w W W' : World} {v0 v v' : Value} {D D' : List UInt8}
theorem ApI.keep (h : ApI B N p len c w v0 v D W) {row : Option Nat} (hg : W.grownBy W' row) (hr : ∀ r, row = some r → w.heap.size ≤ r ∧ ∃ o : Obj, W.heap[r]? = some o ∧ o.isCells = false) (hBw : B ≤ w.heap.size) (hB : B ≤ W.heap.size) : ApI B N p len c w v0 v D W' := by
  have hk : ∀ {k : Nat} {o : Obj}, W.heap[k]? = some o → o.isCells = true → W'.heap[k]? = some o := fun h1 h2 => (grownBy_keeps_cells hg (fun r e => (hr r e).2) h1 h2).trans h1
  exact ⟨⟨hg.os.trans h.old.os, hg.tape.trans h.old.tape, hg.output.trans h.old.output, Nat.le_trans h.old.size hg.size, fun k hk9 hne => (hg.block k (Nat.lt_of_lt_of_le hk9 h.old.size) (fun e => by have := (hr k e.symm).1; omega)).trans (h.old.block k hk9 hne)⟩, h.lies, own_keep h.own (fun k cs h1 => hk h1 rfl), hk h.out rfl, hk h.i1 rfl, hk h.i2 rfl, h.bel.grown hg hB (fun k e => Nat.le_trans hBw (hr k e).1)⟩
theorem ApI.app (h : ApI B N p len c w v0 v D W) (hBW : B ≤ W.heap.size) (hBN : B ≤ N) (hwN : w.heap.size ≤ N) (hg : Grew B W v D' W' v') : W'.ownsRow B 5 1 v' D'.length (u8s D') ∧ ApI B N p len c w v0 v' D' (W'.setCell ⟨N, 0, none⟩ v') ∧ KeepsOthers W (W'.setCell ⟨N, 0, none⟩ v') ∧ W'.heap[N]? = some (.cells #[v] 22 (0, 0)) ∧ Below B W (W'.setCell ⟨N, 0, none⟩ v') := by
  have hk : ∀ {k : Nat} {cs : Array Value} {t : TypeId}, W.heap[k]? = some (.cells cs t (0, 0)) → t ≠ 5 → W'.heap[k]? = some (.cells cs t (0, 0)) := fun h1 h2 => (hg.grown.block _ (Array.getElem?_eq_some_iff.1 h1).1 (own_ne h.own h1 h2)).trans h1
  have hs : ∀ {k : Nat} {o : Obj}, k ≠ N → W'.heap[k]? = some o → (W'.setCell ⟨N, 0, none⟩ v').heap[k]? = some o := fun hne h1 => (Below.heap_setCell W' ⟨N, 0, none⟩ _ _ hne).trans h1
  have hO := hk h.out (by decide)
  have hne : ∀ {k : Nat} {cs : Array Value}, W'.heap[k]? = some (.cells cs 5 (0, 0)) → k ≠ N := by
    rintro k cs h1 rfl
    rw [hO] at h1; cases h1
  have hb1 : Below B w W' := h.bel.grown hg.grown hBW (fun k e => own_ge h.own e)
  have hG : Grew B w v0 D' W' v' := Grew.trans ⟨h.own, h.old, h.lies⟩ hg
  refine ⟨hg.own, ⟨⟨hG.grown.os, hG.grown.tape, hG.grown.output, Nat.le_trans hG.grown.size (KeepsOthers.setCell W' ⟨N, 0, none⟩ v').size, fun k hk9 hne9 => (Below.heap_setCell W' ⟨N, 0, none⟩ _ _ (by show k ≠ N; omega)).trans (hG.grown.block k hk9 hne9)⟩, hG.lies, own_keep hg.own (fun k cs h3 => hs (hne h3) h3), block_of_set hO, hs (by omega) (hk h.i1 (by decide)), hs (by omega) (hk h.i2 (by decide)), hb1.setCell (p := ⟨N, 0, none⟩) hBN _⟩, (KeepsOthers.of_grownBy hg.grown (own_cells h.own)).trans (KeepsOthers.setCell _ _ _), hO, ((Below.refl B W).grown hg.grown hBW (fun k e => own_ge h.own e)).setCell (p := ⟨N, 0, none⟩) hBN _⟩
end
set_option maxRecDepth 100000 in
set_option maxHeartbeats 4000000 in
theorem appendPlain_some (B b0 off len c : Nat) (v0 : Value) (D0 l : List UInt8) (w : World) (hlen : Hid (len = l.length)) (hl : len ≤ 1000) (hc : len ≤ c) (hD0 : D0.length ≤ 100000) (hB : B ≤ w.heap.size) (hown : w.ownsRow B 5 1 v0 D0.length (u8s D0)) (hbs : BsN B w (some ⟨b0, off, none⟩) l) :
    Calls Tryz.prog 50 #[v0, .slice (some ⟨b0, off, none⟩) len c] w (App B w v0 (D0 ++ spL l)) := by
  obtain ⟨k, HK⟩ : ∃ k, Hid (k = (len + 127) / 128) := ⟨_, rfl⟩
  have HB0 := Lib.hid hbs
  have HO0 := Lib.hid hown
  obtain ⟨pv, cv, rfl, -, -⟩ := own_bytes hown
  obtain ⟨m0, HM0⟩ : ∃ m0, Hid (m0 = D0.length) := ⟨_, rfl⟩
  rw [← HM0.out]
  clear hbs hown
  refine (callsIn_wide (n := 9)).1 ?_
  refine callsIn_of_wp_marks Tryz.func50 rfl trivial ?_ rfl
  simp only [Tryz.ntmps50, List.size_toArray, List.length_cons, List.length_nil, Nat.reduceAdd, Nat.reduceSub, Array.replicate_succ, Array.replicate_zero, List.push_toArray, List.append_toArray, List.nil_append, List.cons_append]
  gi_wp2_with (refine ⟨trivial, ?_⟩; gi_at_call 73; refine (chunk_in _ _ _ _ _).mono ?_; rintro e w' ⟨rfl, rfl⟩)
  obtain ⟨W0, hW0⟩ : ∃ W0, (((w.alloc (.cells #[.slice pv m0 cv] 22)).alloc (.cells #[.slice (some ⟨b0, off, none⟩) len c] 22)).alloc (.cells #[.int .i64 128] 3)) = W0 := ⟨_, rfl⟩
  have hs0 : W0.heap.size = w.heap.size + 3 := by rw [← hW0]; simp
  have hbe : Below w.heap.size w W0 := by rw [← hW0]; exact (((Below.refl _ w).alloc (Nat.le_refl _) _).alloc (by simp) _).alloc (by simp <;> omega) _
  have hI0 : ApI B w.heap.size (some ⟨b0, off, none⟩) len c w (.slice pv m0 cv) (.slice pv m0 cv) D0 W0 := by
    refine ⟨grown_below hbe _, .inl rfl, ?_, ?_, ?_, ?_, hbe.mono hB⟩
    · rw [HM0.out]; exact own_below HO0.out hbe
    all_goals (rw [← hW0])
    · exact (Below.heap_alloc _ _ _ (by simp <;> omega)).trans ((Below.heap_alloc _ _ _ (by simp)).trans (World.alloc_heap_new w _))
    · refine (Below.heap_alloc _ _ _ (by simp)).trans ?_
      have := World.alloc_heap_new (w.alloc (.cells #[.slice pv m0 cv] 22)) (.cells #[.slice (some ⟨b0, off, none⟩) len c] 22); rwa [World.size_alloc] at this
    · have := World.alloc_heap_new ((w.alloc (.cells #[.slice pv m0 cv] 22)).alloc (.cells #[.slice (some ⟨b0, off, none⟩) len c] 22)) (.cells #[.int .i64 128] 3); rwa [World.size_alloc, World.size_alloc] at this
  rw [hW0]
  refine wpIn_rangeFunc_ownF rfl (by omega) (gf := 83) (lb := #[.pointer (some ⟨w.heap.size + 1, 0, none⟩), .pointer (some ⟨w.heap.size + 1 + 1, 0, none⟩)]) rfl trivial (enters_of Tryz.func83 (by kernel_rfl) rfl)
    (chunk_stops _ (by omega) (w.heap.size + 1) (w.heap.size + 1 + 1) B len k c b0 off HK hl hc W0 (by omega) (by omega) (by simp [World.cell?, hI0.i2]) (by simp [World.cell?, hI0.i1])) Keep3.trans
    (fun W lo o o' hlo ho hc hw => ⟨(Below.refl _ W).grown (grownBy_putObj' W lo o') (by have := (Array.getElem?_eq_some_iff.1 ho).1; omega) (fun k e => by cases e; omega), World.putObj_heap_other (by omega), World.putObj_heap_other (by omega)⟩) (Below.refl _ _) (fun _ => rfl)
    (fun pre W => (∃ v, ApI B w.heap.size (some ⟨b0, off, none⟩) len c w (.slice pv m0 cv) v (D0 ++ ptD l len (pre.map (·.1))) W) ∧ B ≤ W.heap.size)
    (fun _ _ _ => False)
    (fun s W W' row h hg hr => by obtain ⟨⟨v, h⟩, hB9⟩ := h; exact ⟨⟨v, h.keep hg (fun r e => ⟨by have := (hr r e).1; omega, (hr r e).2⟩) hB hB9⟩, Nat.le_trans hB9 hg.size⟩)
    (fun _ _ _ _ _ h _ _ => h)
    ⟨⟨_, by rw [show ptD l len (([] : List (Pl k)).map (·.1)) = [] from rfl, List.append_nil]; exact hI0⟩, by omega⟩ ?a1 ?assign ?body ?done ?stop
  case assign =>
    intro lo x W K hK
    gi_wp2
    exact hK
  case body =>
    rintro lo pre x W ⟨⟨v, hI⟩, hBW⟩ hlen2
    obtain ⟨D, HD⟩ : ∃ D, Hid (D = D0 ++ ptD l len (pre.map (·.1))) := ⟨_, rfl⟩
    rw [← HD.out] at hI
    have HI := Lib.hid hI
    obtain ⟨e, HE⟩ : ∃ e, Hid (e = ptL len x.1) := ⟨_, rfl⟩
    obtain ⟨t, HT⟩ : ∃ t, Hid (t = 128 * x.1) := ⟨_, rfl⟩
    have hxl := x.2
    have htl : t < len := by have := HK.out; rw [HT.out]; omega
    have he1 : 1 ≤ e := by rw [HE.out]; have := HT.out; simp only [ptL]; omega
    have he2 : t + e ≤ len := by rw [HE.out]; have := HT.out; simp only [ptL]; omega
    have he3 : e ≤ 128 := by rw [HE.out]; simp only [ptL]; omega
    have ee : ptL len x.1 = e := HE.out.symm
    have et : 128 * x.1 = t := HT.out.symm
    simp only [ee, et]
    have hi1 : 1 ≤ (e : Int) := by omega
    have hi3 : (e : Int) ≤ 128 := by omega
    obtain ⟨y, HY⟩ : ∃ y : UInt8, Hid (y = UInt8.ofNat (e - 1)) := ⟨_, rfl⟩
    have hyn : y.toNat = e - 1 := by rw [HY.out, UInt8.toNat_ofNat']; omega
    have hyi : (e : Int) - 1 = ((y.toNat : Nat) : Int) := by rw [hyn]; omega
    have hyl : ((y.toNat : Nat) : Int) ≤ 127 := by rw [hyn]; omega
    obtain ⟨pt, HPT⟩ : ∃ pt, Hid (pt = (l.drop t).take e) := ⟨_, rfl⟩
    have hptl : pt.length = e := by rw [HPT.out, List.length_take, List.length_drop, ← hlen.out]; omega
    have HEND : Hid (D ++ [y] ++ pt = D0 ++ ptD l len ((pre ++ [x]).map (·.1))) := Lib.hid (by
      rw [List.map_append, List.map_cons, List.map_nil, ptD_snoc, ptT, ee, et, ← HY.out, ← HPT.out, HD.out]; simp only [List.append_assoc, List.cons_append, List.nil_append])
    have hDl : D.length ≤ 140000000000000 := by
      have h5 := ptD_len l len (pre.map (·.1))
      have h6 := HK.out
      rw [List.length_map] at h5
      rw [HD.out, List.length_append]; omega
    have cO : W.cell? ⟨w.heap.size, 0, none⟩ = some v := by simp [World.cell?, hI.out]
    have HIa : Hid (ApI B w.heap.size (some ⟨b0, off, none⟩) len c w (.slice pv m0 cv) v D (W.alloc (.cells #[.int .u8 ((y.toNat : Nat) : Int)] 5))) := Lib.hid (hI.keep (World.grownBy_alloc W _ none) (fun r e => by cases e) hB hBW)
    have hko : Hid (KeepsOthers W (W.alloc (.cells #[.int .u8 ((y.toNat : Nat) : Int)] 5)) ∧ Below B W (W.alloc (.cells #[.int .u8 ((y.toNat : Nat) : Int)] 5))) := Lib.hid ⟨KeepsOthers.alloc _ _, (Below.refl _ _).alloc hBW _⟩
    have hone := Lib.hid (byte_bs W y)
    have hsz : Hid (B ≤ (W.alloc (.cells #[.int .u8 ((y.toNat : Nat) : Int)] 5)).heap.size) := Lib.hid (by simp; omega)
    clear hI hyn
    gi_wp2_with (refine wpListIn_plain (o := ⟨some 15, _, _, _, _, _⟩) rfl fun K hK => oper_round rfl (op_append_bs (.tmp 9) (.tmp 14) rfl B v D.length D rfl rfl HIa.out.own _ 1 1 [y] rfl rfl hone.out (by omega) hsz.out ?_))
    intro v5 W5 hg5
    obtain ⟨hown5, hci5, hko5, hO5, hbl5⟩ := HIa.out.app hsz.out hB (Nat.le_refl _) hg5
    have hB5 : B ≤ W5.heap.size := Nat.le_trans hsz.out hg5.grown.size
    obtain ⟨D5, HD5⟩ : ∃ D5, Hid (D5 = D ++ [y]) := ⟨D ++ [y], Lib.hid rfl⟩
    rw [← HD5.out] at hown5 hci5
    obtain ⟨p5, c5, rfl, -, -⟩ := own_bytes hown5
    obtain ⟨m5, HM5⟩ : ∃ m5, Hid (m5 = D5.length) := ⟨_, rfl⟩
    rw [← HM5.out] at hci5 hko5 hbl5 ⊢
    have fO : W5.cell? ⟨w.heap.size, 0, none⟩ = some v := by simp [World.cell?, hO5]
    have fOz : W5.frozen? ⟨w.heap.size, 0, none⟩ = false := by simp [World.frozen?, hO5]
    obtain ⟨W6, hW6⟩ : ∃ W6, W5.setCell ⟨w.heap.size, 0, none⟩ (.slice p5 m5 c5) = W6 := ⟨_, rfl⟩
    rw [hW6] at hci5 hko5 hbl5
    have HI6 := Lib.hid hci5
    have HK6 : Hid (KeepsOthers W W6 ∧ Below B W W6) := Lib.hid ⟨hko.out.1.trans hko5, hko.out.2.trans hbl5⟩
    have hB6 : B ≤ W6.heap.size := Nat.le_trans hBW HK6.out.2.size
    have cO6 : W6.cell? ⟨w.heap.size, 0, none⟩ = some (.slice p5 m5 c5) := by have h := HI6.out.out; simp [World.cell?, h]
    have cO6z : W6.frozen? ⟨w.heap.size, 0, none⟩ = false := by have h := HI6.out.out; simp [World.frozen?, h]
    have hbs6 : Hid (Bs W6 (some ⟨b0, off + t, none⟩) pt) := Lib.hid (by
      rw [HPT.out]; exact bs_sub ((HB0.out.keep HI6.out.bel).bs hB6) t e (by rw [← hlen.out]; omega) rfl)
    have hm5l : Hid (m5 + e ≤ 140737488355328) := Lib.hid (by rw [HM5.out, HD5.out, List.length_append]; show D.length + 1 + e ≤ _; omega)
    have hown6 : Hid (W6.ownsRow B 5 1 (.slice p5 m5 c5) m5 (u8s D5)) := Lib.hid (by have h := HI6.out.own; rwa [← HM5.out] at h)
    clear hown5 hci5 hko5 hO5 hbl5 hg5 cO
    refine hK _ _ ?_
    gi_wp2_with (refine wpListIn_plain (o := ⟨some 18, _, _, _, _, _⟩) rfl fun K hK => oper_round rfl (op_append_bs (.tmp 16) (.tmp 17) rfl B (.slice p5 m5 c5) m5 D5 rfl HM5.out hown6.out _ e e pt rfl hptl hbs6.out hm5l.out hB6 ?_))
    intro v7 W7 hg7
    obtain ⟨hown7, hci7, hko7, hO7, hbl7⟩ := HI6.out.app hB6 hB (Nat.le_refl _) hg7
    obtain ⟨D7, HD7⟩ : ∃ D7, Hid (D7 = D5 ++ pt) := ⟨_, rfl⟩
    rw [← HD7.out] at hown7 hci7
    obtain ⟨p7, c7, rfl, -, -⟩ := own_bytes hown7
    obtain ⟨m7, HM7⟩ : ∃ m7, Hid (m7 = D7.length) := ⟨_, rfl⟩
    rw [← HM7.out] at hci7 hko7 hbl7 ⊢
    have gO : W7.cell? ⟨w.heap.size, 0, none⟩ = some (.slice p5 m5 c5) := by simp [World.cell?, hO7]
    have gOz : W7.frozen? ⟨w.heap.size, 0, none⟩ = false := by simp [World.frozen?, hO7]
    obtain ⟨W8, hW8⟩ : ∃ W8, W7.setCell ⟨w.heap.size, 0, none⟩ (.slice p7 m7 c7) = W8 := ⟨_, rfl⟩
    rw [hW8] at hci7 hko7 hbl7
    have HFIN : Hid (KeepsOthers W W8 ∧ Keep3 B (w.heap.size + 1 + 1) (w.heap.size + 1) W W8 ∧ (∃ v, ApI B w.heap.size (some ⟨b0, off, none⟩) len c w (.slice pv m0 cv) v (D0 ++ ptD l len ((pre ++ [x]).map (·.1))) W8) ∧ B ≤ W8.heap.size) := Lib.hid (by
      have hb8 := HK6.out.2.trans hbl7
      have k1 : W8.heap[w.heap.size + 1]? = W.heap[w.heap.size + 1]? := hci7.i1.trans HI.out.i1.symm
      have k2 : W8.heap[w.heap.size + 1 + 1]? = W.heap[w.heap.size + 1 + 1]? := hci7.i2.trans HI.out.i2.symm
      have k3 : KeepsOthers W W8 := HK6.out.1.trans hko7
      have k4 : ApI B w.heap.size (some ⟨b0, off, none⟩) len c w (.slice pv m0 cv) (.slice p7 m7 c7) (D0 ++ ptD l len ((pre ++ [x]).map (·.1))) W8 := by
        rw [← HEND.out, ← HD5.out, ← HD7.out]; exact hci7
      exact ⟨k3, ⟨hb8, k2, k1⟩, ⟨_, k4⟩, Nat.le_trans hBW hb8.size⟩)
    clear hown7 hci7 hko7 hO7 hbl7 hg7
    refine hK _ _ ?_
    gi_wp2
    try rw [hW8]
    exact HFIN.out
  case done =>
    rintro Dd xs W hD hxs ⟨⟨v, hI⟩, hBW⟩ hK
    have eD : D0 ++ ptD l len (xs.map (·.1)) = D0 ++ spL l := by
      rw [hxs, HK.out, hlen.out, ptD_all]
    rw [eD] at hI
    have cO : W.cell? ⟨w.heap.size, 0, none⟩ = some v := by simp [World.cell?, hI.out]
    have hD5 := hI.keep (grownBy_putObj' W Dd (.deferred none)) (fun r e => by cases e; exact ⟨by omega, _, hK, rfl⟩) hB hBW
    have hfin : Grew B w (.slice pv m0 cv) (D0 ++ spL l) (W.putObj Dd (.deferred none)) v := ⟨hD5.own, hD5.old, hD5.lies⟩
    clear hI hD5
    gi_wp2
    refine ⟨by simp, .inl ⟨_, _, rfl, run_takeDeferred hK, ?_⟩⟩
    refine ⟨_, ?_, v, rfl, hfin⟩
    simp [results, Tryz.f50, go_sem]
  case stop =>
    rintro D c pre W hD _ h
    exact h.elim
end Go.Proofs.YtpbcdmefngbjjaaGreatDoor
namespace Go.Proofs.YtpbcdmefngbjjaaGreatDoor
theorem und_spL : ∀ (k : Nat) (l : List UInt8), l.length ≤ k → ∀ out b, und out (spL l ++ b) = und (out ++ l) b
  | 0, l, h, out, b => by
    obtain rfl := List.eq_nil_of_length_eq_zero (Nat.le_zero.1 h)
    rw [spL_nil, List.nil_append, List.append_nil]
  | k + 1, l, h, out, b => by
    by_cases h0 : 0 < l.length
    · obtain ⟨m, hm⟩ : ∃ m, m = min l.length 128 := ⟨_, rfl⟩
      have hc : (UInt8.ofNat (m - 1)).toNat = m - 1 := by rw [UInt8.toNat_ofNat']; omega
      have htl : (l.take m).length = m := by rw [List.length_take]; omega
      have h1 := und_spL k (l.drop m) (by rw [List.length_drop]; omega) (out ++ l.take m) b
      rw [spL_step h0, ← hm, List.cons_append, List.append_assoc, und_plain (by rw [hc]; omega) (by rw [hc, List.length_append, htl]; omega), hc, show m - 1 + 1 = m by omega]
      have e1 : (l.take m ++ (spL (l.drop m) ++ b)).take m = l.take m := by
        have := List.take_left (l₁ := l.take m) (l₂ := spL (l.drop m) ++ b); rwa [htl] at this
      have e2 : (l.take m ++ (spL (l.drop m) ++ b)).drop m = spL (l.drop m) ++ b := by
        have := List.drop_left (l₁ := l.take m) (l₂ := spL (l.drop m) ++ b); rwa [htl] at this
      rw [e1, e2, h1, List.append_assoc, List.take_append_drop]
    · obtain rfl := List.eq_nil_of_length_eq_zero (by omega : l.length = 0)
      rw [spL_nil, List.nil_append, List.append_nil]
theorem cp_agree {l : List UInt8} {a d n : Nat} (hd : 1 ≤ d) (hda : d ≤ a) (h : ∀ j, j < n → Agree l a d j) : ∀ m i, i + m ≤ n → a + i ≤ l.length → cp m d (l.take (a + i)) = l.take (a + i + m)
  | 0, _, _, _ => rfl
  | m + 1, i, hi, hl => by
    obtain ⟨h1, h2⟩ := h i (by omega)
    have hlen : (l.take (a + i)).length = a + i := by rw [List.length_take]; omega
    have e : (l.take (a + i)).getD (a + i - d) 0 = l.getD (a + i) 0 := by
      rw [h2, List.getD_eq_getElem?_getD, List.getElem?_take_of_lt (by omega), ← List.getD_eq_getElem?_getD]
    rw [cp, hlen, e, ← take_snoc 0 h1, show a + i + 1 = a + (i + 1) by omega, cp_agree hd hda h m (i + 1) (by omega) (by omega)]
    congr 1; omega
theorem best_is (l : List UInt8) (a : Nat) : ∀ D, 0 < (best l a D).1 → 1 ≤ (best l a D).2 ∧ (best l a D).2 ≤ D ∧ rn l a (best l a D).2 = (best l a D).1
  | 0, h => by cases h
  | D + 1, h => by
    rw [best] at h ⊢
    by_cases hc : (best l a D).1 < rn l a (D + 1)
    · rw [if_pos hc]; exact ⟨Nat.le_add_left _ _, Nat.le_refl _, rfl⟩
    · rw [if_neg hc] at h ⊢
      obtain ⟨h1, h2, h3⟩ := best_is l a D h
      exact ⟨h1, Nat.le_succ_of_le h2, h3⟩
theorem nb_dist {d : Nat} (h : d < 65536) (r : List UInt8) : nb ((UInt8.ofNat (d / 256) :: UInt8.ofNat (d % 256) :: r).take 2) = d := by
  show (0 * 256 + (UInt8.ofNat (d / 256)).toNat) * 256 + (UInt8.ofNat (d % 256)).toNat = d
  rw [UInt8.toNat_ofNat', UInt8.toNat_ofNat']; omega
theorem und_tok {l : List UInt8} {a n d : Nat} (hn : 4 ≤ n) (hn2 : n ≤ 131) (hd : 1 ≤ d) (hda : d ≤ a) (ha : a < 65536) (hal : a + n ≤ l.length) (h : ∀ j, j < n → Agree l a d j) (b : List UInt8) : und (l.take a) (tok n d ++ b) = und (l.take (a + n)) b := by
  have hc : (UInt8.ofNat (124 + n)).toNat = 124 + n := by rw [UInt8.toNat_ofNat']; omega
  have hnb := nb_dist (d := d) (by omega) b
  have ht : (l.take a).length = a := by rw [List.length_take]; omega
  show und _ (UInt8.ofNat (124 + n) :: (UInt8.ofNat (d / 256) :: UInt8.ofNat (d % 256) :: b)) = _
  rw [und_copy (by rw [hc]; omega) (by simp) (by rw [hnb, ht]; omega), hnb, hc, show 124 + n - 124 = n by omega]
  have := cp_agree hd hda h n 0 (by omega) (by omega)
  rw [Nat.add_zero] at this
  rw [this]; rfl
theorem und_dcF {l : List UInt8} (hl : l.length ≤ 1000) : ∀ f fr a, fr ≤ a → a ≤ l.length → l.length - a ≤ f → und (l.take fr) (dcF l f fr a) = some l
  | f, fr, a, hfa, hal, hf => by
    have hend : und (l.take fr) (spL (l.drop fr)) = some l := by
      have := und_spL _ (l.drop fr) (Nat.le_refl _) (l.take fr) []
      rw [List.append_nil, List.take_append_drop, und_nil] at this; exact this
    cases f with
    | zero => exact hend
    | succ f =>
      by_cases hlt : a < l.length
      · rw [dcF, if_pos hlt]
        by_cases h4 : (best l a a).1 < 4
        · rw [if_pos h4]; exact und_dcF hl f fr (a + 1) (by omega) (by omega) (by omega)
        · rw [if_neg h4]
          obtain ⟨b1, b2, b3⟩ := best_is l a a (by omega)
          have hfit := best_fits l a (by omega) a
          have hrun := rn_run l a (best l a a).2
          rw [b3] at hrun
          have eseg : l.take fr ++ (l.drop fr).take (a - fr) = l.take a := by
            rw [List.take_drop, show fr + (a - fr) = a by omega, show l.take fr = (l.take a).take fr by rw [List.take_take, Nat.min_eq_left hfa], List.take_append_drop]
          rw [und_spL _ _ (Nat.le_refl _), eseg, und_tok (by omega) hrun.le b1 b2 (by omega) hfit hrun.same]
          exact und_dcF hl f _ _ (Nat.le_refl _) hfit (by omega)
      · rw [dcF_end hlt]; exact hend
theorem und_dic {l : List UInt8} (hl : l.length ≤ 1000) : und [] (dicL l) = some l := und_dcF hl l.length 0 0 (Nat.le_refl _) (Nat.zero_le _) (Nat.le_refl _)
theorem spL_size : ∀ (k : Nat) (l : List UInt8), l.length ≤ k → (spL l).length = l.length + (l.length + 127) / 128
  | 0, l, h => by
    obtain rfl := List.eq_nil_of_length_eq_zero (Nat.le_zero.1 h)
    rfl
  | k + 1, l, h => by
    by_cases h0 : 0 < l.length
    · have h1 := spL_size k (l.drop (min l.length 128)) (by rw [List.length_drop]; omega)
      rw [List.length_drop] at h1
      rw [spL_step h0, List.length_cons, List.length_append, List.length_take, h1]; omega
    · obtain rfl := List.eq_nil_of_length_eq_zero (by omega : l.length = 0)
      rfl
theorem dcF_size (l : List UInt8) : ∀ f fr a, fr ≤ a → a ≤ l.length → (dcF l f fr a).length ≤ (l.length - fr) + (l.length - fr + 127) / 128
  | f, fr, a, hfa, hal => by
    have hend : (spL (l.drop fr)).length ≤ (l.length - fr) + (l.length - fr + 127) / 128 := by
      rw [spL_size _ _ (Nat.le_refl _), List.length_drop]; exact Nat.le_refl _
    cases f with
    | zero => exact hend
    | succ f =>
      by_cases hlt : a < l.length
      · rw [dcF, if_pos hlt]
        by_cases h4 : (best l a a).1 < 4
        · rw [if_pos h4]; exact dcF_size l f fr (a + 1) (by omega) (by omega)
        · rw [if_neg h4]
          have hfit := best_fits l a (by omega) a
          have ih := dcF_size l f (a + (best l a a).1) (a + (best l a a).1) (Nat.le_refl _) hfit
          rw [List.length_append, List.length_append, spL_size _ _ (Nat.le_refl _), List.length_take, List.length_drop, Nat.min_eq_left (by omega)]
          show _ + (3 + _) ≤ _
          omega
      · rw [dcF_end hlt]; exact hend
theorem dic_size (l : List UInt8) : (dicL l).length ≤ l.length + (l.length + 127) / 128 := dcF_size l l.length 0 0 (Nat.le_refl _) (Nat.zero_le _)
end Go.Proofs.YtpbcdmefngbjjaaGreatDoor
namespace Go.Proofs.YtpbcdmefngbjjaaGreatDoor
theorem best_flat {l : List UInt8} {a d : Nat} : ∀ D, d ≤ D → (∀ x, d < x → x ≤ D → rn l a x ≤ (best l a d).1) → best l a D = best l a d
  | 0, hd, _ => by rw [Nat.le_zero.1 hd]
  | D + 1, hd, h => by
    by_cases e : d = D + 1
    · rw [e]
    · have h1 := best_flat D (by omega) (fun x h1 h2 => h x h1 (by omega))
      have h2 := h (D + 1) (by omega) (Nat.le_refl _)
      rw [best, h1, if_neg (by omega)]
theorem best_low {l : List UInt8} {a m : Nat} : ∀ D, (∀ x, 0 < x → x ≤ D → rn l a x ≤ m) → (best l a D).1 ≤ m
  | 0, _ => Nat.zero_le _
  | D + 1, h => by
    rw [best]
    split
    · exact h _ (by omega) (Nat.le_refl _)
    · exact best_low D (fun x h1 h2 => h x h1 (by omega))
/-- Where the search stands: nothing found yet, or the best of the distances so far. -/
def Stand (l : List UInt8) (a n d : Nat) : Prop := (d = 0 ∧ n = 3) ∨ (best l a d = (n, d) ∧ 4 ≤ n ∧ 1 ≤ d ∧ d ≤ a)
/-- The nearest longer match beyond a distance. -/
structure NextAt (l : List UInt8) (a n d n2 d2 : Nat) : Prop where
  far : d < d2
  le : d2 ≤ a
  run : rn l a d2 = n2
  more : n < n2
  near : ∀ x, d < x → x < d2 → rn l a x ≤ n
def NoNext (l : List UInt8) (a n d : Nat) : Prop := ∀ x, d < x → x ≤ a → rn l a x ≤ n
theorem Stand.next {l : List UInt8} {a n d n2 d2 : Nat} (h : Stand l a n d) (k : NextAt l a n d n2 d2) : Stand l a n2 d2 := by
  obtain ⟨k1, k2, k3, k4, k5⟩ := k
  obtain ⟨e, rfl⟩ : ∃ e, d2 = e + 1 := ⟨d2 - 1, by omega⟩
  rcases h with ⟨rfl, rfl⟩ | ⟨h1, h2, h3, h4⟩
  · have hb : (best l a e).1 ≤ 3 := best_low e (fun x h1 h2 => k5 x h1 (by omega))
    exact .inr ⟨by rw [best, if_pos (by omega), k3], by omega, by omega, k2⟩
  · have hb : best l a e = (n, d) := by
      rw [best_flat (d := d) e (by omega) (fun x h5 h6 => by rw [h1]; exact k5 x h5 (by omega)), h1]
    exact .inr ⟨by rw [best, hb, if_pos (by show n < _; omega), k3], by omega, by omega, k2⟩
/-- What the search finds is the best match, if that has at least 4 bytes. -/
theorem Stand.done {l : List UInt8} {a n d : Nat} (h : Stand l a n d) (k : NoNext l a n d) : (d = 0 ∧ (best l a a).1 < 4) ∨ (1 ≤ d ∧ 4 ≤ n ∧ best l a a = (n, d)) := by
  rcases h with ⟨rfl, rfl⟩ | ⟨h1, h2, h3, h4⟩
  · have := best_low (l := l) (a := a) (m := 3) a (fun x h1 h2 => k x h1 h2)
    exact .inl ⟨rfl, by omega⟩
  · refine .inr ⟨h3, h2, ?_⟩
    rw [best_flat (d := d) a h4 (fun x h5 h6 => by rw [h1]; exact k x h5 h6), h1]
theorem noNext_full {l : List UInt8} {a n d : Nat} (ha : a ≤ l.length) (h : min 131 (l.length - a) ≤ n) : NoNext l a n d := fun x _ _ => by
  have h1 := rn_le l a x
  have h2 := rn_fits l a x ha
  omega
end Go.Proofs.YtpbcdmefngbjjaaGreatDoor
namespace Go.Proofs.YtpbcdmefngbjjaaGreatDoor
/-- The four bytes at a place. -/
def k4 (l : List UInt8) (i : Nat) : List UInt8 := [l.getD i 0, l.getD (i + 1) 0, l.getD (i + 2) 0, l.getD (i + 3) 0]
/-- The places below m whose four bytes are x. -/
def pls (l : List UInt8) (m : Nat) (x : List UInt8) : List Nat := (List.range m).filter (fun i => k4 l i == x)
theorem pls_succ (l : List UInt8) (m : Nat) (x : List UInt8) : pls l (m + 1) x = if k4 l m = x then pls l m x ++ [m] else pls l m x := by
  rw [pls, List.range_succ, List.filter_append]
  by_cases e : k4 l m = x
  · rw [if_pos e]; simp [pls, e]
  · rw [if_neg e]; simp [pls, e]
theorem pls_mem {l : List UInt8} {m : Nat} {x : List UInt8} {i : Nat} : i ∈ pls l m x ↔ i < m ∧ k4 l i = x := by
  simp [pls, List.mem_filter]
theorem pls_up (l : List UInt8) (m : Nat) (x : List UInt8) : (pls l m x).Pairwise (· < ·) := List.Pairwise.filter _ List.pairwise_lt_range
theorem pls_len (l : List UInt8) (m : Nat) (x : List UInt8) : (pls l m x).length ≤ m := by
  have := List.length_filter_le (fun i => k4 l i == x) (List.range m)
  rwa [List.length_range] at this
/-- A longer run has its last four bytes among the places. -/
theorem pls_hit {l : List UInt8} {a n x : Nat} (hn : 3 ≤ n) (hx : x ≤ a) (h : n < rn l a x) : a + (n - 3) - x ∈ pls l (l.length - 3) (k4 l (a + (n - 3))) := by
  have hr := (rn_run l a x).same
  have h0 := hr (n - 3) (by omega)
  have h1 := hr (n - 2) (by omega)
  have h2 := hr (n - 1) (by omega)
  have h3 := hr n h
  rw [pls_mem]
  refine ⟨by have := h3.1; omega, ?_⟩
  have e0 : a + (n - 3) - x = a + (n - 3) - x := rfl
  unfold k4
  have a1 : a + (n - 3) + 1 = a + (n - 2) := by omega
  have a2 : a + (n - 3) + 2 = a + (n - 1) := by omega
  have a3 : a + (n - 3) + 3 = a + n := by omega
  have b1 : a + (n - 3) - x + 1 = a + (n - 2) - x := by omega
  have b2 : a + (n - 3) - x + 2 = a + (n - 1) - x := by omega
  have b3 : a + (n - 3) - x + 3 = a + n - x := by omega
  rw [a1, a2, a3, b1, b2, b3, h0.2, h1.2, h2.2, h3.2]
/-- A row of places, and where the search comes in. -/
structure Srch (l : List UInt8) (a n d N i : Nat) (ps : Nat → Nat) : Prop where
  n3 : 3 ≤ n
  da : d ≤ a
  all : ∀ y, y ∈ pls l (l.length - 3) (k4 l (a + (n - 3))) → ∃ j, j < N ∧ ps j = y
  up : ∀ j k, j ≤ k → k < N → ps j ≤ ps k
  iN : i ≤ N
  lo : ∀ j, j < i → ps j < a + (n - 3) - d
  hi : ∀ j, i ≤ j → j < N → a + (n - 3) - d ≤ ps j
/-- The last r of the first i places give no longer run. -/
def Seen (l : List UInt8) (a n i : Nat) (ps : Nat → Nat) (r : Nat) : Prop := ∀ j, i ≤ j + r → j < i → rn l a (a + (n - 3) - ps j) ≤ n
theorem Seen.start (l : List UInt8) (a n i : Nat) (ps : Nat → Nat) : Seen l a n i ps 0 := fun j h1 h2 => by omega
variable {l : List UInt8} {a n d N i : Nat} {ps : Nat → Nat} {r : Nat}
theorem Seen.step (h : Seen l a n i ps r) (hr : r < i) (k : rn l a (a + (n - 3) - ps (i - 1 - r)) ≤ n) : Seen l a n i ps (r + 1) := fun j h1 h2 => by
  by_cases e : j = i - 1 - r
  · rw [e]; exact k
  · exact h j (by omega) h2
theorem Srch.place (s : Srch l a n d N i ps) {x : Nat} (h1 : d < x) (h2 : x ≤ a) (h3 : n < rn l a x) : ∃ j, j < i ∧ ps j = a + (n - 3) - x := by
  obtain ⟨j, hj, e⟩ := s.all _ (pls_hit s.n3 h2 h3)
  refine ⟨j, ?_, e⟩
  rcases Nat.lt_or_ge j i with h | h
  · exact h
  · have := s.hi j h hj; omega
theorem Seen.done (s : Srch l a n d N i ps) (h : Seen l a n i ps i) : NoNext l a n d := fun x h1 h2 => by
  rcases Nat.lt_or_ge n (rn l a x) with h3 | h3
  · obtain ⟨j, hj, e⟩ := s.place h1 h2 h3
    have := h j (by omega) hj
    rwa [e, show a + (n - 3) - (a + (n - 3) - x) = x by omega] at this
  · exact h3
theorem Seen.cut (s : Srch l a n d N i ps) (h : Seen l a n i ps r) (hr : r < i) (k : ps (i - 1 - r) < n - 3) : NoNext l a n d := fun x h1 h2 => by
  rcases Nat.lt_or_ge n (rn l a x) with h3 | h3
  · obtain ⟨j, hj, e⟩ := s.place h1 h2 h3
    have hjr : i ≤ j + r := by
      rcases Nat.lt_or_ge (j + r) i with h4 | h4
      · have := s.up j (i - 1 - r) (by omega) (by have := s.iN; omega); omega
      · exact h4
    have := h j hjr hj
    rwa [e, show a + (n - 3) - (a + (n - 3) - x) = x by omega] at this
  · exact h3
theorem Seen.found (s : Srch l a n d N i ps) (h : Seen l a n i ps r) (hr : r < i) (hk : n - 3 ≤ ps (i - 1 - r)) (k : n < rn l a (a + (n - 3) - ps (i - 1 - r))) : NextAt l a n d (rn l a (a + (n - 3) - ps (i - 1 - r))) (a + (n - 3) - ps (i - 1 - r)) := by
  have hlo := s.lo (i - 1 - r) (by omega)
  have hda := s.da
  refine ⟨by omega, by omega, rfl, k, fun x h1 h2 => ?_⟩
  rcases Nat.lt_or_ge n (rn l a x) with h3 | h3
  · obtain ⟨j, hj, e⟩ := s.place h1 (by omega) h3
    have hjr : i ≤ j + r := by
      rcases Nat.lt_or_ge (j + r) i with h4 | h4
      · have := s.up j (i - 1 - r) (by omega) (by have := s.iN; omega); omega
      · exact h4
    have := h j hjr hj
    rwa [e, show a + (n - 3) - (a + (n - 3) - x) = x by omega] at this
  · exact h3
end Go.Proofs.YtpbcdmefngbjjaaGreatDoor
