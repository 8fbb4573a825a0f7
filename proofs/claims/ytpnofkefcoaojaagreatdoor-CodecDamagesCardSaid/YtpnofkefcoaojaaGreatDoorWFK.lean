/- What the document's Dict makes is undone, and how long it is. -/
import Derived.Test.YtpnofkefcoaojaaGreatDoorKC
import Derived.Test.YtpnofkefcoaojaaGreatDoorWFF
import Derived.Test.YtpnofkefcoaojaaGreatDoorWDA
import Derived.Test.YtpnofkefcoaojaaGreatDoorWFG
import Derived.Laws.CopyOwn
namespace Go.Proofs.YtpnofkefcoaojaaGreatDoor
theorem spL_size : ∀ (k : Nat) (l : List UInt8), l.length ≤ k → (spL l).length = l.length + (l.length + 127) / 128
  | 0, l, h => by
    obtain rfl := List.eq_nil_of_length_eq_zero (Nat.le_zero.1 h)
    rfl
  | k + 1, l, h => by
    by_cases h0 : 0 < l.length
    · have h1 := spL_size k (l.drop (min l.length 128)) (by rw [List.length_drop]; omega)
      rw [List.length_drop] at h1
      rw [spL_step h0, List.length_cons, List.length_append, List.length_take, h1]; omega
    · obtain rfl := List.eq_nil_of_length_eq_zero (by omega : l.length = 0)
      rfl
theorem dcF_size (l : List UInt8) : ∀ f fr a, fr ≤ a → a ≤ l.length → (dcF l f fr a).length ≤ (l.length - fr) + (l.length - fr + 127) / 128
  | f, fr, a, hfa, hal => by
    have hend : (spL (l.drop fr)).length ≤ (l.length - fr) + (l.length - fr + 127) / 128 := by
      rw [spL_size _ _ (Nat.le_refl _), List.length_drop]; exact Nat.le_refl _
    cases f with
    | zero => exact hend
    | succ f =>
      by_cases hlt : a < l.length
      · rw [dcF, if_pos hlt]
        by_cases h4 : (best l a a).1 < 4
        · rw [if_pos h4]; exact dcF_size l f fr (a + 1) (by omega) (by omega)
        · rw [if_neg h4]
          have hfit := best_fits l a (by omega) a
          have ih := dcF_size l f (a + (best l a a).1) (a + (best l a a).1) (Nat.le_refl _) hfit
          rw [List.length_append, List.length_append, spL_size _ _ (Nat.le_refl _), List.length_take, List.length_drop, Nat.min_eq_left (by omega)]
          show _ + (3 + _) ≤ _
          omega
      · rw [dcF_end hlt]; exact hend
theorem dic_size (l : List UInt8) : (dicL l).length ≤ l.length + (l.length + 127) / 128 := dcF_size l l.length 0 0 (Nat.le_refl _) (Nat.zero_le _)
end Go.Proofs.YtpnofkefcoaojaaGreatDoor
namespace Go.Proofs.YtpnofkefcoaojaaGreatDoor
theorem best_flat {l : List UInt8} {a d : Nat} : ∀ D, d ≤ D → (∀ x, d < x → x ≤ D → rn l a x ≤ (best l a d).1) → best l a D = best l a d
  | 0, hd, _ => by rw [Nat.le_zero.1 hd]
  | D + 1, hd, h => by
    by_cases e : d = D + 1
    · rw [e]
    · have h1 := best_flat D (by omega) (fun x h1 h2 => h x h1 (by omega))
      have h2 := h (D + 1) (by omega) (Nat.le_refl _)
      rw [best, h1, if_neg (by omega)]
theorem best_low {l : List UInt8} {a m : Nat} : ∀ D, (∀ x, 0 < x → x ≤ D → rn l a x ≤ m) → (best l a D).1 ≤ m
  | 0, _ => Nat.zero_le _
  | D + 1, h => by
    rw [best]
    split
    · exact h _ (by omega) (Nat.le_refl _)
    · exact best_low D (fun x h1 h2 => h x h1 (by omega))
def Stand (l : List UInt8) (a n d : Nat) : Prop := (d = 0 ∧ n = 3) ∨ (best l a d = (n, d) ∧ 4 ≤ n ∧ 1 ≤ d ∧ d ≤ a)
structure NextAt (l : List UInt8) (a n d n2 d2 : Nat) : Prop where
  far : d < d2
  le : d2 ≤ a
  run : rn l a d2 = n2
  more : n < n2
  near : ∀ x, d < x → x < d2 → rn l a x ≤ n
def NoNext (l : List UInt8) (a n d : Nat) : Prop := ∀ x, d < x → x ≤ a → rn l a x ≤ n
theorem Stand.next {l : List UInt8} {a n d n2 d2 : Nat} (h : Stand l a n d) (k : NextAt l a n d n2 d2) : Stand l a n2 d2 := by
  obtain ⟨k1, k2, k3, k4, k5⟩ := k
  obtain ⟨e, rfl⟩ : ∃ e, d2 = e + 1 := ⟨d2 - 1, by omega⟩
  rcases h with ⟨rfl, rfl⟩ | ⟨h1, h2, h3, h4⟩
  · have hb : (best l a e).1 ≤ 3 := best_low e (fun x h1 h2 => k5 x h1 (by omega))
    exact .inr ⟨by rw [best, if_pos (by omega), k3], by omega, by omega, k2⟩
  · have hb : best l a e = (n, d) := by
      rw [best_flat (d := d) e (by omega) (fun x h5 h6 => by rw [h1]; exact k5 x h5 (by omega)), h1]
    exact .inr ⟨by rw [best, hb, if_pos (by show n < _; omega), k3], by omega, by omega, k2⟩
theorem Stand.done {l : List UInt8} {a n d : Nat} (h : Stand l a n d) (k : NoNext l a n d) : (d = 0 ∧ (best l a a).1 < 4) ∨ (1 ≤ d ∧ 4 ≤ n ∧ best l a a = (n, d)) := by
  rcases h with ⟨rfl, rfl⟩ | ⟨h1, h2, h3, h4⟩
  · have := best_low (l := l) (a := a) (m := 3) a (fun x h1 h2 => k x h1 h2)
    exact .inl ⟨rfl, by omega⟩
  · refine .inr ⟨h3, h2, ?_⟩
    rw [best_flat (d := d) a h4 (fun x h5 h6 => by rw [h1]; exact k x h5 h6), h1]
theorem noNext_full {l : List UInt8} {a n d : Nat} (ha : a ≤ l.length) (h : min 131 (l.length - a) ≤ n) : NoNext l a n d := fun x _ _ => by
  have h1 := rn_le l a x
  have h2 := rn_fits l a x ha
  omega
end Go.Proofs.YtpnofkefcoaojaaGreatDoor
set_option maxHeartbeats 4000000
set_option maxRecDepth 100000
namespace Go.Proofs.YtpnofkefcoaojaaGreatDoor
open Go.RowKit
open Go.Lib
theorem runs_any (b0 off len c a d most : Nat) (mo : Option Nat) (l : List UInt8) (w : World) (hl : len ≤ 20000) (h1 : 1 ≤ d) (h2 : d ≤ a) (h3 : a < len) (hm : Hid (most = min 131 (len - a))) (h : Came w (some ⟨b0, off, none⟩) len c l) :
    Calls Tryz.prog 225 #[.agg #[.slice (some ⟨b0, off, none⟩) len c, .map mo], .int .i64 ((a - d : Nat) : Int), .int .i64 (a : Int), .int .i64 (most : Int)] w fun e w' => Below w.heap.size w w' ∧ e = .returned (.int .i64 (rn l a d : Int)) := by
  have H := Lib.hid h
  obtain ⟨fr, HFR⟩ : ∃ fr, Hid (fr = a - d) := ⟨_, rfl⟩
  rw [← HFR.out]
  have il : (len : Int) ≤ 20000 := by omega
  have ia : (a : Int) < (len : Int) := by omega
  have ifr : (fr : Int) ≤ 20000 := by rw [HFR.out]; omega
  have im : (most : Int) ≤ 131 := by rw [hm.out]; omega
  have HBX : Hid (Below w.heap.size w (w.alloc (.cells #[.slice (some ⟨b0, off, none⟩) len c, .map mo] 152))) := Lib.hid ((Below.refl _ w).alloc (Nat.le_refl _) _)
  have hbox : (w.alloc (.cells #[.slice (some ⟨b0, off, none⟩) len c, .map mo] 152)).heap[w.heap.size]? = some (.cells #[.slice (some ⟨b0, off, none⟩) len c, .map mo] 152 (0, 0)) := World.alloc_heap_new w _
  have HBOX := Lib.hid hbox
  have hone : Hid (∀ n, n ≤ most → (∀ j, j < n → Agree l a d j) → (n = most ∨ ¬ Agree l a d n) → rn l a d = n) := Lib.hid (fun n hn hs he => by
    refine (rn_run l a d).one ⟨by have := hm.out; omega, hs, ?_⟩
    rcases he with rfl | he
    · have hmo := hm.out
      by_cases e : n = 131
      · exact .inl e
      · exact .inr (fun hg => by have := hg.1; rw [H.out.hl] at this; omega)
    · exact .inr he)
  clear h hbox
  go_enter Tryz.func225, Tryz.ntmps225
  go_wp2_with fail
  obtain ⟨W0, hW0⟩ : ∃ W0, w.alloc (.cells #[.slice (some ⟨b0, off, none⟩) len c, .map mo] 152) = W0 := ⟨_, rfl⟩
  rw [hW0] at HBX HBOX
  try rw [hW0]
  have hs1 : w.heap.size < W0.heap.size := by rw [← hW0]; simp
  go_loopw [9] (fun nv wr => ∃ n : Nat, n ≤ most ∧ nv = .int .i64 n ∧ Hid (∀ j, j < n → Agree l a d j) ∧ Hid (Below W0.heap.size W0 wr)) (fun nv _ => most - (Go.RowKit.intOf nv).toNat)
  case atStart => exact ⟨0, Nat.zero_le _, rfl, Lib.hid (fun j hj => by omega), Lib.hid (Below.refl _ _)⟩
  case round =>
    obtain ⟨n, hn, rfl, HA, HB⟩ := hrel
    have hni : (n : Int) ≤ (most : Int) := by omega
    have HBw := Lib.hid (HBX.out.trans (HB.out.mono (Nat.le_of_lt hs1)))
    have cb : wr.cell? ⟨w.heap.size, 0, none⟩ = some (.slice (some ⟨b0, off, none⟩) len c) := by
      have h := (HB.out.block w.heap.size hs1).trans HBOX.out
      simp [World.cell?, h]
    by_cases hn1 : n < most
    · have g9 : decide (n < most) = true := decide_eq_true hn1
      have g9' : (n : Int) < (most : Int) := by omega
      obtain ⟨an, HAN⟩ : ∃ an, Hid (an = a + n) := ⟨_, rfl⟩
      have han : (a : Int) + (n : Int) = (an : Int) := by rw [HAN.out]; omega
      have hlt : an < len := by have := hm.out; rw [HAN.out]; omega
      have hani : (an : Int) < (len : Int) := by omega
      obtain ⟨bk, HBK⟩ : ∃ bk, Hid (bk = an - d) := ⟨_, rfl⟩
      have hbk : (fr : Int) + (n : Int) = (bk : Int) := by rw [HBK.out, HAN.out, HFR.out]; omega
      have hbkl : (bk : Int) < (len : Int) := by rw [HBK.out]; omega
      obtain ⟨b1, o1, x, e1, -, hc1, hx, hxi⟩ := (H.out.lies.below HBw.out).at (k := an) (by rw [H.out.hl]; exact hlt)
      cases e1
      obtain ⟨b1, o1, y, e1, -, hc2, hy, hyi⟩ := (H.out.lies.below HBw.out).at (k := bk) (by rw [H.out.hl, HBK.out]; omega)
      cases e1
      have hx' := hx.out
      have hy' := hy.out
      rw [HAN.out] at hx'
      rw [HBK.out, HAN.out] at hy'
      have HX := Lib.hid hx'
      have HY := Lib.hid hy'
      clear hx' hy'
      by_cases hxy : y = x
      · have hag : Hid (Agree l a d n) := Lib.hid ⟨by rw [H.out.hl, ← HAN.out]; exact hlt, UInt8.toNat_inj.1 (by rw [HX.out, HY.out, hxy])⟩
        subst hxy
        have HA2 : Hid (∀ j, j < n + 1 → Agree l a d j) := Lib.hid (fun j hj => by
          by_cases e : j = n
          · rw [e]; exact hag.out
          · exact HA.out j (by omega))
        go_wp2_with fail
        go_quiet (fail)
        go_wp2_with fail
        go_roundw
        case rel => exact ⟨n + 1, by omega, by go_num, HA2, Lib.hid (below_dn HB.out _)⟩
        case measure => simp [Go.RowKit.intOf]; omega
      · have hag : Hid (¬ Agree l a d n) := Lib.hid (fun h => hxy (by rw [← HX.out, ← HY.out, h.2]))
        have hxi2 : ((y : Int) == (x : Int)) = false := by rw [beq_eq_false_iff_ne]; omega
        have hxi3 : ¬ (y : Int) = (x : Int) := by omega
        have er := hone.out n hn HA.out (.inr hag.out)
        have hfin : Hid (∀ nq, Below w.heap.size w (wr.drewN nq) ∧ Ending.returned (.int .i64 (n : Int)) = .returned (.int .i64 (rn l a d : Int))) := Lib.hid (fun nq => ⟨below_dn HBw.out _, by rw [er]⟩)
        clear er
        go_wp2_with fail
        go_quiet (fail)
        go_wp2_with fail
        go_ret
        exact hfin.out _
    · obtain rfl : n = most := by omega
      have g9 : decide (n < n) = false := decide_eq_false (by omega)
      have er := hone.out n hn HA.out (.inl rfl)
      have hfin : Hid (∀ nq, Below w.heap.size w (wr.drewN nq) ∧ Ending.returned (.int .i64 (n : Int)) = .returned (.int .i64 (rn l a d : Int))) := Lib.hid (fun nq => ⟨below_dn HBw.out _, by rw [er]⟩)
      clear er
      go_wp2_with fail
      go_quiet (fail)
      go_wp2_with fail
      go_ret
      exact hfin.out _
end Go.Proofs.YtpnofkefcoaojaaGreatDoor
set_option maxHeartbeats 4000000
set_option maxRecDepth 100000
namespace Go.Proofs.YtpnofkefcoaojaaGreatDoor
open Go.RowKit
open Go.Lib
def keyV (l : List UInt8) (a : Nat) : Value := .agg #[.int .u8 ((l.getD a 0).toNat : Int), .int .u8 ((l.getD (a + 1) 0).toNat : Int), .int .u8 ((l.getD (a + 2) 0).toNat : Int), .int .u8 ((l.getD (a + 3) 0).toNat : Int)]
theorem key_any (b0 off len c a : Nat) (mo : Option Nat) (l : List UInt8) (w : World) (hl : len ≤ 20000) (h3 : a + 4 ≤ len) (h : Came w (some ⟨b0, off, none⟩) len c l) :
    Calls Tryz.prog 191 #[.agg #[.slice (some ⟨b0, off, none⟩) len c, .map mo], .int .i64 (a : Int)] w fun e w' => Below w.heap.size w w' ∧ e = .returned (keyV l a) := by
  have H := Lib.hid h
  have hc := h.hc
  have il : (len : Int) ≤ 20000 := by omega
  have ia : (a : Int) + 4 ≤ (len : Int) := by omega
  have ic : (len : Int) ≤ (c : Int) := by omega
  have ha1 : (a : Int) ≤ (len : Int) := by omega
  have ha2 : (a : Int) ≤ (c : Int) := by omega
  obtain ⟨W3, HW3⟩ : ∃ W3, Hid (W3 = ((w.alloc (.cells #[.slice (some ⟨b0, off, none⟩) len c, .map mo] 152)).alloc (.cells #[.int .u8 0, .int .u8 0, .int .u8 0, .int .u8 0] 79)).alloc (.cells #[.int .u8 0, .int .u8 0, .int .u8 0, .int .u8 0] 79)) := ⟨_, rfl⟩
  have HB3 : Hid (Below w.heap.size w W3) := Lib.hid (by
    rw [HW3.out]
    exact (((Below.refl _ w).alloc (Nat.le_refl _) _).alloc (by simp only [World.alloc, Array.size_push]; omega) _).alloc (by simp only [World.alloc, Array.size_push]; omega) _)
  have HK : Hid (W3.heap[w.heap.size + 1 + 1]? = some (.cells ([.int .u8 0, .int .u8 0, .int .u8 0, .int .u8 0] : List Value).toArray 79 (0, 0)) ∧ W3.heap[w.heap.size + 1]? = some (.cells #[.int .u8 0, .int .u8 0, .int .u8 0, .int .u8 0] 79 (0, 0)) ∧ W3.heap[w.heap.size]? = some (.cells #[.slice (some ⟨b0, off, none⟩) len c, .map mo] 152 (0, 0))) := Lib.hid (by
    rw [HW3.out]
    refine ⟨?_, ?_, ?_⟩ <;> simp only [World.alloc, Array.getElem?_push, Array.size_push]
    · rw [if_pos trivial]
    · rw [if_neg (by omega), if_pos trivial]
    · rw [if_neg (by omega), if_neg (by omega), if_pos trivial])
  have hca : ¬ c = a := by omega
  have hb0 : Hid (∀ k, k < len → ∃ x : Nat, w.cell? ⟨b0, off + k, none⟩ = some (.int .u8 (x : Int)) ∧ (l.getD k 0).toNat = x ∧ b0 < w.heap.size) := Lib.hid (fun k hk => by
    obtain ⟨b1, o1, x, e1, h0, h1, h2, h3⟩ := H.out.lies.at (k := k) (by rw [H.out.hl]; exact hk)
    cases e1
    exact ⟨x, h1, h2.out, h0⟩)
  clear h
  go_enter Tryz.func191, Tryz.ntmps191
  go_wp2_with fail
  try rw [← HW3.out]
  have hbox : W3.cell? ⟨w.heap.size, 0, none⟩ = some (.slice (some ⟨b0, off, none⟩) len c) := by simp [World.cell?, HK.out.2.2]
  have HKd : Hid (W3.drew.heap[w.heap.size + 1 + 1]? = some (.cells ([.int .u8 0, .int .u8 0, .int .u8 0, .int .u8 0] : List Value).toArray 79 (0, 0))) := Lib.hid HK.out.1
  have HBd : Hid (Below w.heap.size W3 W3.drew) := Lib.hid ⟨rfl, rfl, rfl, Nat.le_refl _, fun _ _ => rfl⟩
  obtain ⟨x0, x1, x2, x3, HX⟩ : ∃ x0 x1 x2 x3 : Nat, Hid (x0 = (l.getD a 0).toNat ∧ x1 = (l.getD (a + 1) 0).toNat ∧ x2 = (l.getD (a + 2) 0).toNat ∧ x3 = (l.getD (a + 3) 0).toNat) := ⟨_, _, _, _, Lib.hid ⟨rfl, rfl, rfl, rfl⟩⟩
  have HS : Hid (∀ j v, ([.int .u8 (x0 : Int), .int .u8 (x1 : Int), .int .u8 (x2 : Int), .int .u8 (x3 : Int)] : List Value)[j]? = some v → W3.drew.cell? ((⟨b0, off + a, none⟩ : Addr).add j) = some v) := Lib.hid (fun j v hj => by
    have hw : ∀ k x, k < len → (l.getD k 0).toNat = x → W3.drew.cell? ⟨b0, off + k, none⟩ = some (.int .u8 (x : Int)) := fun k x hk hx => by
      obtain ⟨y, h1, h2, h4⟩ := hb0.out k hk
      rw [show x = y by rw [← hx, h2]]
      exact ((HB3.out.trans HBd.out).cell (p := ⟨b0, off + k, none⟩) h4).trans h1
    obtain ⟨e0, e1, e2, e3⟩ := HX.out
    match j, hj with
    | 0, hj => cases hj; exact hw a x0 (by omega) e0.symm
    | 1, hj => cases hj; exact hw (a + 1) x1 (by omega) e1.symm
    | 2, hj => cases hj; exact hw (a + 2) x2 (by omega) e2.symm
    | 3, hj => cases hj; exact hw (a + 3) x3 (by omega) e3.symm
    | j + 4, hj => simp at hj)
  have HL4 : Hid ((4 : Nat) = Nat.min (len - a) 4) := Lib.hid (Nat.min_eq_right (by omega)).symm
  have hv : keyV l a = .agg #[.int .u8 (x0 : Int), .int .u8 (x1 : Int), .int .u8 (x2 : Int), .int .u8 (x3 : Int)] := by
    obtain ⟨rfl, rfl, rfl, rfl⟩ := HX.out
    rfl
  have HV := Lib.hid hv
  clear hv
  go_region_law (refine step_copy_splice rfl (.tmp 6) (.tmp 10) 39 39 rfl 5 rfl rfl _ _ _ _ _ _ rfl rfl (w.heap.size + 1 + 1) 0 _ 79 HKd.out [.int .u8 (x0 : Int), .int .u8 (x1 : Int), .int .u8 (x2 : Int), .int .u8 (x3 : Int)] HL4.out (fun _ => ⟨rfl, _, rfl, HS.out⟩) (Nat.le_refl _) (by simp [Value.oneCell']) (w.heap.size + 1 + 1) W3.drew (Below.refl _ _) (Nat.le_refl _) ?_; intro w4 hg4 hb4)
  have HK4 : Hid (w4.heap[w.heap.size + 1 + 1]? = some (.cells #[.int .u8 (x0 : Int), .int .u8 (x1 : Int), .int .u8 (x2 : Int), .int .u8 (x3 : Int)] 79 (0, 0))) := Lib.hid hg4.out
  have HK41 : Hid (w4.heap[w.heap.size + 1]? = some (.cells #[.int .u8 0, .int .u8 0, .int .u8 0, .int .u8 0] 79 (0, 0))) := Lib.hid ((hb4.block (w.heap.size + 1) (by omega)).trans HK.out.2.1)
  have HB4 : Hid (Below w.heap.size w w4) := Lib.hid ((HB3.out.trans HBd.out).trans (hb4.mono (by omega)))
  clear hg4 hb4 hbox
  have f0 : w4.cell? ⟨w.heap.size + 1 + 1, 0, none⟩ = some (.int .u8 (x0 : Int)) := by simp only [World.cell?, HK4.out]; rfl
  have f1 : w4.cell? ⟨w.heap.size + 1 + 1, 1, none⟩ = some (.int .u8 (x1 : Int)) := by simp only [World.cell?, HK4.out]; rfl
  have f2 : w4.cell? ⟨w.heap.size + 1 + 1, 2, none⟩ = some (.int .u8 (x2 : Int)) := by simp only [World.cell?, HK4.out]; rfl
  have f3 : w4.cell? ⟨w.heap.size + 1 + 1, 3, none⟩ = some (.int .u8 (x3 : Int)) := by simp only [World.cell?, HK4.out]; rfl
  obtain ⟨g1, hg1⟩ : ∃ g1, w.heap.size + 1 = g1 := ⟨_, rfl⟩
  have e0 : w4.cell? ⟨w.heap.size + 1, 0, none⟩ = some (.int .u8 0) := by simp only [World.cell?, HK41.out]; rfl
  have e1 : w4.cell? ⟨w.heap.size + 1, 1, none⟩ = some (.int .u8 0) := by simp only [World.cell?, HK41.out]; rfl
  have e2 : w4.cell? ⟨w.heap.size + 1, 2, none⟩ = some (.int .u8 0) := by simp only [World.cell?, HK41.out]; rfl
  have e3 : w4.cell? ⟨w.heap.size + 1, 3, none⟩ = some (.int .u8 0) := by simp only [World.cell?, HK41.out]; rfl
  have z0 : w4.frozen? ⟨w.heap.size + 1, 0, none⟩ = false := by simp only [World.frozen?, HK41.out]; rfl
  have z1 : w4.frozen? ⟨w.heap.size + 1, 1, none⟩ = false := by simp only [World.frozen?, HK41.out]; rfl
  have z2 : w4.frozen? ⟨w.heap.size + 1, 2, none⟩ = false := by simp only [World.frozen?, HK41.out]; rfl
  have z3 : w4.frozen? ⟨w.heap.size + 1, 3, none⟩ = false := by simp only [World.frozen?, HK41.out]; rfl
  rw [hg1] at f0 f1 f2 f3 e0 e1 e2 e3 z0 z1 z2 z3
  have hg1' : w.heap.size ≤ g1 := by omega
  have HG : Hid (w4.heap[g1]? = some (.cells #[.int .u8 0, .int .u8 0, .int .u8 0, .int .u8 0] 79 (0, 0))) := by rw [← hg1]; exact HK41
  simp only [hg1]
  clear hg1
  go_wp2_with fail
  have HB8 := Lib.hid ((((HB4.out.setCell (p := ⟨g1, 0, none⟩) hg1' (.int .u8 (x0 : Int))).setCell (p := ⟨g1, 1, none⟩) hg1' (.int .u8 (x1 : Int))).setCell (p := ⟨g1, 2, none⟩) hg1' (.int .u8 (x2 : Int))).setCell (p := ⟨g1, 3, none⟩) hg1' (.int .u8 (x3 : Int)))
  have hrow : ∀ (W : World) (y0 y1 y2 y3 : Value), W.heap[g1]? = some (.cells #[y0, y1, y2, y3] 79 (0, 0)) → ((((W.setCell ⟨g1, 0, none⟩ (.int .u8 (x0 : Int))).setCell ⟨g1, 1, none⟩ (.int .u8 (x1 : Int))).setCell ⟨g1, 2, none⟩ (.int .u8 (x2 : Int))).setCell ⟨g1, 3, none⟩ (.int .u8 (x3 : Int))).heap[g1]? = some (.cells #[.int .u8 (x0 : Int), .int .u8 (x1 : Int), .int .u8 (x2 : Int), .int .u8 (x3 : Int)] 79 (0, 0)) := fun W y0 y1 y2 y3 h0 => by
    have h1 := setRow_heap W g1 _ (#[y0, y1, y2, y3].setIfInBounds 0 (.int .u8 (x0 : Int))) 79 (0, 0) h0
    rw [← setCell_eq_setRow W g1 0 _ 79 (0, 0) _ h0] at h1
    have h2 := setRow_heap _ g1 _ ((#[y0, y1, y2, y3].setIfInBounds 0 (.int .u8 (x0 : Int))).setIfInBounds 1 (.int .u8 (x1 : Int))) 79 (0, 0) h1
    rw [← setCell_eq_setRow _ g1 1 _ 79 (0, 0) _ h1] at h2
    have h3 := setRow_heap _ g1 _ (((#[y0, y1, y2, y3].setIfInBounds 0 (.int .u8 (x0 : Int))).setIfInBounds 1 (.int .u8 (x1 : Int))).setIfInBounds 2 (.int .u8 (x2 : Int))) 79 (0, 0) h2
    rw [← setCell_eq_setRow _ g1 2 _ 79 (0, 0) _ h2] at h3
    have h4 := setRow_heap _ g1 _ ((((#[y0, y1, y2, y3].setIfInBounds 0 (.int .u8 (x0 : Int))).setIfInBounds 1 (.int .u8 (x1 : Int))).setIfInBounds 2 (.int .u8 (x2 : Int))).setIfInBounds 3 (.int .u8 (x3 : Int))) 79 (0, 0) h3
    rw [← setCell_eq_setRow _ g1 3 _ 79 (0, 0) _ h3] at h4
    exact h4
  try simp only [Exit.inBlock, Exit.then]
  refine bodyPost_ret (results_cell_row rfl _ _ g1 79 #[.int .u8 (x0 : Int), .int .u8 (x1 : Int), .int .u8 (x2 : Int), .int .u8 (x3 : Int)] (0, 0) _ rfl (hrow _ _ _ _ _ HG.out) rfl rfl rfl) rfl ?_
  exact ⟨HB8.out, by rw [HV.out]⟩
end Go.Proofs.YtpnofkefcoaojaaGreatDoor
