/- The program's same: how long two places agree. -/
import Derived.Test.YtpbcdmefngbjjaaGreatDoorFG
import Derived.Laws.CopyOwn
import Derived.Maps.GroupsBeside
import Derived.WideKeyEntry
import Derived.WideKeyArr2
import Derived.WideKeyPair
import Derived.Test.YtpbcdmefngbjjaaGreatDoorCP
import Derived.Test.YtpbcdmefngbjjaaGreatDoorCJ
namespace Go.Proofs.YtpbcdmefngbjjaaGreatDoor
open Go.RowKit
open Go.Lib
set_option maxRecDepth 100000 in
set_option maxHeartbeats 4000000 in
theorem same_any (b0 off len c a d most : Nat) (mo : Option Nat) (l : List UInt8) (w : World) (hl : len ≤ 1000) (h1 : 1 ≤ d) (h2 : d ≤ a) (h3 : a < len) (hm : Hid (most = min 131 (len - a))) (h : Came w (some ⟨b0, off, none⟩) len c l) :
    Calls Tryz.prog 82 #[.agg #[.slice (some ⟨b0, off, none⟩) len c, .map mo], .int .i64 ((a - d : Nat) : Int), .int .i64 (a : Int), .int .i64 (most : Int)] w fun e w' => Below w.heap.size w w' ∧ e = .returned (.int .i64 (rn l a d : Int)) := by
  have H := Lib.hid h
  obtain ⟨fr, HFR⟩ : ∃ fr, Hid (fr = a - d) := ⟨_, rfl⟩
  rw [← HFR.out]
  have il : (len : Int) ≤ 1000 := by omega
  have ia : (a : Int) < (len : Int) := by omega
  have ifr : (fr : Int) ≤ 1000 := by rw [HFR.out]; omega
  have im : (most : Int) ≤ 131 := by rw [hm.out]; omega
  have HBX : Hid (Below w.heap.size w (w.alloc (.cells #[.slice (some ⟨b0, off, none⟩) len c, .map mo] 61))) := Lib.hid ((Below.refl _ w).alloc (Nat.le_refl _) _)
  have hbox : (w.alloc (.cells #[.slice (some ⟨b0, off, none⟩) len c, .map mo] 61)).heap[w.heap.size]? = some (.cells #[.slice (some ⟨b0, off, none⟩) len c, .map mo] 61 (0, 0)) := World.alloc_heap_new w _
  have HBOX := Lib.hid hbox
  have hone : Hid (∀ n, n ≤ most → (∀ j, j < n → Agree l a d j) → (n = most ∨ ¬ Agree l a d n) → rn l a d = n) := Lib.hid (fun n hn hs he => by
    refine (rn_run l a d).one ⟨by have := hm.out; omega, hs, ?_⟩
    rcases he with rfl | he
    · have hmo := hm.out
      by_cases e : n = 131
      · exact .inl e
      · exact .inr (fun hg => by have := hg.1; rw [H.out.hl] at this; omega)
    · exact .inr he)
  clear h hbox
  go_enter Tryz.func82, Tryz.ntmps82
  go_wp2_with fail
  obtain ⟨W0, hW0⟩ : ∃ W0, w.alloc (.cells #[.slice (some ⟨b0, off, none⟩) len c, .map mo] 61) = W0 := ⟨_, rfl⟩
  rw [hW0] at HBX HBOX
  try rw [hW0]
  have hs1 : w.heap.size < W0.heap.size := by rw [← hW0]; simp
  go_loopw [9] (fun nv wr => ∃ n : Nat, n ≤ most ∧ nv = .int .i64 n ∧ Hid (∀ j, j < n → Agree l a d j) ∧ Hid (Below W0.heap.size W0 wr)) (fun nv _ => most - (Go.RowKit.intOf nv).toNat)
  case atStart => exact ⟨0, Nat.zero_le _, rfl, Lib.hid (fun j hj => by omega), Lib.hid (Below.refl _ _)⟩
  case round =>
    obtain ⟨n, hn, rfl, HA, HB⟩ := hrel
    have hni : (n : Int) ≤ (most : Int) := by omega
    have HBw := Lib.hid (HBX.out.trans (HB.out.mono (Nat.le_of_lt hs1)))
    have cb : wr.cell? ⟨w.heap.size, 0, none⟩ = some (.slice (some ⟨b0, off, none⟩) len c) := by
      have h := (HB.out.block w.heap.size hs1).trans HBOX.out
      simp [World.cell?, h]
    by_cases hn1 : n < most
    · have g9 : decide (n < most) = true := decide_eq_true hn1
      have g9' : (n : Int) < (most : Int) := by omega
      obtain ⟨an, HAN⟩ : ∃ an, Hid (an = a + n) := ⟨_, rfl⟩
      have han : (a : Int) + (n : Int) = (an : Int) := by rw [HAN.out]; omega
      have hlt : an < len := by have := hm.out; rw [HAN.out]; omega
      have hani : (an : Int) < (len : Int) := by omega
      obtain ⟨bk, HBK⟩ : ∃ bk, Hid (bk = an - d) := ⟨_, rfl⟩
      have hbk : (fr : Int) + (n : Int) = (bk : Int) := by rw [HBK.out, HAN.out, HFR.out]; omega
      have hbkl : (bk : Int) < (len : Int) := by rw [HBK.out]; omega
      obtain ⟨b1, o1, x, e1, -, hc1, hx, hxi⟩ := (H.out.lies.below HBw.out).at (k := an) (by rw [H.out.hl]; exact hlt)
      cases e1
      obtain ⟨b1, o1, y, e1, -, hc2, hy, hyi⟩ := (H.out.lies.below HBw.out).at (k := bk) (by rw [H.out.hl, HBK.out]; omega)
      cases e1
      have hx' := hx.out
      have hy' := hy.out
      rw [HAN.out] at hx'
      rw [HBK.out, HAN.out] at hy'
      have HX := Lib.hid hx'
      have HY := Lib.hid hy'
      clear hx' hy'
      by_cases hxy : y = x
      · have hag : Hid (Agree l a d n) := Lib.hid ⟨by rw [H.out.hl, ← HAN.out]; exact hlt, UInt8.toNat_inj.1 (by rw [HX.out, HY.out, hxy])⟩
        subst hxy
        have HA2 : Hid (∀ j, j < n + 1 → Agree l a d j) := Lib.hid (fun j hj => by
          by_cases e : j = n
          · rw [e]; exact hag.out
          · exact HA.out j (by omega))
        go_wp2_with fail
        go_quiet (fail)
        go_wp2_with fail
        go_roundw
        case rel => exact ⟨n + 1, by omega, by go_num, HA2, Lib.hid (below_dn HB.out _)⟩
        case measure => simp [Go.RowKit.intOf]; omega
      · have hag : Hid (¬ Agree l a d n) := Lib.hid (fun h => hxy (by rw [← HX.out, ← HY.out, h.2]))
        have hxi2 : ((y : Int) == (x : Int)) = false := by rw [beq_eq_false_iff_ne]; omega
        have hxi3 : ¬ (y : Int) = (x : Int) := by omega
        have er := hone.out n hn HA.out (.inr hag.out)
        have hfin : Hid (∀ nq, Below w.heap.size w (wr.drewN nq) ∧ Ending.returned (.int .i64 (n : Int)) = .returned (.int .i64 (rn l a d : Int))) := Lib.hid (fun nq => ⟨below_dn HBw.out _, by rw [er]⟩)
        clear er
        go_wp2_with fail
        go_quiet (fail)
        go_wp2_with fail
        go_ret
        exact hfin.out _
    · obtain rfl : n = most := by omega
      have g9 : decide (n < n) = false := decide_eq_false (by omega)
      have er := hone.out n hn HA.out (.inl rfl)
      have hfin : Hid (∀ nq, Below w.heap.size w (wr.drewN nq) ∧ Ending.returned (.int .i64 (n : Int)) = .returned (.int .i64 (rn l a d : Int))) := Lib.hid (fun nq => ⟨below_dn HBw.out _, by rw [er]⟩)
      clear er
      go_wp2_with fail
      go_quiet (fail)
      go_wp2_with fail
      go_ret
      exact hfin.out _
end Go.Proofs.YtpbcdmefngbjjaaGreatDoor
namespace Go.Proofs.YtpbcdmefngbjjaaGreatDoor
open Go.RowKit
open Go.Lib
/-- What next answers: the nearest longer match, or that there is none. -/
def NextPost (l : List UInt8) (a n d : Nat) (w : World) (e : Ending) (w' : World) : Prop := Below w.heap.size w w' ∧
  ((∃ n2 d2 : Nat, NextAt l a n d n2 d2 ∧ e = .returned (.tuple #[.int .i64 (n2 : Int), .int .i64 (d2 : Int)])) ∨ (NoNext l a n d ∧ e = .returned (.tuple #[.int .i64 0, .int .i64 0])))
def FoundPost (l : List UInt8) (a : Nat) (w : World) (e : Ending) (w' : World) : Prop := Below w.heap.size w w' ∧
  (((best l a a).1 < 4 ∧ e = .returned (.tuple #[.int .i64 0, .int .i64 0])) ∨ (4 ≤ (best l a a).1 ∧ e = .returned (.tuple #[.int .i64 ((best l a a).1 : Int), .int .i64 ((best l a a).2 : Int)])))
set_option maxRecDepth 100000 in
set_option maxHeartbeats 4000000 in
theorem plongest_any (b0 off len c a most : Nat) (mo : Option Nat) (l : List UInt8) (w : World) (hl : len ≤ 1000) (h3 : a < len) (hm : Hid (most = min 131 (len - a))) (hll : Hid (l.length = len))
    (hnext : ∀ W, Below w.heap.size w W → ∀ n d, Stand l a n d → n < most → Calls Tryz.prog 72 #[.agg #[.slice (some ⟨b0, off, none⟩) len c, .map mo], .int .i64 (a : Int), .int .i64 (n : Int), .int .i64 (d : Int), .int .i64 (most : Int)] W (NextPost l a n d W)) :
    Calls Tryz.prog 49 #[.agg #[.slice (some ⟨b0, off, none⟩) len c, .map mo], .int .i64 (a : Int)] w (FoundPost l a w) := by
  have HNX := Lib.hid hnext
  have il : (len : Int) ≤ 1000 := by omega
  have ia : (a : Int) < (len : Int) := by omega
  have im : (most : Int) ≤ 131 := by rw [hm.out]; omega
  have im0 : 0 ≤ (most : Int) := by omega
  have hmin : (if (len : Int) - (a : Int) < 131 then (len : Int) - (a : Int) else 131) = (most : Int) := by rw [hm.out]; split <;> omega
  have hmin2 : (if 131 < (len : Int) - (a : Int) then (131 : Int) else (len : Int) - (a : Int)) = (most : Int) := by rw [hm.out]; split <;> omega
  have hmin3 : min ((len : Int) - (a : Int)) 131 = (most : Int) := by rw [hm.out]; omega
  have hmin4 : min (131 : Int) ((len : Int) - (a : Int)) = (most : Int) := by rw [hm.out]; omega
  have HBX : Hid (Below w.heap.size w (w.alloc (.cells #[.slice (some ⟨b0, off, none⟩) len c, .map mo] 61))) := Lib.hid ((Below.refl _ w).alloc (Nat.le_refl _) _)
  have HBOX : Hid ((w.alloc (.cells #[.slice (some ⟨b0, off, none⟩) len c, .map mo] 61)).heap[w.heap.size]? = some (.cells #[.slice (some ⟨b0, off, none⟩) len c, .map mo] 61 (0, 0))) := Lib.hid (World.alloc_heap_new w _)
  have hs1 : w.heap.size < (w.alloc (.cells #[.slice (some ⟨b0, off, none⟩) len c, .map mo] 61)).heap.size := by simp
  have HFULL : Hid (∀ n d, most ≤ n → NoNext l a n d) := Lib.hid (fun n d h => noNext_full (by rw [hll.out]; omega) (by rw [hll.out, ← hm.out]; exact h))
  clear hnext
  go_enter Tryz.func49, Tryz.ntmps49
  go_wp2_with fail
  revert HBX HBOX hs1
  generalize w.alloc (.cells #[.slice (some ⟨b0, off, none⟩) len c, .map mo] 61) = W0
  intro HBX HBOX hs1
  go_loopw [7, 8] (fun nv dv wr => ∃ n d : Nat, nv = .int .i64 n ∧ dv = .int .i64 d ∧ n ≤ 131 ∧ Hid (Stand l a n d) ∧ Hid (Below W0.heap.size W0 wr)) (fun nv _ _ => 131 - (Go.RowKit.intOf nv).toNat)
  case atStart => exact ⟨3, 0, rfl, rfl, by decide, Lib.hid (.inl ⟨rfl, rfl⟩), Lib.hid (Below.refl _ _)⟩
  case round =>
    obtain ⟨n, d, rfl, rfl, hn131, HS, HB⟩ := hrel
    have HBw := Lib.hid (HBX.out.trans (HB.out.mono (Nat.le_of_lt hs1)))
    have hni : (n : Int) ≤ 131 := by omega
    have hdn : d ≤ a := by rcases HS.out with h | h <;> omega
    have hdi : (d : Int) ≤ 1000 := by omega
    have hend : Hid (NoNext l a n d → (d = 0 ∧ (best l a a).1 < 4) ∨ (1 ≤ d ∧ 4 ≤ n ∧ best l a a = (n, d))) := Lib.hid (fun h => HS.out.done h)
    have c0 : wr.cell? ⟨w.heap.size, 0, none⟩ = some (.slice (some ⟨b0, off, none⟩) len c) := by
      have h := (HB.out.block w.heap.size hs1).trans HBOX.out
      simp [World.cell?, h]
    have c1 : wr.cell? ⟨w.heap.size, 1, none⟩ = some (.map mo) := by
      have h := (HB.out.block w.heap.size hs1).trans HBOX.out
      simp [World.cell?, h]
    by_cases hnm : n < most
    · have inm : (n : Int) < (most : Int) := by omega
      have HC := Lib.hid (HNX.out wr HBw.out n d HS.out hnm)
      go_wp2_with fail
      refine (HC.out).mono ?_
      rintro e w2 ⟨hb2, ⟨n2, d2, hN, rfl⟩ | ⟨hN, rfl⟩⟩
      · have HB2 := Lib.hid (HB.out.trans (hb2.mono HB.out.size))
        have HS2 := Lib.hid (HS.out.next hN)
        have h5 := hN.more
        have h6 : n2 ≤ 131 := by rw [← hN.run]; exact rn_le _ _ _
        have h7 : 4 ≤ n2 := by rcases HS.out with h | h <;> omega
        have i2 : ¬ (n2 : Int) = 0 := by omega
        have i2l : (n2 : Int) ≤ 131 := by omega
        have i2b : ((n2 : Int) == 0) = false := by rw [beq_eq_false_iff_ne]; exact i2
        clear hN hb2
        go_wp2_with fail
        go_roundw
        case rel => exact ⟨n2, d2, rfl, rfl, h6, HS2, HB2⟩
        case measure => simp [Go.RowKit.intOf]; omega
      · have HB2 := Lib.hid (HBw.out.trans (hb2.mono HBw.out.size))
        have hE := hend.out hN
        clear hb2 hN
        rcases hE with ⟨rfl, hb4⟩ | ⟨h1, h2, h3⟩
        · go_wp2_with fail
          go_ret2
          exact ⟨HB2.out, .inl ⟨hb4, rfl⟩⟩
        · have id : ¬ (d : Int) = 0 := by omega
          have hfin : Hid (FoundPost l a w (.returned (.tuple #[.int .i64 (n : Int), .int .i64 (d : Int)])) w2) := Lib.hid ⟨HB2.out, .inr ⟨by rw [h3]; exact h2, by rw [h3]⟩⟩
          clear h3
          go_wp2_with fail
          go_ret2
          exact hfin.out
    · have inm : ¬ (n : Int) < (most : Int) := by omega
      have hE := hend.out (HFULL.out n d (by omega))
      rcases hE with ⟨rfl, hb4⟩ | ⟨h1, h2, h3⟩
      · go_wp2_with fail
        go_ret2
        exact ⟨HBw.out, .inl ⟨hb4, rfl⟩⟩
      · have id : ¬ (d : Int) = 0 := by omega
        have hfin : Hid (FoundPost l a w (.returned (.tuple #[.int .i64 (n : Int), .int .i64 (d : Int)])) wr) := Lib.hid ⟨HBw.out, .inr ⟨by rw [h3]; exact h2, by rw [h3]⟩⟩
        clear h3
        go_wp2_with fail
        go_ret2
        exact hfin.out
end Go.Proofs.YtpbcdmefngbjjaaGreatDoor
namespace Go.Proofs.YtpbcdmefngbjjaaGreatDoor
open Go.RowKit
open Go.Lib
/-- The index: whatever is made behind it, longest answers. -/
def IdxPost (l : List UInt8) (b0 off len c : Nat) (w : World) (e : Ending) (w1 : World) : Prop := Below w.heap.size w w1 ∧ ∃ mo : Option Nat, e = .returned (.agg #[.slice (some ⟨b0, off, none⟩) len c, .map mo]) ∧
  ∀ W, Below w1.heap.size w1 W → ∀ a, a < len → Calls Tryz.prog 49 #[.agg #[.slice (some ⟨b0, off, none⟩) len c, .map mo], .int .i64 (a : Int)] W (FoundPost l a W)
theorem plain_app (B b0 off len c : Nat) (v0 : Value) (D0 l : List UInt8) (w : World) (hl : len ≤ 1000) (hD0 : D0.length ≤ 100000) (hB : B ≤ w.heap.size) (hown : w.ownsRow B 5 1 v0 D0.length (u8s D0)) (hbs : BsN B w (some ⟨b0, off, none⟩) l) (hC : Came w (some ⟨b0, off, none⟩) len c l) :
    Calls Tryz.prog 50 #[v0, .slice (some ⟨b0, off, none⟩) len c] w (App B w v0 (D0 ++ spL l)) :=
  appendPlain_some B b0 off len c v0 D0 l w (Lib.hid hC.hl.symm) hl hC.hc hD0 hB hown hbs
set_option maxRecDepth 100000 in
set_option maxHeartbeats 4000000 in
theorem pdict_some (b0 off len c : Nat) (l : List UInt8) (w : World) (hl : len ≤ 1000) (h : Came w (some ⟨b0, off, none⟩) len c l) (hidx : Calls Tryz.prog 48 #[.slice (some ⟨b0, off, none⟩) len c] w (IdxPost l b0 off len c w)) :
    Calls Tryz.prog 25 #[.slice (some ⟨b0, off, none⟩) len c] w (RowPost (dicL l) w) := by
  have H := Lib.hid h
  have HIDX := Lib.hid hidx
  have HBN : Hid (BsN w.heap.size w (some ⟨b0, off, none⟩) l) := Lib.hid h.lies.bsN
  have il : (len : Int) ≤ 1000 := by omega
  have HL := Lib.hid hl
  have hc := h.hc
  have ic : (len : Int) ≤ (c : Int) := by omega
  have hlen := Lib.hid h.hl
  obtain ⟨R, HR⟩ : ∃ R, Hid (R = dicL l) := ⟨_, rfl⟩
  rw [← HR.out]
  have HG0 : Hid (Grew w.heap.size w (.slice none 0 0) [] w (.slice none 0 0)) := Lib.hid (Grew.refl (l := []) (World.ownsRow_nil w w.heap.size 5 1))
  clear h hl hidx
  go_enter Tryz.func25, Tryz.ntmps25
  go_wp2_with fail
  refine (HIDX.out).mono ?_
  rintro e w1 ⟨hb1, mo, rfl, hlong⟩
  have HLONG := Lib.hid hlong
  have HB1 := Lib.hid hb1
  have HBX : Hid (Below w1.heap.size w1 (w1.alloc (.cells #[.slice (some ⟨b0, off, none⟩) len c, .map mo] 61))) := Lib.hid ((Below.refl _ w1).alloc (Nat.le_refl _) _)
  have HBOX : Hid ((w1.alloc (.cells #[.slice (some ⟨b0, off, none⟩) len c, .map mo] 61)).heap[w1.heap.size]? = some (.cells #[.slice (some ⟨b0, off, none⟩) len c, .map mo] 61 (0, 0))) := Lib.hid (World.alloc_heap_new w1 _)
  have hs1 : w1.heap.size < (w1.alloc (.cells #[.slice (some ⟨b0, off, none⟩) len c, .map mo] 61)).heap.size := by simp
  clear hb1 hlong
  go_wp2_with fail
  revert HBX HBOX hs1
  generalize w1.alloc (.cells #[.slice (some ⟨b0, off, none⟩) len c, .map mo] 61) = W0
  intro HBX HBOX hs1
  have HG0 : Hid (Grew w.heap.size W0 (.slice none 0 0) [] W0 (.slice none 0 0)) := Lib.hid (Grew.refl (l := []) (World.ownsRow_nil W0 w.heap.size 5 1))
  have HBW0 : Hid (Below w.heap.size w W0) := Lib.hid (HB1.out.trans (HBX.out.mono HB1.out.size))
  go_loopw [5, 6, 7] (fun ov fv av wr => ∃ (f fr a : Nat) (D : List UInt8), fr ≤ a ∧ a ≤ len ∧ fv = .int .i64 fr ∧ av = .int .i64 a ∧ Hid (len - a ≤ f) ∧ Hid (D ++ dcF l f fr a = R) ∧ Hid (D.length ≤ 2 * fr) ∧ Hid (Grew w.heap.size W0 (.slice none 0 0) D wr ov)) (fun _ _ av _ => len - (Go.RowKit.intOf av).toNat)
  case atStart => exact ⟨len, 0, 0, [], Nat.le_refl _, Nat.zero_le _, rfl, rfl, Lib.hid (Nat.le_refl _), Lib.hid (by rw [HR.out, dicL, hlen.out]; rfl), Lib.hid (Nat.zero_le _), HG0⟩
  case round =>
    obtain ⟨f, fr, a, D, hfa, hal, rfl, rfl, HF, HD, HDL, HG⟩ := hrel
    have hbW : Hid (Below W0.heap.size W0 wr) := Lib.hid (HG.out.grown |> fun g => ⟨g.os, g.tape, g.output, g.size, fun k hk => g.block k hk (by intro e; cases e)⟩)
    have hbw : Hid (Below w.heap.size w wr) := Lib.hid (HBW0.out.trans (hbW.out.mono HBW0.out.size))
    have ia : (a : Int) ≤ (len : Int) := by omega
    have ifr : (fr : Int) ≤ (a : Int) := by omega
    have hbox := (hbW.out.block w1.heap.size hs1).trans HBOX.out
    have c0 : wr.cell? ⟨w1.heap.size, 0, none⟩ = some (.slice (some ⟨b0, off, none⟩) len c) := by simp [World.cell?, hbox]
    have c1 : wr.cell? ⟨w1.heap.size, 1, none⟩ = some (.map mo) := by simp [World.cell?, hbox]
    clear hbox
    by_cases hlt : a < len
    · have ilt : (a : Int) < (len : Int) := by omega
      have HLg := Lib.hid (HLONG.out wr (HBX.out.trans (hbW.out.mono (Nat.le_of_lt hs1))) a hlt)
      obtain ⟨f1, rfl⟩ : ∃ f1, f = f1 + 1 := ⟨f - 1, by have := HF.out; omega⟩
      go_wp2_with fail
      refine (HLg.out).mono ?_
      rintro e w2 ⟨hb2, ⟨hlow, rfl⟩ | ⟨hge, rfl⟩⟩
      · have G2 := Lib.hid (HG.out.trans (Grew.of_below HG.out.own hb2))
        have hstep : Hid (D ++ dcF l f1 fr (a + 1) = R) := Lib.hid (by rw [← HD.out, dcF, if_pos (by rw [hlen.out]; exact hlt), if_pos hlow])
        clear hb2 hlow
        go_wp2_with fail
        go_roundw
        case rel => exact ⟨f1, fr, a + 1, D, by omega, by omega, rfl, by go_num, Lib.hid (by have := HF.out; omega), hstep, HDL, G2⟩
        case measure => simp [Go.RowKit.intOf]; omega
      · obtain ⟨n, HN⟩ : ∃ n, Hid (n = (best l a a).1) := ⟨_, rfl⟩
        obtain ⟨d, HDd⟩ : ∃ d, Hid (d = (best l a a).2) := ⟨_, rfl⟩
        rw [← HN.out] at hge ⊢
        rw [← HDd.out]
        have hn4 : ¬ n < 4 := by omega
        have hn131 : n ≤ 131 := by rw [HN.out]; exact (best_le l a a).1
        have hda : d ≤ a := by rw [HDd.out]; exact (best_le l a a).2
        have hfit : a + n ≤ len := by rw [HN.out, ← hlen.out]; exact best_fits l a (by rw [hlen.out]; exact hal) a
        have in131 : (n : Int) ≤ 131 := by omega
        have id1000 : (d : Int) ≤ 1000 := by have := HL.out; omega
        have in4 : ¬ (n : Int) = 0 := by omega
        have in4b : ((n : Int) == 0) = false := by rw [beq_eq_false_iff_ne]; exact in4
        have in4c : 4 ≤ (n : Int) := by omega
        have G2 := Lib.hid (HG.out.trans (Grew.of_below HG.out.own hb2))
        have hB2 := Lib.hid (hbw.out.trans (hb2.mono hbw.out.size))
        clear hb2
        obtain ⟨k, HK⟩ : ∃ k, Hid (k = a - fr) := ⟨_, rfl⟩
        have fk : a - fr = k := HK.out.symm
        have ifc : (fr : Int) < (c : Int) := by omega
        have iac : (a : Int) ≤ (c : Int) := by omega
        obtain ⟨s1, HS1⟩ : ∃ s1, Hid (s1 = (l.drop fr).take k) := ⟨_, rfl⟩
        have hs1' : Came w2 (some ⟨b0, off + fr, none⟩) k (c - fr) s1 := ⟨by rw [HS1.out, List.length_take, List.length_drop, hlen.out, HK.out]; omega, by rw [HK.out]; omega, by rw [HS1.out]; exact bs_sub (H.out.lies.below hB2.out) fr k (by rw [hlen.out, HK.out]; omega) rfl⟩
        have hsn : BsN w.heap.size w2 (some ⟨b0, off + fr, none⟩) s1 := by
          rcases HBN.out.keep hB2.out with h0 | ⟨b, o, e, h5, h6⟩
          · exact .inl (by rw [HS1.out, List.length_take, List.length_drop, h0]; omega)
          · rcases hs1'.lies with h0 | ⟨b', o', e', h5', h6'⟩
            · exact .inl h0
            · cases e; cases e'
              exact .inr ⟨_, _, rfl, h5, h6'⟩
        have hDl : D.length ≤ 2000 := by have := HDL.out; have := HL.out; omega
        have HSp := Lib.hid (plain_app w.heap.size b0 (off + fr) k (c - fr) _ D s1 w2 (by rw [HK.out]; have := HL.out; omega) (by omega) hB2.out.size G2.out.own hsn hs1')
        have hspl : Hid ((spL s1).length ≤ 2 * k) := Lib.hid (by have := spL_len k s1 (by rw [hs1'.hl]; exact Nat.le_refl _); rwa [hs1'.hl] at this)
        have hstep : Hid (D ++ (spL s1 ++ (tok n d ++ dcF l f1 (a + n) (a + n))) = R) := Lib.hid (by rw [← HD.out, dcF, if_pos (by rw [hlen.out]; exact hlt), ← HN.out, if_neg hn4, ← HDd.out, HS1.out, HK.out])
        clear hs1' hsn
        go_wp2_with fail
        refine (HSp.out).mono ?_
        rintro e w4 ⟨v4, rfl, hg4⟩
        obtain ⟨S, HS⟩ : ∃ S, Hid (S = spL s1) := ⟨_, rfl⟩
        rw [← HS.out] at hg4 hspl hstep
        obtain ⟨D4, HD4⟩ : ∃ D4, Hid (D4 = D ++ S) := ⟨_, rfl⟩
        rw [← HD4.out] at hg4
        have G4 := Lib.hid (G2.out.trans hg4)
        clear hg4
        have hB4 : Hid (Below w.heap.size w w4) := Lib.hid (HBW0.out.trans ((⟨G4.out.grown.os, G4.out.grown.tape, G4.out.grown.output, G4.out.grown.size, fun k hk => G4.out.grown.block k hk (by intro e; cases e)⟩ : Below W0.heap.size W0 w4).mono HBW0.out.size))
        have hD4 : Hid (D4.length ≤ 2 * a) := Lib.hid (by
          have h1 := HDL.out
          have h2 := hspl.out
          rw [HD4.out, List.length_append]; rw [HK.out] at h2; omega)
        obtain ⟨x, HX⟩ : ∃ x : UInt8, Hid (x = UInt8.ofNat (124 + n)) := ⟨_, rfl⟩
        obtain ⟨y, HY⟩ : ∃ y : UInt8, Hid (y = UInt8.ofNat (d / 256)) := ⟨_, rfl⟩
        obtain ⟨z, HZ⟩ : ∃ z : UInt8, Hid (z = UInt8.ofNat (d % 256)) := ⟨_, rfl⟩
        have hx : x.toNat = 124 + n := by rw [HX.out, UInt8.toNat_ofNat']; omega
        have hy : y.toNat = d / 256 := by rw [HY.out, UInt8.toNat_ofNat']; omega
        have hz : z.toNat = d % 256 := by rw [HZ.out, UInt8.toNat_ofNat']; omega
        have G4a := Lib.hid (G4.out.trans (Grew.of_below G4.out.own ((Below.refl _ w4).alloc (Nat.le_refl _) (.cells #[.int .u8 (128 + (n : Int) - 4), .int .u8 ((d : Int) / 256), .int .u8 ((d : Int) % 256)] 5))))
        have htk : Hid (Bs (w4.alloc (.cells #[.int .u8 (128 + (n : Int) - 4), .int .u8 ((d : Int) / 256), .int .u8 ((d : Int) % 256)] 5)) (some ⟨w4.heap.size, 0, none⟩) [x, y, z]) := Lib.hid (by
          have h := tok_bs w4 x y z
          rwa [show ((x.toNat : Nat) : Int) = 128 + (n : Int) - 4 by omega, show ((y.toNat : Nat) : Int) = (d : Int) / 256 by omega, show ((z.toNat : Nat) : Int) = (d : Int) % 256 by omega] at h)
        have hbl4 : Hid (D4.length + 3 ≤ 140737488355328 ∧ w.heap.size ≤ (w4.alloc (.cells #[.int .u8 (128 + (n : Int) - 4), .int .u8 ((d : Int) / 256), .int .u8 ((d : Int) % 256)] 5)).heap.size) := Lib.hid ⟨by have := hD4.out; have := HL.out; omega, by have := hB4.out.size; simp; omega⟩
        have htok : Hid (tok n d = [x, y, z]) := Lib.hid (by rw [tok, HX.out, HY.out, HZ.out])
        clear hx hy hz
        go_wp2_with (at_builtin; refine wpList_append_bs rfl (.tmp 35) (.tmp 45) rfl w.heap.size v4 D4.length D4 rfl rfl G4a.out.own _ 3 3 [x, y, z] rfl rfl htk.out hbl4.out.1 hbl4.out.2 ?_)
        intro v5 w5 hg5
        have G5 := Lib.hid (G4a.out.trans hg5)
        clear hg5
        obtain ⟨an, HAN⟩ : ∃ an, Hid (an = a + n) := ⟨_, rfl⟩
        have han : (a : Int) + (n : Int) = (an : Int) := by rw [HAN.out]; omega
        have hanl : an ≤ len := by rw [HAN.out]; exact hfit
        have hani : (an : Int) ≤ 1000 := by omega
        have hD5 : Hid ((D4 ++ [x, y, z]) ++ dcF l f1 an an = R) := Lib.hid (by rw [← hstep.out, HD4.out, htok.out, HAN.out]; simp only [List.append_assoc])
        have hDL5 : Hid ((D4 ++ [x, y, z]).length ≤ 2 * an) := Lib.hid (by
          have h1 := hD4.out
          rw [List.length_append]; show D4.length + 3 ≤ _
          rw [HAN.out]; omega)
        go_wp2_with fail
        go_roundw
        case rel => exact ⟨f1, an, an, D4 ++ [x, y, z], Nat.le_refl _, hanl, rfl, rfl, Lib.hid (by have := HF.out; rw [HAN.out]; omega), hD5, hDL5, G5⟩
        case measure => simp [Go.RowKit.intOf]; rw [HAN.out]; omega
    · obtain rfl : a = len := by omega
      have hnl : ¬ a < l.length := by rw [hlen.out]; omega
      have e := HD.out
      rw [dcF_end hnl] at e
      have ilt : ¬ (a : Int) < (a : Int) := by omega
      have ifc : (fr : Int) ≤ (c : Int) := by omega
      obtain ⟨k, HK⟩ : ∃ k, Hid (k = a - fr) := ⟨_, rfl⟩
      have fk : a - fr = k := HK.out.symm
      obtain ⟨s1, HS1⟩ : ∃ s1, Hid (s1 = l.drop fr) := ⟨_, rfl⟩
      rw [← HS1.out] at e
      have hsl : s1.length = k := by rw [HS1.out, List.length_drop, hlen.out, HK.out]
      have hDl : D.length ≤ 2000 := by have := HDL.out; have := HL.out; omega
      have HE := Lib.hid e
      have HSp : Hid (∀ o1 c1, Came wr (some ⟨b0, o1, none⟩) k c1 s1 → BsN w.heap.size wr (some ⟨b0, o1, none⟩) s1 → ∀ v, wr.ownsRow w.heap.size 5 1 v D.length (u8s D) → Calls Tryz.prog 50 #[v, .slice (some ⟨b0, o1, none⟩) k c1] wr (App w.heap.size wr v R)) := Lib.hid (fun o1 c1 h1 h2 v hv => by
        have := plain_app w.heap.size b0 o1 k c1 v D s1 wr (by rw [HK.out]; have := HL.out; omega) (by omega) hbw.out.size hv h2 h1
        rwa [HE.out] at this)
      have hbn : ∀ o1, Bs wr (some ⟨b0, o1, none⟩) s1 → BsN w.heap.size wr (some ⟨b0, o1, none⟩) s1 := fun o1 h => by
        rcases h with h0 | ⟨b', o', e', h5', h6'⟩
        · exact .inl h0
        · rcases HBN.out.keep hbw.out with h0 | ⟨b, o, e, h5, h6⟩
          · exact .inl (by rw [HS1.out, List.length_drop, h0]; omega)
          · cases e; cases e'
            exact .inr ⟨_, _, rfl, h5, h6'⟩
      have HBNN := Lib.hid hbn
      clear e hbn
      by_cases hcf : c = fr
      · have hk0 : k = 0 := by rw [HK.out]; omega
        have hCm : Came wr (some ⟨b0, off, none⟩) 0 0 s1 := ⟨by rw [hsl]; exact hk0, Nat.le_refl _, .inl (by rw [hsl]; exact hk0)⟩
        rw [hk0] at HSp
        have HC := Lib.hid (HSp.out off 0 hCm (HBNN.out _ hCm.lies) _ HG.out.own)
        subst hcf
        obtain rfl : a = c := by omega
        clear fk hCm
        go_wp2_with fail
        refine (HC.out).mono ?_
        rintro e w4 ⟨v4, rfl, hg4⟩
        have G4 := Lib.hid (HG.out.trans hg4)
        clear hg4
        have hB4 : Hid (Below w.heap.size w w4) := Lib.hid (HBW0.out.trans ((⟨G4.out.grown.os, G4.out.grown.tape, G4.out.grown.output, G4.out.grown.size, fun k hk => G4.out.grown.block k hk (by intro e; cases e)⟩ : Below W0.heap.size W0 w4).mono HBW0.out.size))
        obtain ⟨q4, d4, rfl, -, -⟩ := own_bytes G4.out.own
        obtain ⟨m4, HM4⟩ : ∃ m4, Hid (m4 = R.length) := ⟨_, rfl⟩
        have hown4 : Hid (w4.ownsRow w.heap.size 5 1 (.slice q4 R.length d4) R.length (u8s R)) := Lib.hid G4.out.own
        rw [← HM4.out] at hown4 ⊢
        go_wp2_with fail
        go_ret2
        exact ⟨hB4.out, _, rfl, by rw [← HM4.out]; exact hown4.out⟩
      · have ifc' : (fr : Int) < (c : Int) := by omega
        have hCm : Came wr (some ⟨b0, off + fr, none⟩) k (c - fr) s1 := ⟨hsl, by rw [HK.out]; omega, by rw [HS1.out]; exact bs_tail (H.out.lies.below hbw.out) fr (by rw [hlen.out]; omega) rfl⟩
        have HC := Lib.hid (HSp.out _ _ hCm (HBNN.out _ hCm.lies) _ HG.out.own)
        clear hCm
        go_wp2_with fail
        refine (HC.out).mono ?_
        rintro e w4 ⟨v4, rfl, hg4⟩
        have G4 := Lib.hid (HG.out.trans hg4)
        clear hg4
        have hB4 : Hid (Below w.heap.size w w4) := Lib.hid (HBW0.out.trans ((⟨G4.out.grown.os, G4.out.grown.tape, G4.out.grown.output, G4.out.grown.size, fun k hk => G4.out.grown.block k hk (by intro e; cases e)⟩ : Below W0.heap.size W0 w4).mono HBW0.out.size))
        obtain ⟨q4, d4, rfl, -, -⟩ := own_bytes G4.out.own
        obtain ⟨m4, HM4⟩ : ∃ m4, Hid (m4 = R.length) := ⟨_, rfl⟩
        have hown4 : Hid (w4.ownsRow w.heap.size 5 1 (.slice q4 R.length d4) R.length (u8s R)) := Lib.hid G4.out.own
        rw [← HM4.out] at hown4 ⊢
        go_wp2_with fail
        go_ret2
        exact ⟨hB4.out, _, rfl, by rw [← HM4.out]; exact hown4.out⟩
end Go.Proofs.YtpbcdmefngbjjaaGreatDoor
namespace Go.Proofs.YtpbcdmefngbjjaaGreatDoor
open Go.RowKit
open Go.Lib
def keyV (l : List UInt8) (a : Nat) : Value := .agg #[.int .u8 ((l.getD a 0).toNat : Int), .int .u8 ((l.getD (a + 1) 0).toNat : Int), .int .u8 ((l.getD (a + 2) 0).toNat : Int), .int .u8 ((l.getD (a + 3) 0).toNat : Int)]
set_option maxRecDepth 100000 in
set_option maxHeartbeats 4000000 in
theorem key_any (b0 off len c a : Nat) (mo : Option Nat) (l : List UInt8) (w : World) (hl : len ≤ 1000) (h3 : a + 4 ≤ len) (h : Came w (some ⟨b0, off, none⟩) len c l) :
    Calls Tryz.prog 71 #[.agg #[.slice (some ⟨b0, off, none⟩) len c, .map mo], .int .i64 (a : Int)] w fun e w' => Below w.heap.size w w' ∧ e = .returned (keyV l a) := by
  have H := Lib.hid h
  have hc := h.hc
  have il : (len : Int) ≤ 1000 := by omega
  have ia : (a : Int) + 4 ≤ (len : Int) := by omega
  have ic : (len : Int) ≤ (c : Int) := by omega
  have ha1 : (a : Int) ≤ (len : Int) := by omega
  have ha2 : (a : Int) ≤ (c : Int) := by omega
  obtain ⟨W3, HW3⟩ : ∃ W3, Hid (W3 = ((w.alloc (.cells #[.slice (some ⟨b0, off, none⟩) len c, .map mo] 61)).alloc (.cells #[.int .u8 0, .int .u8 0, .int .u8 0, .int .u8 0] 84)).alloc (.cells #[.int .u8 0, .int .u8 0, .int .u8 0, .int .u8 0] 84)) := ⟨_, rfl⟩
  have HB3 : Hid (Below w.heap.size w W3) := Lib.hid (by
    rw [HW3.out]
    exact (((Below.refl _ w).alloc (Nat.le_refl _) _).alloc (by simp only [World.alloc, Array.size_push]; omega) _).alloc (by simp only [World.alloc, Array.size_push]; omega) _)
  have HK : Hid (W3.heap[w.heap.size + 1 + 1]? = some (.cells ([.int .u8 0, .int .u8 0, .int .u8 0, .int .u8 0] : List Value).toArray 84 (0, 0)) ∧ W3.heap[w.heap.size + 1]? = some (.cells #[.int .u8 0, .int .u8 0, .int .u8 0, .int .u8 0] 84 (0, 0)) ∧ W3.heap[w.heap.size]? = some (.cells #[.slice (some ⟨b0, off, none⟩) len c, .map mo] 61 (0, 0))) := Lib.hid (by
    rw [HW3.out]
    refine ⟨?_, ?_, ?_⟩ <;> simp only [World.alloc, Array.getElem?_push, Array.size_push]
    · rw [if_pos trivial]
    · rw [if_neg (by omega), if_pos trivial]
    · rw [if_neg (by omega), if_neg (by omega), if_pos trivial])
  have hca : ¬ c = a := by omega
  have hb0 : Hid (∀ k, k < len → ∃ x : Nat, w.cell? ⟨b0, off + k, none⟩ = some (.int .u8 (x : Int)) ∧ (l.getD k 0).toNat = x ∧ b0 < w.heap.size) := Lib.hid (fun k hk => by
    obtain ⟨b1, o1, x, e1, h0, h1, h2, h3⟩ := H.out.lies.at (k := k) (by rw [H.out.hl]; exact hk)
    cases e1
    exact ⟨x, h1, h2.out, h0⟩)
  clear h
  go_enter Tryz.func71, Tryz.ntmps71
  go_wp2_with fail
  try rw [← HW3.out]
  have hbox : W3.cell? ⟨w.heap.size, 0, none⟩ = some (.slice (some ⟨b0, off, none⟩) len c) := by simp [World.cell?, HK.out.2.2]
  have HKd : Hid (W3.drew.heap[w.heap.size + 1 + 1]? = some (.cells ([.int .u8 0, .int .u8 0, .int .u8 0, .int .u8 0] : List Value).toArray 84 (0, 0))) := Lib.hid HK.out.1
  have HBd : Hid (Below w.heap.size W3 W3.drew) := Lib.hid ⟨rfl, rfl, rfl, Nat.le_refl _, fun _ _ => rfl⟩
  obtain ⟨x0, x1, x2, x3, HX⟩ : ∃ x0 x1 x2 x3 : Nat, Hid (x0 = (l.getD a 0).toNat ∧ x1 = (l.getD (a + 1) 0).toNat ∧ x2 = (l.getD (a + 2) 0).toNat ∧ x3 = (l.getD (a + 3) 0).toNat) := ⟨_, _, _, _, Lib.hid ⟨rfl, rfl, rfl, rfl⟩⟩
  have HS : Hid (∀ j v, ([.int .u8 (x0 : Int), .int .u8 (x1 : Int), .int .u8 (x2 : Int), .int .u8 (x3 : Int)] : List Value)[j]? = some v → W3.drew.cell? ((⟨b0, off + a, none⟩ : Addr).add j) = some v) := Lib.hid (fun j v hj => by
    have hw : ∀ k x, k < len → (l.getD k 0).toNat = x → W3.drew.cell? ⟨b0, off + k, none⟩ = some (.int .u8 (x : Int)) := fun k x hk hx => by
      obtain ⟨y, h1, h2, h4⟩ := hb0.out k hk
      rw [show x = y by rw [← hx, h2]]
      exact ((HB3.out.trans HBd.out).cell (p := ⟨b0, off + k, none⟩) h4).trans h1
    obtain ⟨e0, e1, e2, e3⟩ := HX.out
    match j, hj with
    | 0, hj => cases hj; exact hw a x0 (by omega) e0.symm
    | 1, hj => cases hj; exact hw (a + 1) x1 (by omega) e1.symm
    | 2, hj => cases hj; exact hw (a + 2) x2 (by omega) e2.symm
    | 3, hj => cases hj; exact hw (a + 3) x3 (by omega) e3.symm
    | j + 4, hj => simp at hj)
  have HL4 : Hid ((4 : Nat) = Nat.min (len - a) 4) := Lib.hid (Nat.min_eq_right (by omega)).symm
  have hv : keyV l a = .agg #[.int .u8 (x0 : Int), .int .u8 (x1 : Int), .int .u8 (x2 : Int), .int .u8 (x3 : Int)] := by
    obtain ⟨rfl, rfl, rfl, rfl⟩ := HX.out
    rfl
  have HV := Lib.hid hv
  clear hv
  go_region_law (refine step_copy_splice rfl (.tmp 6) (.tmp 10) 22 22 rfl 5 rfl rfl _ _ _ _ _ _ rfl rfl (w.heap.size + 1 + 1) 0 _ 84 HKd.out [.int .u8 (x0 : Int), .int .u8 (x1 : Int), .int .u8 (x2 : Int), .int .u8 (x3 : Int)] HL4.out (fun _ => ⟨rfl, _, rfl, HS.out⟩) (Nat.le_refl _) (by simp [Value.oneCell']) (w.heap.size + 1 + 1) W3.drew (Below.refl _ _) (Nat.le_refl _) ?_; intro w4 hg4 hb4)
  have HK4 : Hid (w4.heap[w.heap.size + 1 + 1]? = some (.cells #[.int .u8 (x0 : Int), .int .u8 (x1 : Int), .int .u8 (x2 : Int), .int .u8 (x3 : Int)] 84 (0, 0))) := Lib.hid hg4.out
  have HK41 : Hid (w4.heap[w.heap.size + 1]? = some (.cells #[.int .u8 0, .int .u8 0, .int .u8 0, .int .u8 0] 84 (0, 0))) := Lib.hid ((hb4.block (w.heap.size + 1) (by omega)).trans HK.out.2.1)
  have HB4 : Hid (Below w.heap.size w w4) := Lib.hid ((HB3.out.trans HBd.out).trans (hb4.mono (by omega)))
  clear hg4 hb4 hbox
  have f0 : w4.cell? ⟨w.heap.size + 1 + 1, 0, none⟩ = some (.int .u8 (x0 : Int)) := by simp only [World.cell?, HK4.out]; rfl
  have f1 : w4.cell? ⟨w.heap.size + 1 + 1, 1, none⟩ = some (.int .u8 (x1 : Int)) := by simp only [World.cell?, HK4.out]; rfl
  have f2 : w4.cell? ⟨w.heap.size + 1 + 1, 2, none⟩ = some (.int .u8 (x2 : Int)) := by simp only [World.cell?, HK4.out]; rfl
  have f3 : w4.cell? ⟨w.heap.size + 1 + 1, 3, none⟩ = some (.int .u8 (x3 : Int)) := by simp only [World.cell?, HK4.out]; rfl
  obtain ⟨g1, hg1⟩ : ∃ g1, w.heap.size + 1 = g1 := ⟨_, rfl⟩
  have e0 : w4.cell? ⟨w.heap.size + 1, 0, none⟩ = some (.int .u8 0) := by simp only [World.cell?, HK41.out]; rfl
  have e1 : w4.cell? ⟨w.heap.size + 1, 1, none⟩ = some (.int .u8 0) := by simp only [World.cell?, HK41.out]; rfl
  have e2 : w4.cell? ⟨w.heap.size + 1, 2, none⟩ = some (.int .u8 0) := by simp only [World.cell?, HK41.out]; rfl
  have e3 : w4.cell? ⟨w.heap.size + 1, 3, none⟩ = some (.int .u8 0) := by simp only [World.cell?, HK41.out]; rfl
  have z0 : w4.frozen? ⟨w.heap.size + 1, 0, none⟩ = false := by simp only [World.frozen?, HK41.out]; rfl
  have z1 : w4.frozen? ⟨w.heap.size + 1, 1, none⟩ = false := by simp only [World.frozen?, HK41.out]; rfl
  have z2 : w4.frozen? ⟨w.heap.size + 1, 2, none⟩ = false := by simp only [World.frozen?, HK41.out]; rfl
  have z3 : w4.frozen? ⟨w.heap.size + 1, 3, none⟩ = false := by simp only [World.frozen?, HK41.out]; rfl
  rw [hg1] at f0 f1 f2 f3 e0 e1 e2 e3 z0 z1 z2 z3
  have hg1' : w.heap.size ≤ g1 := by omega
  have HG : Hid (w4.heap[g1]? = some (.cells #[.int .u8 0, .int .u8 0, .int .u8 0, .int .u8 0] 84 (0, 0))) := by rw [← hg1]; exact HK41
  simp only [hg1]
  clear hg1
  go_wp2_with fail
  have HB8 := Lib.hid ((((HB4.out.setCell (p := ⟨g1, 0, none⟩) hg1' (.int .u8 (x0 : Int))).setCell (p := ⟨g1, 1, none⟩) hg1' (.int .u8 (x1 : Int))).setCell (p := ⟨g1, 2, none⟩) hg1' (.int .u8 (x2 : Int))).setCell (p := ⟨g1, 3, none⟩) hg1' (.int .u8 (x3 : Int)))
  have hrow : ∀ (W : World) (y0 y1 y2 y3 : Value), W.heap[g1]? = some (.cells #[y0, y1, y2, y3] 84 (0, 0)) → ((((W.setCell ⟨g1, 0, none⟩ (.int .u8 (x0 : Int))).setCell ⟨g1, 1, none⟩ (.int .u8 (x1 : Int))).setCell ⟨g1, 2, none⟩ (.int .u8 (x2 : Int))).setCell ⟨g1, 3, none⟩ (.int .u8 (x3 : Int))).heap[g1]? = some (.cells #[.int .u8 (x0 : Int), .int .u8 (x1 : Int), .int .u8 (x2 : Int), .int .u8 (x3 : Int)] 84 (0, 0)) := fun W y0 y1 y2 y3 h0 => by
    have h1 := setRow_heap W g1 _ (#[y0, y1, y2, y3].setIfInBounds 0 (.int .u8 (x0 : Int))) 84 (0, 0) h0
    rw [← setCell_eq_setRow W g1 0 _ 84 (0, 0) _ h0] at h1
    have h2 := setRow_heap _ g1 _ ((#[y0, y1, y2, y3].setIfInBounds 0 (.int .u8 (x0 : Int))).setIfInBounds 1 (.int .u8 (x1 : Int))) 84 (0, 0) h1
    rw [← setCell_eq_setRow _ g1 1 _ 84 (0, 0) _ h1] at h2
    have h3 := setRow_heap _ g1 _ (((#[y0, y1, y2, y3].setIfInBounds 0 (.int .u8 (x0 : Int))).setIfInBounds 1 (.int .u8 (x1 : Int))).setIfInBounds 2 (.int .u8 (x2 : Int))) 84 (0, 0) h2
    rw [← setCell_eq_setRow _ g1 2 _ 84 (0, 0) _ h2] at h3
    have h4 := setRow_heap _ g1 _ ((((#[y0, y1, y2, y3].setIfInBounds 0 (.int .u8 (x0 : Int))).setIfInBounds 1 (.int .u8 (x1 : Int))).setIfInBounds 2 (.int .u8 (x2 : Int))).setIfInBounds 3 (.int .u8 (x3 : Int))) 84 (0, 0) h3
    rw [← setCell_eq_setRow _ g1 3 _ 84 (0, 0) _ h3] at h4
    exact h4
  try simp only [Exit.inBlock, Exit.then]
  refine bodyPost_ret (results_cell_row rfl _ _ g1 84 #[.int .u8 (x0 : Int), .int .u8 (x1 : Int), .int .u8 (x2 : Int), .int .u8 (x3 : Int)] (0, 0) _ rfl (hrow _ _ _ _ _ HG.out) rfl rfl rfl) rfl ?_
  exact ⟨HB8.out, by rw [HV.out]⟩
end Go.Proofs.YtpbcdmefngbjjaaGreatDoor
namespace Go.Proofs.YtpbcdmefngbjjaaGreatDoor
open Go.RowKit
open Go.Lib
set_option maxRecDepth 100000 in
set_option maxHeartbeats 1000000 in
theorem nan97_any (x : Int) (w : World) : Calls Tryz.prog 97 #[.int .i64 x] w fun e w' => w' = w ∧ e = .returned (.bool false) := by
  go_enter Tryz.func97, Tryz.ntmps97
  go_wp2_with fail
  go_ret
  exact ⟨rfl, by simp⟩
set_option maxRecDepth 100000 in
set_option maxHeartbeats 1000000 in
theorem nan89_any (x : Int) (w : World) : Calls Tryz.prog 89 #[.int .i64 x] w fun e w' => w' = w ∧ e = .returned (.bool false) := by
  go_enter Tryz.func89, Tryz.ntmps89
  go_wp2_with fail
  go_ret
  exact ⟨rfl, by simp⟩
set_option maxRecDepth 100000 in
set_option maxHeartbeats 1000000 in
theorem less_any (x y : Int) (w : World) : Calls Tryz.prog 88 #[.int .i64 x, .int .i64 y] w fun e w' => w' = w ∧ e = .returned (.bool (decide (x < y))) := by
  go_enter Tryz.func88, Tryz.ntmps88
  go_wp2_with fail
  refine (nan97_any x _).mono ?_
  rintro e w' ⟨rfl, rfl⟩
  go_wp2_with fail
  go_ret
  exact ⟨rfl, by simp⟩
end Go.Proofs.YtpbcdmefngbjjaaGreatDoor
namespace Go.Proofs.YtpbcdmefngbjjaaGreatDoor
open Go.RowKit
open Go.Lib
/-- A row of naturals: where the cells lie. -/
def RowAt (w : World) (p : Option Addr) (n : Nat) (ps : Nat → Nat) : Prop := ∀ j, j < n → ∃ g, p = some ⟨g, 0, none⟩ ∧ g < w.heap.size ∧ w.cell? ⟨g, j, none⟩ = some (.int .i64 ((ps j : Nat) : Int))
theorem RowAt.below {w w' : World} {p : Option Addr} {n : Nat} {ps : Nat → Nat} (h : RowAt w p n ps) (hb : Below w.heap.size w w') : RowAt w' p n ps := fun j hj => by
  obtain ⟨g, h1, h2, h3⟩ := h j hj
  exact ⟨g, h1, Nat.lt_of_lt_of_le h2 hb.size, (hb.cell (p := ⟨g, j, none⟩) h2).trans h3⟩
def SearchPost (n : Nat) (ps : Nat → Nat) (t : Nat) (w : World) (e : Ending) (w' : World) : Prop := Below w.heap.size w w' ∧ ∃ (i : Nat) (b : Bool), i ≤ n ∧ (∀ j, j < i → ps j < t) ∧ (∀ j, i ≤ j → j < n → t ≤ ps j) ∧ e = .returned (.tuple #[.int .i64 (i : Int), .bool b])
set_option maxRecDepth 100000 in
set_option maxHeartbeats 4000000 in
theorem search_any (p : Option Addr) (n c t : Nat) (ps : Nat → Nat) (w : World) (hn : n ≤ 1000) (ht : t ≤ 1000) (hps : Hid (∀ j, j < n → ps j ≤ 1000)) (hup : Hid (∀ i j, i ≤ j → j < n → ps i ≤ ps j)) (hr : Hid (RowAt w p n ps)) :
    Calls Tryz.prog 80 #[.slice p n c, .int .i64 (t : Int)] w (SearchPost n ps t w) := by
  have hni : (n : Int) ≤ 1000 := by omega
  have hti : (t : Int) ≤ 1000 := by omega
  go_enter Tryz.func80, Tryz.ntmps80
  go_wp2_with fail
  go_loopw [7, 8] (fun iv jv wr => ∃ i j : Nat, iv = .int .i64 i ∧ jv = .int .i64 j ∧ i ≤ j ∧ j ≤ n ∧ Hid ((∀ k, k < i → ps k < t) ∧ (∀ k, j ≤ k → k < n → t ≤ ps k)) ∧ Hid (Below w.heap.size w wr)) (fun iv jv _ => (Go.RowKit.intOf jv).toNat - (Go.RowKit.intOf iv).toNat)
  case atStart => exact ⟨0, n, rfl, rfl, Nat.zero_le _, Nat.le_refl _, Lib.hid ⟨fun k hk => by omega, fun k h1 h2 => by omega⟩, Lib.hid (Below.refl _ _)⟩
  case round =>
    obtain ⟨i, j, rfl, rfl, hij, hjn, HI, HB⟩ := hrel
    have iij : (i : Int) ≤ (j : Int) := by omega
    have ijn : (j : Int) ≤ (n : Int) := by omega
    by_cases hlt : i < j
    · have ilt : (i : Int) < (j : Int) := by omega
      obtain ⟨h, hh⟩ : ∃ h : Nat, ((i : Int) + (j : Int)) / 2 = (h : Int) := ⟨(i + j) / 2, by omega⟩
      have h1 : i ≤ h := by omega
      have h2 : h < j := by omega
      have hhn : (h : Int) < (n : Int) := by omega
      obtain ⟨g, rfl, -, hcell⟩ := hr.out.below HB.out h (by omega)
      obtain ⟨x, HX⟩ : ∃ x, Hid (x = ps h) := ⟨_, rfl⟩
      rw [← HX.out] at hcell
      have hxi : (x : Int) ≤ 1000 := by have := hps.out h (by omega); rw [HX.out]; omega
      have hhi : (h : Int) ≤ 1000 := by omega
      go_wp2_with fail
      refine (less_any (x : Int) (t : Int) _).mono ?_
      rintro e w2 ⟨rfl, rfl⟩
      by_cases hxt : x < t
      · have hxt' : (x : Int) < (t : Int) := by omega
        have HI2 : Hid ((∀ k, k < h + 1 → ps k < t) ∧ (∀ k, j ≤ k → k < n → t ≤ ps k)) := Lib.hid ⟨fun k hk => by
          have := hup.out k h (by omega) (by omega)
          have := HX.out
          omega, HI.out.2⟩
        go_wp2_with fail
        go_roundw
        case rel => exact ⟨h + 1, j, by go_num, rfl, by omega, by omega, HI2, HB⟩
        case measure => simp [Go.RowKit.intOf]; omega
      · have hxt' : ¬ (x : Int) < (t : Int) := by omega
        have HI2 : Hid ((∀ k, k < i → ps k < t) ∧ (∀ k, h ≤ k → k < n → t ≤ ps k)) := Lib.hid ⟨HI.out.1, fun k h1 h2 => by
          have := hup.out h k h1 h2
          have := HX.out
          omega⟩
        go_wp2_with fail
        go_roundw
        case rel => exact ⟨i, h, rfl, rfl, by omega, by omega, HI2, HB⟩
        case measure => simp [Go.RowKit.intOf]; omega
    · have ilt : ¬ (i : Int) < (j : Int) := by omega
      obtain rfl : i = j := by omega
      have hfin : ∀ b, Hid (SearchPost n ps t w (.returned (.tuple #[.int .i64 (i : Int), .bool b])) wr) := fun b => Lib.hid ⟨HB.out, i, b, hjn, HI.out.1, HI.out.2, rfl⟩
      by_cases hin : i < n
      · have hin' : (i : Int) < (n : Int) := by omega
        obtain ⟨g, rfl, -, hcell⟩ := hr.out.below HB.out i (by omega)
        obtain ⟨x, HX⟩ : ∃ x, Hid (x = ps i) := ⟨_, rfl⟩
        rw [← HX.out] at hcell
        have hxi : (x : Int) ≤ 1000 := by have := hps.out i (by omega); rw [HX.out]; omega
        by_cases hxt : (x : Int) = (t : Int)
        · have hb1 : ((x : Int) == (t : Int)) = true := by rw [beq_iff_eq]; exact hxt
          go_wp2_with fail
          go_ret2
          exact (hfin _).out
        · have hb1 : ((x : Int) == (t : Int)) = false := by rw [beq_eq_false_iff_ne]; exact hxt
          go_wp2_with fail
          refine (nan89_any (x : Int) _).mono ?_
          rintro e w2 ⟨rfl, rfl⟩
          go_wp2_with fail
          go_ret2
          exact (hfin _).out
      · have hin' : ¬ (i : Int) < (n : Int) := by omega
        go_wp2_with fail
        go_ret2
        exact (hfin _).out
end Go.Proofs.YtpbcdmefngbjjaaGreatDoor
namespace Go.Proofs.YtpbcdmefngbjjaaGreatDoor
open Go.RowKit Go.Shelf
open Go.Lib
attribute [local go_sem] Oper.semAt_some
theorem back_in (m : Nat) (p : Option Addr) (len c : Nat) (w : World) :
    CallsIn Fence.wide m Tryz.prog 81 #[.slice p len c] w fun e w' => e = .returned (.func (.func 90) #[] #[.pointer (some ⟨w.heap.size, 0, none⟩)]) ∧ w' = w.alloc (.cells #[.slice p len c] 86) := by
  refine callsIn_of_wp Tryz.func81 rfl trivial ?_ rfl
  simp only [Tryz.ntmps81, List.size_toArray, List.length_cons, List.length_nil, Nat.reduceAdd, Nat.reduceSub, Array.replicate_succ, Array.replicate_zero, List.push_toArray, List.append_toArray, List.nil_append, List.cons_append]
  gi_wp2
  go_ret
  exact ⟨rfl, rfl⟩
abbrev bkE (ps : Nat → Nat) (n : Nat) (x : Pl n) : Array Value := #[.int .i64 ((n - 1 - x.1 : Nat) : Int), .int .i64 ((ps (n - 1 - x.1) : Nat) : Int)]
/-- A row of naturals whose block lies below N. -/
def RowN (N : Nat) (w : World) (p : Option Addr) (n : Nat) (ps : Nat → Nat) : Prop := ∀ j, j < n → ∃ g, p = some ⟨g, 0, none⟩ ∧ g < N ∧ w.cell? ⟨g, j, none⟩ = some (.int .i64 ((ps j : Nat) : Int))
theorem RowN.keep {N : Nat} {w w' : World} {p : Option Addr} {n : Nat} {ps : Nat → Nat} (h : RowN N w p n ps) (hb : Below N w w') : RowN N w' p n ps := fun j hj => by
  obtain ⟨g, h1, h2, h3⟩ := h j hj
  exact ⟨g, h1, h2, (hb.cell (p := ⟨g, j, none⟩) h2).trans h3⟩
set_option maxRecDepth 100000 in
set_option maxHeartbeats 2000000 in
theorem it90_in (m : Nat) (hm : 1 ≤ m) (lr Bb N0 n c : Nat) (p : Option Addr) (ps : Nat → Nat) (hn : n ≤ 1000) (hps : Hid (∀ j, j < n → ps j ≤ 1000)) (J Jx : List (Pl n) → World → Prop)
    (hY : ∀ pre x W, J pre W → pre.length < n → YieldAt Fence.wide (m - 1) Tryz.prog lr (bkE ps n x) W fun e W' =>
      (e = .returned (.bool true) ∧ J (pre ++ [x]) W' ∧ Keep3 N0 Bb Bb W W') ∨ (e = .returned (.bool false) ∧ Jx (pre ++ [x]) W'))
    (W : World) (hBb : W.cell? ⟨Bb, 0, none⟩ = some (.slice p n c)) (hr : RowN N0 W p n ps) (h0 : J [] W) :
    CallsIn Fence.wide m Tryz.prog 90 #[.func (.yield lr) #[] #[], .pointer (some ⟨Bb, 0, none⟩)] W fun e W' => (∃ v, e = .returned v) ∧
      ((∃ ys, ys.map (·.1) = List.range n ∧ J ys W') ∨ (∃ pre, pre.map (·.1) = List.range pre.length ∧ Jx pre W')) := by
  have hni : (n : Int) ≤ 1000 := by omega
  have HR := Lib.hid hr
  clear hr
  refine callsIn_of_wp Tryz.func90 rfl trivial ?_ rfl
  simp only [Tryz.ntmps90, List.size_toArray, List.length_cons, List.length_nil, Nat.reduceAdd, Nat.reduceSub, Array.replicate_succ, Array.replicate_zero, List.push_toArray, List.append_toArray, List.nil_append, List.cons_append]
  gi_wp2
  have HJ0 := Lib.hid h0
  gi_loopw [3] (fun tv wr => ∃ (t : Int) (i : Nat) (pre : List (Pl n)), i ≤ n ∧ tv = .int .i64 t ∧ t = (n : Int) - 1 - (i : Int) ∧ Hid (pre.map (·.1) = List.range i) ∧ Hid (J pre wr) ∧ Hid (Keep3 N0 Bb Bb W wr)) (fun tv _ => (intOf tv + 1).toNat)
  case atStart => exact ⟨_, 0, [], Nat.zero_le _, rfl, by simp, rfl, HJ0, Lib.hid (Keep3.refl _ _ _ _)⟩
  case round =>
    obtain ⟨t, i, pre, hin, rfl, ht, HP, HJ, HB⟩ := hrel
    have hcb := HB.out.c1.trans hBb
    by_cases hilt : i < n
    · obtain ⟨k, HK⟩ : ∃ k, Hid (k = n - 1 - i) := ⟨_, rfl⟩
      obtain rfl : t = (k : Int) := by rw [ht, HK.out]; omega
      clear ht
      have hkn : (k : Int) < (n : Int) := by rw [HK.out]; omega
      have hk0 : 0 ≤ (k : Int) := by omega
      obtain ⟨g, rfl, -, hcell⟩ := HR.out.keep HB.out.1 k (by omega)
      obtain ⟨x, HX⟩ : ∃ x, Hid (x = ps k) := ⟨_, rfl⟩
      rw [← HX.out] at hcell
      have hxi : (x : Int) ≤ 1000 := by have := hps.out k (by omega); rw [HX.out]; omega
      have hpl : pre.length = i := by
        have h := congrArg List.length HP.out
        rw [List.length_map, List.length_range] at h; omega
      obtain ⟨fn, tmps, assign, body, hy, hRo⟩ := hY pre ⟨i, hilt⟩ wr HJ.out (by omega)
      have hy2 : (Instr.yield lr #[.int .i64 (k : Int), .int .i64 (x : Int)]).run Tryz.prog wr = .ok (.round lr fn tmps assign body) wr := by
        rw [HX.out, HK.out]; exact hy
      have HPX : Hid ((pre ++ [(⟨i, hilt⟩ : Pl n)]).map (fun y => y.1) = List.range (pre ++ [(⟨i, hilt⟩ : Pl n)]).length) := Lib.hid (by rw [List.length_append, hpl, List.map_append, HP.out]; exact List.range_succ.symm)
      clear hy hpl
      gi_wp2
      refine hRo.mono ?_
      rintro e W3 (⟨rfl, hJ3, hk3⟩ | ⟨rfl, hJx3⟩)
      · have HB3 := Lib.hid (HB.out.trans hk3)
        have HJ3 := Lib.hid hJ3
        clear hJ3 hk3 hy2
        gi_wp2
        go_roundw
        case rel => exact ⟨(k : Int) - 1, i + 1, pre ++ [⟨i, hilt⟩], by omega, by go_num, by have := HK.out; omega, Lib.hid (by rw [List.map_append, HP.out, List.range_succ]; rfl), HJ3, HB3⟩
        case measure => simp [intOf]
      · gi_wp2
        refine bodyPost_ret (results_none rfl _ _ _) rfl ?_
        exact ⟨⟨_, rfl⟩, .inr ⟨_, HPX.out, hJx3⟩⟩
    · obtain rfl : i = n := by omega
      obtain rfl : t = -1 := by omega
      gi_wp2
      go_end0
      exact ⟨⟨_, rfl⟩, .inl ⟨pre, HP.out, HJ.out⟩⟩
theorem back_stops (m : Nat) (hm : 1 ≤ m) (Bb N0 n c : Nat) (p : Option Addr) (ps : Nat → Nat) (hn : n ≤ 1000) (hps : Hid (∀ j, j < n → ps j ≤ 1000)) (w : World) (hN : N0 ≤ w.heap.size) (hB : Bb < w.heap.size)
    (hBb : w.cell? ⟨Bb, 0, none⟩ = some (.slice p n c)) (hr : RowN N0 w p n ps) :
    SeqStopsK Fence.wide m Tryz.prog 90 #[.pointer (some ⟨Bb, 0, none⟩)] (bkE ps n) (Keep3 N0 Bb Bb) (fun ys => ys.map (·.1) = List.range n) (fun pre => pre.map (·.1) = List.range pre.length) n w := fun lr J Jx W hW _ _ hY h0 =>
  it90_in m hm lr Bb N0 n c p ps hn hps J Jx hY W ((hW.cell (p := ⟨Bb, 0, none⟩) hB).trans hBb) (hr.keep (hW.mono hN)) h0
end Go.Proofs.YtpbcdmefngbjjaaGreatDoor
namespace Go.Proofs.YtpbcdmefngbjjaaGreatDoor
open Go.RowKit Go.Maps Go.ChangeShapes Go.MapKept
open Go.WideElems (Fit rd rg pl rd_key rd_val rg_of rd_mk rd_stay)
open Go.ChangeMaps (setBlock heap_setBlock_same heap_setBlock_other putKey notKey)
section
variable {H : Type} {P : Program} {k : TypeId} {w : World} {base : Nat} {e : TypeId} {q : IntKind} {b n : Nat} {D : DataW H}
/-- What stands behind the entry's operation: whatever is done to the entry's own row and to new blocks alone, the store leaves the groups. -/
def EntryBack (P : Program) (t k : TypeId) (base : Nat) (e : TypeId) (q : IntKind) (b n : Nat) (D : DataW H) (kl : Lit) (v : Value) (st : Nat) (w w1 : World) : Prop :=
  ∀ (w2 : World) (v' : Value) (zs' : List Int), w1.grownBy w2 v.ownBlock → w2.ownsInts base e q v' zs' → zs'.length ≤ n + 1 → (v'.ownBlock = v.ownBlock ∨ ∃ g, v'.ownBlock = some g ∧ w.heap.size ≤ g) →
    ∃ w3, (Instr.entryStore t (.map (some b)) (goInt st) v').run P w2 = .ok () w3 ∧ w3.ownsGroups P k base e q b (n + 1) (D.put kl (rowDatum q v' zs')) ∧ w2.grownBy w3 (some b)
theorem groups_entry {t E : TypeId} {key : Value} {kl : Lit} (h : w.ownsGroups P k base e q b n D) (KL : WideMaps.KeyLaw P k) (ht : P.underlying t = some (.map k E)) (hz : ∀ u : World, (zeroValue E).run P u = .ok (.slice none 0 0) u) (hn : n < maxLen) (hkey : keyOf P k key = some kl) :
    ∃ (v : Value) (zs : List Int) (st : Nat) (w1 : World), (Instr.mapEntry t (.map (some b)) key).run P w = .ok (.tuple #[v, goInt st]) w1 ∧ w.grownBy w1 (some b) ∧ D.atKey kl .nil = rowDatum q v zs ∧ w1.ownsInts base e q v zs ∧ zs.length ≤ n ∧ w1.heap.size = w.heap.size ∧ EntryBack P t k base e q b n D kl v st w w1 := by
  have K := Keyed.of_law KL
  have hO := h
  obtain ⟨es, clock, hb, F, hs, rfl, hbb, hlen, hap⟩ := h
  obtain ⟨v0, st, es1, clock1, hrun, hv0, hst⟩ := Go.WideElems.entry_then_store KL ht hz hb F hkey
  have hblt : b < w.heap.size := (Array.getElem?_eq_some_iff.1 hb).1
  have hg1 : w.grownBy (setBlock w b (.map es1 clock1)) (some b) := ⟨rfl, rfl, rfl, by simp [setBlock], fun i _ hi => heap_setBlock_other hb _ (fun e1 => hi (by rw [e1]))⟩
  have hb1 : (setBlock w b (.map es1 clock1)).heap[b]? = some (.map es1 clock1) := heap_setBlock_same hb _
  have owned : ∀ x ∈ es.toList, ∃ zs, w.ownsInts base e q x.val zs := fun x hx => by
    obtain ⟨y, hy⟩ := F.reads x hx
    obtain ⟨z, hz1, _⟩ := rd_val hy
    obtain ⟨zs, ho, _⟩ := rowElem_inv hz1
    exact ⟨zs, ho⟩
  have own_ne : ∀ {W : World} {u : Value} {ys : List Int}, W.ownsInts base e q u ys → u.ownBlock = none ∨ u.ownBlock ≠ some b := fun {W u ys} ho => by
    cases hu : u.ownBlock with
    | none => exact Or.inl rfl
    | some g =>
      refine Or.inr (fun e1 => ?_)
      have := (ho.1.lt g hu).1
      cases e1
      omega
  -- what the entry holds
  obtain ⟨zs, ho, hat, hzl, hap0⟩ : ∃ zs, w.ownsInts base e q v0 zs ∧ (DataW.map ((es.toList.map (rg P k (rowElem (H := H) w base e q))).foldr DataW.insert [])).atKey kl .nil = rowDatum q v0 zs ∧ zs.length ≤ n ∧ (∀ x ∈ es.toList, x.key ≠ key → x.val.ownBlock = none ∨ x.val.ownBlock ≠ v0.ownBlock) := by
    rcases Maps.fit_look false K ht (hz w) hb F hkey with ⟨hrun2, hno, hat⟩ | ⟨e0, y, hm0, h3, hrun2, hR, hat, _⟩
    · rcases hv0 with ⟨e0, hm, hk0, _⟩ | ⟨_, rfl⟩
      · exact absurd hk0 (hno e0 hm)
      · exact ⟨[], World.ownsInts_nil _ _ _ _, hat _, Nat.zero_le _, fun x _ _ => by cases x.val.ownBlock <;> simp [Value.ownBlock]⟩
    · rcases hv0 with ⟨e1, hm1, hk1, rfl⟩ | ⟨hno, _⟩
      · have huniq : ∀ x ∈ es.toList, x.key = key → x.val = e0.val := fun x hx hxk => by
          rcases K.find w hkey es.toList F.keys with ⟨_, h2⟩ | ⟨j, ej, h1, h2, h3'⟩
          · exact absurd h3 (h2 e0 hm0)
          · have hpw : es.toList.Pairwise (fun a b => a.key ≠ b.key) := List.pairwise_map.1 F.stamped.2.2
            obtain ⟨i, hi, hxe⟩ := List.getElem_of_mem hx
            obtain ⟨i0, hi0, hxe0⟩ := List.getElem_of_mem hm0
            by_cases e : i = i0
            · subst e; rw [← hxe, ← hxe0]
            · exfalso
              rcases Nat.lt_or_gt_of_ne e with hlt | hlt
              · exact (List.pairwise_iff_getElem.1 hpw i i0 hi hi0 hlt) (by rw [hxe, hxe0, hxk, h3])
              · exact (List.pairwise_iff_getElem.1 hpw i0 i hi0 hi hlt) (by rw [hxe, hxe0, hxk, h3])
        obtain ⟨zs, ho, rfl⟩ := rowElem_inv hR
        have e10 := huniq e1 hm1 hk1
        rw [e10]
        exact ⟨zs, ho, hat _, hlen e0 hm0 zs ho, fun x hx hne => hap x hx e0 hm0 (by rw [h3]; exact hne)⟩
      · exact absurd h3 (hno e0 hm0)
  refine ⟨v0, zs, st, _, hrun, hg1, hat, ho.kept hg1 (own_ne ho), hzl, by simp [setBlock], ?_⟩
  intro w2 v' zs' hg hown' hl' hloc
  have hw2 : w2.heap[b]? = some (.map es1 clock1) := (hg.block b (by rw [show (setBlock w b (.map es1 clock1)).heap.size = w.heap.size by simp [setBlock]]; exact hblt) (fun e1 => (own_ne ho).elim (fun h => by rw [h] at e1; cases e1) (fun h => h e1.symm))).trans hb1
  obtain ⟨es', clock', hrun2, hup⟩ := hst w2 v' hw2
  have hg3 : w2.grownBy (setBlock w2 b (.map es' clock')) (some b) := ⟨rfl, rfl, rfl, by simp [setBlock], fun i _ hi => heap_setBlock_other hw2 _ (fun e1 => hi (by rw [e1]))⟩
  have keepx : ∀ x ∈ es.toList, x.key ≠ key → ∀ zs, w.ownsInts base e q x.val zs → (setBlock w2 b (.map es' clock')).ownsInts base e q x.val zs := fun x hx hne zs hx0 =>
    (((hx0.kept hg1 (own_ne hx0)).kept hg (hap0 x hx hne)).kept hg3 (own_ne hx0))
  have hown3 : (setBlock w2 b (.map es' clock')).ownsInts base e q v' zs' := hown'.kept hg3 (own_ne hown')
  have hs1 : ∀ x ∈ es.toList, x.key ≠ key → ∀ z, rowElem (H := H) w base e q x.val = some z → rowElem (setBlock w2 b (.map es' clock')) base e q x.val = some z := by
    intro x hx hne z hz1
    obtain ⟨ys, hys, rfl⟩ := rowElem_inv hz1
    exact rowElem_mk (keepx x hx hne ys hys)
  obtain ⟨es'', clock'', hrun3, F', hput, _, _, hwho⟩ := Maps.fit_store (R' := rowElem (setBlock w2 b (.map es' clock')) base e q) K ht hb F (Nat.lt_of_le_of_lt hs hn) hs1 hkey (rowElem_mk hown3)
  have hsame : es'' = es' ∧ clock'' = clock' := by
    have h := hup.symm.trans hrun3
    have h2 : setBlock w b (.map es' clock') = setBlock w b (.map es'' clock'') := by simpa using h
    have h3 : (setBlock w b (.map es' clock')).heap[b]? = (setBlock w b (.map es'' clock'')).heap[b]? := by rw [h2]
    rw [heap_setBlock_same hb, heap_setBlock_same hb] at h3
    simp only [Option.some.injEq, Obj.map.injEq] at h3
    exact ⟨h3.1.symm, h3.2.symm⟩
  obtain ⟨rfl, rfl⟩ := hsame
  have old_new : ∀ x ∈ es.toList, x.key ≠ key → x.val.ownBlock = none ∨ x.val.ownBlock ≠ v'.ownBlock := by
    intro x hx hne
    rcases hloc with h1 | ⟨g, h1, h2⟩
    · rw [h1]
      exact hap0 x hx hne
    · cases hx' : x.val.ownBlock with
      | none => exact Or.inl rfl
      | some gx =>
        obtain ⟨ys, hys⟩ := owned x hx
        have := (hys.1.lt gx hx').2
        refine Or.inr (fun e1 => ?_)
        rw [h1] at e1
        cases e1
        omega
  refine ⟨_, hrun2, ⟨es'', clock'', heap_setBlock_same hw2 _, F', ?_, ?_, hbb, ?_, ?_⟩, hg3⟩
  · have e1 : es''.size = ((es''.toList.map (rg P k (rowElem (H := H) (setBlock w2 b (.map es'' clock'')) base e q))).foldr DataW.insert []).length := by rw [length_sorted]; simp
    rw [e1, hput]
    unfold putKey
    rw [length_insert]
    have e2 := List.length_filter_le (notKey kl) ((es.toList.map (rg P k (rowElem (H := H) w base e q))).foldr DataW.insert [])
    rw [length_sorted] at e2
    simp at e2
    omega
  · rw [DataW.put_eq, hput]
  · intro x hx ys hys
    rcases hwho x hx with ⟨hx0, hne⟩ | ⟨_, hval⟩
    · obtain ⟨ys0, ho0⟩ := owned x hx0
      have := hlen x hx0 ys0 ho0
      rw [hys.unique (keepx x hx0 hne ys0 ho0)]
      omega
    · rw [hval] at hys
      rw [hys.unique hown3]
      exact hl'
  · intro x hx y hy hne
    rcases hwho x hx with ⟨hx0, hxk⟩ | ⟨hxk, hxv⟩ <;> rcases hwho y hy with ⟨hy0, hyk⟩ | ⟨hyk, hyv⟩
    · exact hap x hx0 y hy0 hne
    · rw [hyv]
      exact old_new x hx0 hxk
    · rw [hxv]
      cases hv' : v'.ownBlock with
      | none => exact Or.inl rfl
      | some g =>
        refine Or.inr (fun e1 => ?_)
        rcases old_new y hy0 hyk with h | h
        · rw [h] at e1
          cases e1
        · exact h (by rw [hv', e1])
    · exact absurd (hxk.trans hyk.symm) hne
end
/-- The entry at the operation. -/
theorem wpList_entry {H : Type} {P : Program} (w : World) {ops : Array Oper} {rest : List Oper} {o : Oper} {a : Act} {Q : Exit → Act → World → Prop}
    (hg : o.guard = none) (m x : Operand) (t : TypeId) (hop : o.op = Op.mapEntry t m x)
    (k E e : TypeId) (q : IntKind) (KL : WideMaps.KeyLaw P k) (ht : P.underlying t = some (.map k E)) (hz : ∀ u : World, (zeroValue E).run P u = .ok (.slice none 0 0) u) (base b n : Nat) (D : DataW H)
    (hm : a.eval m = .map (some b)) (hown : w.ownsGroups P k base e q b n D) (hn : n < maxLen) (key : Value) (kl : Lit) (hx : a.eval x = key) (hkey : keyOf P k key = some kl)
    (hK : ∀ (v : Value) (zs : List Int) (st : Nat) (w1 : World), w.grownBy w1 (some b) → D.atKey kl .nil = rowDatum q v zs → w1.ownsInts base e q v zs → zs.length ≤ n → w1.heap.size = w.heap.size → EntryBack P t k base e q b n D kl v st w w1 → wpList P ops Q rest (a.put o.dst (.tuple #[v, goInt st])) w1) :
    wpList P ops Q (o :: rest) a w := by
  refine wpList_plain hg fun K' hK' => ?_
  obtain ⟨v, zs, st, w1, hrun, h1, h2, h3, h4, h5, h6⟩ := groups_entry hown KL ht hz hn hkey
  unfold Oper.wp
  simp [execOp, hop, hm, hx, hrun, Result.andThen]
  exact hK' _ _ (hK v zs st w1 h1 h2 h3 h4 h5 h6)
/-- The store of the entry at the operation. -/
theorem wpList_entryStore {H : Type} {P : Program} (w : World) {ops : Array Oper} {rest : List Oper} {o : Oper} {a : Act} {Q : Exit → Act → World → Prop}
    (hg : o.guard = none) (m s x : Operand) (t : TypeId) (hop : o.op = Op.entryStore t m s x)
    {w0 w1 : World} {k : TypeId} {base : Nat} {e : TypeId} {q : IntKind} {b n : Nat} {D : DataW H} {kl : Lit} {u v' : Value} {st : Nat} {zs' : List Int}
    (hback : EntryBack P t k base e q b n D kl u st w0 w1) (hm : a.eval m = .map (some b)) (hs : a.eval s = goInt st) (hx : a.eval x = v')
    (hgr : w1.grownBy w u.ownBlock) (hown' : w.ownsInts base e q v' zs') (hl' : zs'.length ≤ n + 1) (hloc : v'.ownBlock = u.ownBlock ∨ ∃ g, v'.ownBlock = some g ∧ w0.heap.size ≤ g)
    (hK : ∀ w2, w2.ownsGroups P k base e q b (n + 1) (D.put kl (rowDatum q v' zs')) → w.grownBy w2 (some b) → wpList P ops Q rest (a.put o.dst undef) w2) :
    wpList P ops Q (o :: rest) a w := by
  refine wpList_plain hg fun K' hK' => ?_
  obtain ⟨w2, hrun, r1, r2⟩ := hback w v' zs' hgr hown' hl' hloc
  unfold Oper.wp
  simp [execOp, hop, hm, hs, hx, hrun, Result.andThen]
  exact hK' _ _ (hK w2 r1 r2)
end Go.Proofs.YtpbcdmefngbjjaaGreatDoor
namespace Go.Proofs.YtpbcdmefngbjjaaGreatDoor
open Go.RowKit Go.Maps Go.ChangeShapes Go.WideMaps
theorem arr84 : ArrKey Tryz.prog 84 5 4 := ⟨Tryz.underlying84, by kernel_rfl, by kernel_rfl, by kernel_rfl⟩
theorem law84 : KeyLaw Tryz.prog 84 := arr84.law
theorem zero86 (w : World) : (zeroValue 86).run Tryz.prog w = .ok (.slice none 0 0) w := by kernel_rfl
theorem some_types : ∃ m, Tryz.prog.types.size = m + 1 := ⟨Tryz.prog.types.size - 1, by
  have : 0 < Tryz.prog.types.size := of_decide_eq_true (by kernel_rfl)
  omega⟩
theorem wf_u8 (x : UInt8) : (Lit.int .u8 (x.toNat : Int)).wf = true := by
  have := x.toNat_lt
  have h1 : IntKind.u8.min = 0 := by decide
  have h2 : IntKind.u8.max = 255 := by decide
  simp only [Lit.wf, h1, h2]
  simp
  omega
theorem byteBE (x : UInt8) : Lit.keyBytes (.int .u8 (x.toNat : Int)) = [x] := by
  have := x.toNat_lt
  have e : (((x.toNat : Nat) : Int) % 2 ^ 8).toNat = x.toNat := by omega
  show bytesBE 1 (((x.toNat : Nat) : Int) % 2 ^ 8).toNat = [x]
  rw [e]
  simp only [bytesBE, bytesLE, List.reverse_cons, List.reverse_nil, List.nil_append]
  rw [Nat.mod_eq_of_lt this, UInt8.ofNat_toNat]
theorem keyOf_quad (x0 x1 x2 x3 : UInt8) : keyOf Tryz.prog 84 (.agg #[.int .u8 (x0.toNat : Int), .int .u8 (x1.toNat : Int), .int .u8 (x2.toNat : Int), .int .u8 (x3.toNat : Int)]) = some (.string [x0, x1, x2, x3]) := by
  have A := arr84
  have hkt := A.keyType some_types
  obtain ⟨m, hm⟩ := some_types
  have w0 := wf_u8 x0
  have w1 := wf_u8 x1
  have w2 := wf_u8 x2
  have w3 := wf_u8 x3
  have hk : keyBytes [.int .u8 (x0.toNat : Int), .int .u8 (x1.toNat : Int), .int .u8 (x2.toNat : Int), .int .u8 (x3.toNat : Int)] = [x0, x1, x2, x3] := by
    simp only [keyBytes, List.flatMap_cons, List.flatMap_nil, byteBE, List.append_nil, List.cons_append, List.nil_append]
  rw [← hk]
  unfold keyOf
  simp only [A.hu]
  rw [if_pos (by simp [hkt, Value.formed, A.hu, A.size]), hm]
  unfold Program.keyLits
  simp only [A.hu, Value.cells]
  rw [if_pos (by rw [A.size]; rfl), show List.range 4 = [0, 1, 2, 3] from rfl, List.mapM_cons, List.mapM_cons, List.mapM_cons, List.mapM_cons, List.mapM_nil]
  simp [A.one, Program.keyLits, Tryz.underlying5, w0, w1, w2, w3]
theorem keyOf_at (l : List UInt8) (i : Nat) : keyOf Tryz.prog 84 (keyV l i) = some (.string (k4 l i)) := keyOf_quad _ _ _ _
def plI (l : List UInt8) (m : Nat) (x : List UInt8) : List Int := (pls l m x).map Int.ofNat
def itm {H : Type} : DataW H → List (DataW H)
  | .slice xs _ => xs
  | _ => []
theorem itm_row {H : Type} {w : World} {base : Nat} {e : TypeId} {v : Value} {zs : List Int} (h : w.ownsInts base e .i64 v zs) : itm (rowDatum (H := H) .i64 v zs) = lits .i64 zs := by
  rcases h.datum (H := H) with ⟨h1, rfl⟩ | h1 <;> rw [h1] <;> rfl
theorem lits_inj {H : Type} {a b : List Int} (h : (lits (H := H) .i64 a) = lits .i64 b) : a = b := by
  unfold lits at h
  refine (List.map_inj_right fun x y hxy => ?_).1 h
  simpa using hxy
/-- The map of the places of the first m four bytes. -/
structure Gm (l : List UInt8) (m : Nat) (D : DataW Unit) : Prop where
  map : IsMap D
  items : ∀ x : List UInt8, itm (D.atKey (.string x) .nil) = lits .i64 (plI l m x)
theorem Gm.start (l : List UInt8) : Gm l 0 (.map []) := ⟨isMap_empty, fun _ => rfl⟩
theorem Gm.group {l : List UInt8} {m : Nat} {D : DataW Unit} (h : Gm l m D) {w : World} {base : Nat} {e : TypeId} {v : Value} {zs : List Int} {x : List UInt8} (ho : w.ownsInts base e .i64 v zs) (hat : D.atKey (.string x) .nil = rowDatum .i64 v zs) : zs = plI l m x := by
  have e := h.items x
  rw [hat, itm_row ho] at e
  exact lits_inj e
theorem Gm.put {l : List UInt8} {m : Nat} {D : DataW Unit} (h : Gm l m D) {w : World} {base : Nat} {e : TypeId} {v : Value} {zs : List Int} (hz : zs = plI l m (k4 l m)) (ho : w.ownsInts base e .i64 v (zs ++ [(m : Int)])) : Gm l (m + 1) (D.put (.string (k4 l m)) (rowDatum .i64 v (zs ++ [(m : Int)]))) := by
  subst hz
  have hk : WideAt.IsKeyLit (.string (k4 l m)) := by trivial
  refine ⟨h.map.put _ _, fun x => ?_⟩
  by_cases e : x = k4 l m
  · subst e
    rw [atKey_put_same h.map hk, itm_row ho, plI, plI, pls_succ, if_pos rfl, List.map_append]; rfl
  · rw [atKey_put_other (by simpa using e), h.items x, plI, plI, pls_succ, if_neg (fun h1 => e h1.symm)]
end Go.Proofs.YtpbcdmefngbjjaaGreatDoor
namespace Go.Proofs.YtpbcdmefngbjjaaGreatDoor
open Go.RowKit Go.Maps Go.ChangeShapes
open Go.Lib
variable {base b n : Nat} {D : DataW Unit} {W W' : World}
theorem info3 : (Tryz.prog.info? 3).map (fun i => (i.zero, i.size, i.bytes)) = some (some (.int .i64 0), 1, 8) := by kernel_rfl
theorem groups_made (w : World) (base : Nat) (hb : w.heap.size < base) : (w.alloc (.map #[] 0)).ownsGroups (H := Unit) Tryz.prog 84 base 3 .i64 w.heap.size 0 (.map []) :=
  ⟨#[], 0, (MapKept.heap_alloc w _).1, ⟨by simp, MapKept.stamped_empty 0, by simp⟩, Nat.le_refl _, rfl, hb, by simp, by simp⟩
theorem groups_next (h : W.ownsGroups Tryz.prog 84 base 3 .i64 b n D) (hb : Below W.heap.size W W') : W'.ownsGroups Tryz.prog 84 base 3 .i64 b n D :=
  h.kept (grown_below hb none) (by simp) (fun _ _ _ x _ => by cases x.val.ownBlock <;> simp)
theorem groups_set (h : W.ownsGroups Tryz.prog 84 base 3 .i64 b n D) {g k : Nat} (hg : g < base) (hb : b ≠ g) (v : Value) : (W.setCell ⟨g, k, none⟩ v).ownsGroups Tryz.prog 84 base 3 .i64 b n D :=
  h.kept (row := some g) ⟨rfl, rfl, rfl, by simp, fun i _ hi => Below.heap_setCell _ _ _ _ (fun e => hi (by rw [e]))⟩ (by intro e; cases e; exact hb rfl) (h.rowsAbove (fun j e => by cases e; exact hg))
/-- The index as newIndex leaves it. -/
def IdxG (l : List UInt8) (b0 off len c : Nat) (w : World) (e : Ending) (w1 : World) : Prop :=
  Below w.heap.size w w1 ∧ ∃ (b base : Nat) (D : DataW Unit), e = .returned (.agg #[.slice (some ⟨b0, off, none⟩) len c, .map (some b)]) ∧ Gm l (len - 3) D ∧ w1.ownsGroups Tryz.prog 84 base 3 .i64 b (len - 3) D
theorem new_kept {K w7 : World} {x : Value} {t : TypeId} {N : Nat} (hg : (K.alloc (.cells #[x] t)).grownBy w7 (some b)) (hN : K.heap.size = N) (hb : N ≠ b) : ∀ j u, [x][j]? = some u → w7.cell? ((⟨N, 0, none⟩ : Addr).add j) = some u := fun j u hj => by
  subst hN
  have h := hg.block K.heap.size (by simp) (by intro e; cases e; exact hb rfl)
  rw [World.cell?_of_block (a := (⟨K.heap.size, 0, none⟩ : Addr).add j) (w := K.alloc (.cells #[x] t)) (by rw [show ((⟨K.heap.size, 0, none⟩ : Addr).add j).block = K.heap.size by unfold Addr.add; split <;> rfl]; exact h)]
  exact cell_one_new _ _ _ j u hj
/-- A round of the index: blocks that stay, through a map's entry, an append and the entry's store. -/
theorem round_kept {w5 w6 w7 w8 w9 : World} {v : Value} {zs : List Int} (h6 : Below w5.heap.size w5 w6) (hg7 : w6.grownBy w7 (some b)) (ho : w7.ownsInts base 3 .i64 v zs) (hg8 : w7.grownBy w8 v.ownBlock) (hg9 : w8.grownBy w9 (some b)) {k : Nat} (hk : k < base) (hk5 : k < w5.heap.size) (hkb : k ≠ b) : w9.heap[k]? = w5.heap[k]? := by
  have h1 := h6.block k hk5
  have h2 := hg7.block k (Nat.lt_of_lt_of_le hk5 h6.size) (by intro e; cases e; exact hkb rfl)
  have h3 := hg8.block k (Nat.lt_of_lt_of_le (Nat.lt_of_lt_of_le hk5 h6.size) hg7.size) (fun e => by have := (ho.1.lt k e.symm).1; omega)
  have h4 := hg9.block k (Nat.lt_of_lt_of_le (Nat.lt_of_lt_of_le (Nat.lt_of_lt_of_le hk5 h6.size) hg7.size) hg8.size) (by intro e; cases e; exact hkb rfl)
  exact h4.trans (h3.trans (h2.trans h1))
set_option maxRecDepth 100000 in
set_option maxHeartbeats 4000000 in
theorem index_any (b0 off len c : Nat) (l : List UInt8) (w : World) (hl : len ≤ 1000) (h : Came w (some ⟨b0, off, none⟩) len c l) :
    Calls Tryz.prog 48 #[.slice (some ⟨b0, off, none⟩) len c] w (IdxG l b0 off len c w) := by
  have H := Lib.hid h
  have il : (len : Int) ≤ 1000 := by omega
  have hmm := @run_makeMap Tryz.prog
  obtain ⟨i0, hi, hz0, hz1, hz2⟩ := info_parts info3
  obtain ⟨W0, HW0⟩ : ∃ W0, Hid (((w.alloc (.cells #[.slice none 0 0, .map none] 61)).alloc (.map #[] 0)).alloc (.cells #[.slice (some ⟨b0, off, none⟩) len c, .map (some (w.heap.size + 1))] 61) = W0) := ⟨_, Lib.hid rfl⟩
  have HB0 : Hid (Below w.heap.size w W0) := Lib.hid (by
    rw [← HW0.out]
    exact (((Below.refl _ w).alloc (Nat.le_refl _) _).alloc (by simp) _).alloc (by simp; omega) _)
  have HS0 : w.heap.size + 3 ≤ W0.heap.size := by rw [← HW0.out]; simp
  have HX0 : Hid (W0.heap[w.heap.size]? = some (.cells #[.slice none 0 0, .map none] 61 (0, 0)) ∧ W0.heap[w.heap.size + 1 + 1]? = some (.cells #[.slice (some ⟨b0, off, none⟩) len c, .map (some (w.heap.size + 1))] 61 (0, 0))) := Lib.hid (by
    rw [← HW0.out]
    constructor
    · exact (Below.heap_alloc _ _ _ (by simp; omega)).trans ((Below.heap_alloc _ _ _ (by simp)).trans (World.alloc_heap_new w _))
    · have := World.alloc_heap_new ((w.alloc (.cells #[.slice none 0 0, .map none] 61)).alloc (.map #[] 0)) (.cells #[.slice (some ⟨b0, off, none⟩) len c, .map (some (w.heap.size + 1))] 61); rwa [World.size_alloc, World.size_alloc] at this)
  have HG0 : Hid (W0.ownsGroups (H := Unit) Tryz.prog 84 (w.heap.size + 3) 3 .i64 (w.heap.size + 1) 0 (.map [])) := Lib.hid (by
    have h1 := groups_made (w.alloc (.cells #[.slice none 0 0, .map none] 61)) (w.heap.size + 3) (by simp)
    rw [World.size_alloc] at h1
    rw [← HW0.out]
    exact groups_next h1 ((Below.refl _ _).alloc (Nat.le_refl _) _))
  clear h
  go_enter Tryz.func48, Tryz.ntmps48
  go_wp2_with fail
  rw [HW0.out]
  clear hmm
  go_loopw [4] (fun pv wr => ∃ (m : Nat) (D : DataW Unit), m ≤ len - 3 ∧ pv = .int .i64 m ∧ Hid (wr.ownsGroups Tryz.prog 84 (w.heap.size + 3) 3 .i64 (w.heap.size + 1) m D) ∧ Hid (Gm l m D) ∧ Hid (Below w.heap.size w wr) ∧ w.heap.size + 3 ≤ wr.heap.size ∧ Hid (wr.heap[w.heap.size]? = some (.cells #[.slice none 0 0, .map none] 61 (0, 0)) ∧ wr.heap[w.heap.size + 1 + 1]? = some (.cells #[.slice (some ⟨b0, off, none⟩) len c, .map (some (w.heap.size + 1))] 61 (0, 0)))) (fun pv _ => len - (Go.RowKit.intOf pv).toNat)
  case atStart => exact ⟨0, _, Nat.zero_le _, rfl, HG0, Lib.hid (Gm.start l), HB0, HS0, HX0⟩
  case round =>
    obtain ⟨m, D, hm, rfl, hown, hG, HB, hwr, HX⟩ := hrel
    have c0 : wr.cell? ⟨w.heap.size + 1 + 1, 0, none⟩ = some (.slice (some ⟨b0, off, none⟩) len c) := by simp [World.cell?, HX.out.2]
    have c1 : wr.cell? ⟨w.heap.size + 1 + 1, 1, none⟩ = some (.map (some (w.heap.size + 1))) := by simp [World.cell?, HX.out.2]
    by_cases hlt : m + 4 ≤ len
    · have ilt : (m : Int) + 4 ≤ (len : Int) := by omega
      obtain ⟨x0, x1, x2, x3, HQ⟩ : ∃ x0 x1 x2 x3 : Nat, Hid (keyV l m = .agg #[.int .u8 (x0 : Int), .int .u8 (x1 : Int), .int .u8 (x2 : Int), .int .u8 (x3 : Int)]) := ⟨_, _, _, _, Lib.hid rfl⟩
      have HKC : Hid (Calls Tryz.prog 71 #[.agg #[.slice (some ⟨b0, off, none⟩) len c, .map (some (w.heap.size + 1))], .int .i64 (m : Int)] wr fun e w' => Below wr.heap.size wr w' ∧ e = .returned (.agg #[.int .u8 (x0 : Int), .int .u8 (x1 : Int), .int .u8 (x2 : Int), .int .u8 (x3 : Int)])) := Lib.hid (by
        rw [← HQ.out]
        exact key_any b0 off len c m (some (w.heap.size + 1)) l wr hl hlt ⟨H.out.hl, H.out.hc, H.out.lies.below HB.out⟩)
      have HKEY : Hid (keyOf Tryz.prog 84 (.agg #[.int .u8 (x0 : Int), .int .u8 (x1 : Int), .int .u8 (x2 : Int), .int .u8 (x3 : Int)]) = some (.string (k4 l m))) := Lib.hid (by rw [← HQ.out]; exact keyOf_at l m)
      have HWF : Hid ((Lit.int .i64 (m : Int)).wf = true) := Lib.hid (WalkArith.wf_i64 (by omega))
      go_wp2_with fail
      refine (HKC.out).mono ?_
      rintro e w5 ⟨hb5, rfl⟩
      have HB5 := Lib.hid hb5
      have hX5 : w5.heap[w.heap.size + 1 + 1]? = some (.cells #[.slice (some ⟨b0, off, none⟩) len c, .map (some (w.heap.size + 1))] 61 (0, 0)) := (hb5.block _ (by omega)).trans HX.out.2
      have hs5 : wr.heap.size ≤ w5.heap.size := hb5.size
      have d0 : w5.cell? ⟨w.heap.size + 1 + 1, 0, none⟩ = some (.slice (some ⟨b0, off, none⟩) len c) := by simp [World.cell?, hX5]
      have d1 : w5.cell? ⟨w.heap.size + 1 + 1, 1, none⟩ = some (.map (some (w.heap.size + 1))) := by simp [World.cell?, hX5]
      have HB6 : Hid (Below w5.heap.size w5 (w5.alloc (.cells #[.int .u8 (x0 : Int), .int .u8 (x1 : Int), .int .u8 (x2 : Int), .int .u8 (x3 : Int)] 84))) := Lib.hid ((Below.refl _ _).alloc (Nat.le_refl _) _)
      have HB7 : Hid (Below w5.heap.size w5 ((w5.alloc (.cells #[.int .u8 (x0 : Int), .int .u8 (x1 : Int), .int .u8 (x2 : Int), .int .u8 (x3 : Int)] 84)).alloc (.cells #[.int .i64 (m : Int)] 3))) := Lib.hid (HB6.out.trans (((Below.refl _ (w5.alloc (.cells #[.int .u8 (x0 : Int), .int .u8 (x1 : Int), .int .u8 (x2 : Int), .int .u8 (x3 : Int)] 84))).alloc (Nat.le_refl _) _).mono HB6.out.size))
      have hown6 : Hid (((w5.alloc (.cells #[.int .u8 (x0 : Int), .int .u8 (x1 : Int), .int .u8 (x2 : Int), .int .u8 (x3 : Int)] 84)).alloc (.cells #[.int .i64 (m : Int)] 3)).ownsGroups Tryz.prog 84 (w.heap.size + 3) 3 .i64 (w.heap.size + 1) m D) := Lib.hid (groups_next (groups_next hown.out HB5.out) HB7.out)
      have hs6 : Hid (w.heap.size + 3 ≤ ((w5.alloc (.cells #[.int .u8 (x0 : Int), .int .u8 (x1 : Int), .int .u8 (x2 : Int), .int .u8 (x3 : Int)] 84)).alloc (.cells #[.int .i64 (m : Int)] 3)).heap.size) := Lib.hid (Nat.le_trans hwr (Nat.le_trans hs5 HB7.out.size))
      have hNEW : Hid (∀ j u, [Value.int .i64 (m : Int)][j]? = some u → ((w5.alloc (.cells #[.int .u8 (x0 : Int), .int .u8 (x1 : Int), .int .u8 (x2 : Int), .int .u8 (x3 : Int)] 84)).alloc (.cells #[.int .i64 (m : Int)] 3)).cell? ((⟨(w5.alloc (.cells #[.int .u8 (x0 : Int), .int .u8 (x1 : Int), .int .u8 (x2 : Int), .int .u8 (x3 : Int)] 84)).heap.size, 0, none⟩ : Addr).add j) = some u) := Lib.hid (cell_one_new _ _ _)
      have e1 : (w5.alloc (.cells #[.int .u8 (x0 : Int), .int .u8 (x1 : Int), .int .u8 (x2 : Int), .int .u8 (x3 : Int)] 84)).cell? ⟨w.heap.size + 1 + 1, 1, none⟩ = some (.map (some (w.heap.size + 1))) := (World.cell?_of_block (a := ⟨w.heap.size + 1 + 1, 1, none⟩) (HB6.out.block (w.heap.size + 1 + 1) (by omega))).trans d1
      have hm1 : m ≤ 1000 := by omega
      have hbN : w5.heap.size + 1 ≠ w.heap.size + 1 := by omega
      clear hb5
      go_wp2_with (first
        | (refine wpList_entry (H := Unit) _ (o := ⟨some 25, _, _, _, _, _⟩) rfl (.tmp 20) (.tmp 21) 59 rfl 84 86 3 .i64 law84 Tryz.underlying59 zero86 (w.heap.size + 3) (w.heap.size + 1) m D rfl hown6.out (by unfold maxLen; omega) _ (.string (k4 l m)) rfl HKEY.out ?_; intro v zs st w7 hg7 hat hoi hzl hsz hback; have hNEW7 := Lib.hid (new_kept hg7 (World.size_alloc _ _) hbN); have HZL := Lib.hid hzl; have hb7 : Hid (w.heap.size + 3 ≤ w7.heap.size) := Lib.hid (by rw [hsz]; exact hs6.out); clear hzl)
        | (at_builtin; refine wpList_append_own_at _ rfl (.tmp 22) (.tmp 24) 86 rfl (w.heap.size + 3) 3 i0 (.int .i64 0) 1 8 Tryz.underlying86 hi hz0 hz1 hz2 rfl (by decide) _ _ _ rfl hoi.1 ⟨w5.heap.size + 1, 0, none⟩ 1 1 [.int .i64 (m : Int)] rfl rfl hNEW7.out (ints_oneCell .i64 [(m : Int)]) (by have := HZL.out; unfold maxLen; omega) (by have := HZL.out; omega) hb7.out ?_; intro v' w8 hown' hgrow hnil hloc)
        | (refine wpList_entryStore (H := Unit) _ (o := ⟨none, _, _, _, _, _⟩) rfl (.tmp 20) (.tmp 27) (.tmp 26) 59 rfl hback rfl rfl rfl hgrow (hoi.appended hown' HWF.out) (by have := HZL.out; simp; omega) (hloc.imp id (fun h => ⟨_, h, Nat.le_of_eq hsz.symm⟩)) ?_; intro w9 hown9 hg9))
      have HO9 := Lib.hid hown9
      have HG9 := Lib.hid (hG.out.put (hG.out.group hoi hat) (hoi.appended hown' HWF.out))
      have hB7 : Below w.heap.size w w7 := ((HB.out.trans (HB5.out.mono HB.out.size)).trans (HB7.out.mono (Nat.le_trans HB.out.size hs5))).grown hg7 (by have := hs6.out; omega) (fun k e => by cases e; omega)
      have HB9 := Lib.hid (hB7.groups hoi hgrow hg9 (by have := hb7.out; omega) (by omega) (by omega))
      have hs9 : w.heap.size + 3 ≤ w9.heap.size := Nat.le_trans hb7.out (Nat.le_trans hgrow.size hg9.size)
      have HX9 : Hid (w9.heap[w.heap.size]? = some (.cells #[.slice none 0 0, .map none] 61 (0, 0)) ∧ w9.heap[w.heap.size + 1 + 1]? = some (.cells #[.slice (some ⟨b0, off, none⟩) len c, .map (some (w.heap.size + 1))] 61 (0, 0))) := Lib.hid ⟨((round_kept HB7.out hg7 hoi hgrow hg9 (by omega) (by omega) (by omega)).trans (HB5.out.block _ (by omega))).trans HX.out.1, ((round_kept HB7.out hg7 hoi hgrow hg9 (by omega) (by omega) (by omega)).trans (HB5.out.block _ (by omega))).trans HX.out.2⟩
      clear hown9 hB7 hg9 hloc hnil hgrow hown' hback hsz hoi hat hg7
      go_wp2_with fail
      go_roundw
      case rel => exact ⟨m + 1, _, by omega, by go_num, HO9, HG9, HB9, hs9, HX9⟩
      case measure => simp [Go.RowKit.intOf]; omega
    · obtain rfl : m = len - 3 := by omega
      have ilt : ¬ ((len - 3 : Nat) : Int) + 4 ≤ (len : Int) := by omega
      have r0 : wr.cell? ⟨w.heap.size, 0, none⟩ = some (.slice none 0 0) := by simp [World.cell?, HX.out.1]
      have r1 : wr.cell? ⟨w.heap.size, 1, none⟩ = some (.map none) := by simp [World.cell?, HX.out.1]
      have z0 : wr.frozen? ⟨w.heap.size, 0, none⟩ = false := by simp [World.frozen?, HX.out.1]
      have z1 : wr.frozen? ⟨w.heap.size, 1, none⟩ = false := by simp [World.frozen?, HX.out.1]
      have hrow : ∀ (W : World) (y0 y1 s1 s2 : Value), W.heap[w.heap.size]? = some (.cells #[y0, y1] 61 (0, 0)) → ((W.setCell ⟨w.heap.size, 0, none⟩ s1).setCell ⟨w.heap.size, 1, none⟩ s2).heap[w.heap.size]? = some (.cells #[s1, s2] 61 (0, 0)) := fun W y0 y1 s1 s2 h0 => by
        have h1 := setRow_heap W w.heap.size _ (#[y0, y1].setIfInBounds 0 s1) 61 (0, 0) h0
        rw [← setCell_eq_setRow W w.heap.size 0 _ 61 (0, 0) _ h0] at h1
        have h2 := setRow_heap _ w.heap.size _ ((#[y0, y1].setIfInBounds 0 s1).setIfInBounds 1 s2) 61 (0, 0) h1
        rw [← setCell_eq_setRow _ w.heap.size 1 _ 61 (0, 0) _ h1] at h2
        exact h2
      have HEND : Hid (IdxG l b0 off len c w (.returned (.agg #[.slice (some ⟨b0, off, none⟩) len c, .map (some (w.heap.size + 1))])) ((wr.setCell ⟨w.heap.size, 0, none⟩ (.slice (some ⟨b0, off, none⟩) len c)).setCell ⟨w.heap.size, 1, none⟩ (.map (some (w.heap.size + 1))))) := Lib.hid
        ⟨(HB.out.setCell (p := ⟨w.heap.size, 0, none⟩) (Nat.le_refl _) _).setCell (p := ⟨w.heap.size, 1, none⟩) (Nat.le_refl _) _, w.heap.size + 1, w.heap.size + 3, D, rfl, hG.out, groups_set (groups_set hown.out (by omega) (by omega) _) (by omega) (by omega) _⟩
      have HROW := Lib.hid (hrow wr _ _ (.slice (some ⟨b0, off, none⟩) len c) (.map (some (w.heap.size + 1))) HX.out.1)
      clear hrow
      go_wp2_with fail
      refine bodyPost_ret (results_cell_row rfl _ _ w.heap.size 61 _ (0, 0) _ rfl HROW.out rfl rfl rfl) rfl ?_
      exact HEND.out
end Go.Proofs.YtpbcdmefngbjjaaGreatDoor
namespace Go.Proofs.YtpbcdmefngbjjaaGreatDoor
open Go.RowKit Go.Maps Go.ChangeShapes Go.Shelf
open Go.Lib
variable {base b n : Nat} {D : DataW Unit} {W W' w : World}
/-- The look-up of an entry gives one value, in every later world. -/
theorem groups_look {key : Value} {kl : Lit} (h : w.ownsGroups Tryz.prog 84 base 3 .i64 b n D) (hn : n < maxLen) (hkey : keyOf Tryz.prog 84 key = some kl) :
    ∃ v zs, D.atKey kl .nil = rowDatum .i64 v zs ∧ w.ownsInts base 3 .i64 v zs ∧ zs.length ≤ n ∧ ∀ W, Below w.heap.size w W → (Instr.lookup 59 (.map (some b)) key false).run Tryz.prog W = .ok v W := by
  have K := Keyed.of_law law84
  have look : ∀ {es : Array MapEntry} {clock : Nat} {R : Value → Option (DataW Unit × List MemPlace)} (W : World), W.heap[b]? = some (.map es clock) → Go.WideElems.Fit Tryz.prog 84 R es clock → ∀ v, (Instr.lookup 59 (.map (some b)) key false).run Tryz.prog W = .ok v W → ((∀ x ∈ es.toList, x.key ≠ key) ∧ v = .slice none 0 0) ∨ ∃ e0 ∈ es.toList, e0.key = key ∧ v = e0.val := by
    intro es clock R W hb F v hv
    rcases Maps.fit_look false K Tryz.underlying59 (zero86 W) hb F hkey with ⟨hrun, hno, _⟩ | ⟨e0, y, hm0, h3, hrun, _⟩
    · rw [hv] at hrun
      exact .inl ⟨hno, by simpa using hrun⟩
    · rw [hv] at hrun
      exact .inr ⟨e0, hm0, h3, by simpa using hrun⟩
  obtain ⟨v, zs, hrun, hat, ho, hl, _⟩ := h.at K Tryz.underlying59 (zero86 w) hn hkey
  refine ⟨v, zs, hat, ho, hl, fun W hW => ?_⟩
  have hO := groups_next h hW
  obtain ⟨v2, _, hrun2, _⟩ := hO.at K Tryz.underlying59 (zero86 W) hn hkey
  obtain ⟨es, clock, hb, F, _⟩ := h
  obtain ⟨es2, clock2, hb2, F2, _⟩ := hO
  have hb3 := (hW.block b (Array.getElem?_eq_some_iff.1 hb).1).trans hb
  obtain ⟨rfl, rfl⟩ : es = es2 ∧ clock = clock2 := by rw [hb2] at hb3; simp only [Option.some.injEq, Obj.map.injEq] at hb3; exact ⟨hb3.1.symm, hb3.2.symm⟩
  have h1 := look w hb F v hrun
  have h2 := look W hb2 F2 v2 hrun2
  have e : v2 = v := by
    rcases h1 with ⟨hno, rfl⟩ | ⟨e0, hm0, hk0, rfl⟩ <;> rcases h2 with ⟨hno2, rfl⟩ | ⟨e1, hm1, hk1, rfl⟩
    · rfl
    · exact absurd hk1 (hno e1 hm1)
    · exact absurd hk0 (hno2 e0 hm0)
    · have hpw : es.toList.Pairwise (fun a b => a.key ≠ b.key) := List.pairwise_map.1 F.stamped.2.2
      obtain ⟨i, hi, hxe⟩ := List.getElem_of_mem hm1
      obtain ⟨i0, hi0, hxe0⟩ := List.getElem_of_mem hm0
      by_cases e : i = i0
      · subst e; rw [← hxe, ← hxe0]
      · exfalso
        rcases Nat.lt_or_gt_of_ne e with hlt | hlt
        · exact (List.pairwise_iff_getElem.1 hpw i i0 hi hi0 hlt) (by rw [hxe, hxe0, hk1, hk0])
        · exact (List.pairwise_iff_getElem.1 hpw i0 i hi0 hi hlt) (by rw [hxe, hxe0, hk1, hk0])
  rw [← e]
  exact hrun2
/-- The row of places of a key, as the search reads it. -/
structure PRow (l : List UInt8) (len : Nat) (x : List UInt8) (q : Option Addr) (N c : Nat) (ps : Nat → Nat) (W : World) : Prop where
  hN : N ≤ len
  row : RowAt W q N ps
  le : ∀ j, j < N → ps j ≤ 1000
  up : ∀ i j, i ≤ j → j < N → ps i ≤ ps j
  all : ∀ y, y ∈ pls l (len - 3) x → ∃ j, j < N ∧ ps j = y
  cap : N ≤ c
  nil : q = none → c = 0 ∧ N = 0
theorem prow_of {l : List UInt8} {len : Nat} {x : List UInt8} {v : Value} {zs : List Int} (hl : len ≤ 1000) (ho : W.ownsInts base 3 .i64 v zs) (hz : zs = plI l (len - 3) x) : ∃ q N c ps, v = .slice q N c ∧ PRow l len x q N c ps W := by
  obtain ⟨hln, hv⟩ := ho.1
  subst hz
  have hlen : (plI l (len - 3) x).length = (pls l (len - 3) x).length := by rw [plI, List.length_map]
  have hup := pls_up l (len - 3) x
  have hps : ∀ j, j < (pls l (len - 3) x).length → (pls l (len - 3) x).getD j 0 = (pls l (len - 3) x)[j]! := fun j hj => by simp [List.getD, hj]
  have hget : ∀ j (hj : j < (pls l (len - 3) x).length), (pls l (len - 3) x).getD j 0 = (pls l (len - 3) x)[j] := fun j hj => by simp [List.getD, hj]
  have hle : ∀ j, j < (pls l (len - 3) x).length → (pls l (len - 3) x).getD j 0 ≤ 1000 := fun j hj => by
    rw [hget j hj]
    have := (pls_mem.1 (List.getElem_mem hj)).1
    omega
  have hmono : ∀ i j, i ≤ j → j < (pls l (len - 3) x).length → (pls l (len - 3) x).getD i 0 ≤ (pls l (len - 3) x).getD j 0 := fun i j h1 h2 => by
    rw [hget i (by omega), hget j h2]
    by_cases e : i = j
    · subst e; exact Nat.le_refl _
    · exact Nat.le_of_lt (List.pairwise_iff_getElem.1 hup i j (by omega) h2 (by omega))
  have hall : ∀ y, y ∈ pls l (len - 3) x → ∃ j, j < (pls l (len - 3) x).length ∧ (pls l (len - 3) x).getD j 0 = y := fun y hy => by
    obtain ⟨j, hj, e⟩ := List.getElem_of_mem hy
    exact ⟨j, hj, by rw [hget j hj]; exact e⟩
  have hN := pls_len l (len - 3) x
  rcases hv with ⟨rfl, h0⟩ | ⟨g, cap, cur, rfl, hg, hh, hcap, _, _, ht⟩
  · rw [hlen] at h0
    exact ⟨none, 0, 0, fun j => (pls l (len - 3) x).getD j 0, rfl, by omega, fun j hj => absurd hj (Nat.not_lt_zero j), fun j hj => absurd hj (Nat.not_lt_zero j), fun i j _ hj => absurd hj (Nat.not_lt_zero j), fun y hy => by obtain ⟨j, hj, _⟩ := hall y hy; omega, Nat.le_refl _, fun _ => ⟨rfl, rfl⟩⟩
  · rw [hlen] at hcap ⊢
    refine ⟨_, _, cap, fun j => (pls l (len - 3) x).getD j 0, rfl, by omega, fun j hj => ?_, hle, hmono, hall, hcap, fun e => by cases e⟩
    refine ⟨g, rfl, (Array.getElem?_eq_some_iff.1 hh).1, ?_⟩
    have := ho.1.cellAt j (by rw [hlen]; omega)
    rw [this, hget j hj, List.getElem?_map, plI, List.getElem?_map, List.getElem?_eq_getElem hj]
    rfl
end Go.Proofs.YtpbcdmefngbjjaaGreatDoor
namespace Go.Proofs.YtpbcdmefngbjjaaGreatDoor
open Go.RowKit Go.Maps Go.ChangeShapes Go.Shelf
open Go.Lib
attribute [local go_sem] Oper.semAt_some
/-- next's boxes. -/
structure Nx (w : World) (b0 off len c b a n most o : Nat) (r0 r1 : Value) (W : World) : Prop where
  below : Below w.heap.size w W
  x : W.heap[w.heap.size]? = some (.cells #[.slice (some ⟨b0, off, none⟩) len c, .map (some b)] 61 (0, 0))
  a : W.heap[w.heap.size + 1]? = some (.cells #[.int .i64 (a : Int)] 3 (0, 0))
  n : W.heap[w.heap.size + 1 + 1]? = some (.cells #[.int .i64 (n : Int)] 3 (0, 0))
  m : W.heap[w.heap.size + 1 + 1 + 1]? = some (.cells #[.int .i64 (most : Int)] 3 (0, 0))
  r0 : W.heap[w.heap.size + 1 + 1 + 1 + 1]? = some (.cells #[r0] 3 (0, 0))
  r1 : W.heap[w.heap.size + 1 + 1 + 1 + 1 + 1]? = some (.cells #[r1] 3 (0, 0))
  o : W.heap[w.heap.size + 1 + 1 + 1 + 1 + 1 + 1]? = some (.cells #[.int .i64 (o : Int)] 3 (0, 0))
section
variable {w W W' : World} {b0 off len c b a n most o : Nat} {r0 r1 : Value}
theorem Nx.sz (h : Nx w b0 off len c b a n most o r0 r1 W) : w.heap.size + 7 ≤ W.heap.size := (Array.getElem?_eq_some_iff.1 h.o).1
theorem Nx.keep (h : Nx w b0 off len c b a n most o r0 r1 W) (hk : ∀ k, k < W.heap.size → (∃ cs t m, W.heap[k]? = some (.cells cs t m)) → W'.heap[k]? = W.heap[k]?) (hb : Below w.heap.size w W') : Nx w b0 off len c b a n most o r0 r1 W' := by
  have hs := h.sz
  exact ⟨hb, (hk _ (by omega) ⟨_, _, _, h.x⟩).trans h.x, (hk _ (by omega) ⟨_, _, _, h.a⟩).trans h.a, (hk _ (by omega) ⟨_, _, _, h.n⟩).trans h.n, (hk _ (by omega) ⟨_, _, _, h.m⟩).trans h.m, (hk _ (by omega) ⟨_, _, _, h.r0⟩).trans h.r0, (hk _ (by omega) ⟨_, _, _, h.r1⟩).trans h.r1, (hk _ (by omega) ⟨_, _, _, h.o⟩).trans h.o⟩
theorem Nx.next (h : Nx w b0 off len c b a n most o r0 r1 W) (hb : Below W.heap.size W W') : Nx w b0 off len c b a n most o r0 r1 W' :=
  h.keep (fun k hk _ => hb.block k hk) (h.below.trans (hb.mono h.below.size))
theorem Nx.own (h : Nx w b0 off len c b a n most o r0 r1 W) {row : Option Nat} (hg : W.grownBy W' row) (hr : ∀ r, row = some r → w.heap.size ≤ r ∧ ∃ o : Obj, W.heap[r]? = some o ∧ o.isCells = false) : Nx w b0 off len c b a n most o r0 r1 W' :=
  h.keep (fun _ _ ⟨_, _, _, e⟩ => grownBy_keeps_cells hg (fun r e => (hr r e).2) e rfl) (h.below.grown hg h.below.size (fun k e => (hr k e).1))
end
theorem others_of_below {W W' : World} (h : Below W.heap.size W W') : KeepsOthers W W' := KeepsOthers.of_grownBy (grown_below h none) (fun _ _ e _ => by cases e)
theorem nx_start (w : World) (b0 off len c b a n most o : Nat) : Nx w b0 off len c b a n most o (.int .i64 0) (.int .i64 0) (((((((w.alloc (.cells #[.slice (some ⟨b0, off, none⟩) len c, .map (some b)] 61)).alloc (.cells #[.int .i64 (a : Int)] 3)).alloc (.cells #[.int .i64 (n : Int)] 3)).alloc (.cells #[.int .i64 (most : Int)] 3)).alloc (.cells #[.int .i64 0] 3)).alloc (.cells #[.int .i64 0] 3)).alloc (.cells #[.int .i64 (o : Int)] 3)) := by
  refine ⟨((((((((Below.refl _ w).alloc (Nat.le_refl _) _).alloc ?_ _).alloc ?_ _).alloc ?_ _).alloc ?_ _).alloc ?_ _).alloc ?_ _), ?_, ?_, ?_, ?_, ?_, ?_, ?_⟩
  all_goals (simp only [World.alloc, Array.getElem?_push, Array.size_push])
  all_goals (first | omega | (repeat' (first | rw [if_pos (by omega)] | rw [if_neg (by omega)] | rfl)))
theorem PRow.below {l : List UInt8} {len : Nat} {x : List UInt8} {q : Option Addr} {N c : Nat} {ps : Nat → Nat} {W W' : World} (h : PRow l len x q N c ps W) (hb : Below W.heap.size W W') : PRow l len x q N c ps W' :=
  ⟨h.hN, h.row.below hb, h.le, h.up, h.all, h.cap, h.nil⟩
theorem PRow.rowN {l : List UInt8} {len : Nat} {x : List UInt8} {q : Option Addr} {N c i : Nat} {ps : Nat → Nat} {w W : World} (h : PRow l len x q N c ps w) (hb : Below w.heap.size w W) (hi : i ≤ N) : RowN w.heap.size W q i ps := fun j hj => by
  obtain ⟨g, h1, h2, h3⟩ := h.row j (by omega)
  exact ⟨g, h1, h2, (hb.cell (p := ⟨g, j, none⟩) h2).trans h3⟩
/-- Both results are stored. -/
theorem Nx.put {w W : World} {b0 off len c b a n most o : Nat} {r0 r1 v v' : Value} (h : Nx w b0 off len c b a n most o r0 r1 W) :
    Nx w b0 off len c b a n most o v v' ((W.setCell ⟨w.heap.size + 1 + 1 + 1 + 1, 0, none⟩ v).setCell ⟨w.heap.size + 1 + 1 + 1 + 1 + 1, 0, none⟩ v') := by
  have hs : ∀ (V : World) (k g : Nat) (u : Value), k ≠ g → (V.setCell ⟨g, 0, none⟩ u).heap[k]? = V.heap[k]? := fun V k g u hne => Below.heap_setCell V ⟨g, 0, none⟩ u _ hne
  have h0 := block_of_set (v := v) h.r0
  have h1 : (W.setCell ⟨w.heap.size + 1 + 1 + 1 + 1, 0, none⟩ v).heap[w.heap.size + 1 + 1 + 1 + 1 + 1]? = some (.cells #[r1] 3 (0, 0)) := (hs _ _ _ _ (by omega)).trans h.r1
  have two : ∀ k, k ≠ w.heap.size + 1 + 1 + 1 + 1 → k ≠ w.heap.size + 1 + 1 + 1 + 1 + 1 → ((W.setCell ⟨w.heap.size + 1 + 1 + 1 + 1, 0, none⟩ v).setCell ⟨w.heap.size + 1 + 1 + 1 + 1 + 1, 0, none⟩ v').heap[k]? = W.heap[k]? := fun k h1 h2 => (hs _ _ _ _ h2).trans (hs _ _ _ _ h1)
  exact ⟨(h.below.setCell (p := ⟨w.heap.size + 1 + 1 + 1 + 1, 0, none⟩) (by show w.heap.size ≤ w.heap.size + 1 + 1 + 1 + 1; omega) _).setCell (p := ⟨w.heap.size + 1 + 1 + 1 + 1 + 1, 0, none⟩) (by show w.heap.size ≤ w.heap.size + 1 + 1 + 1 + 1 + 1; omega) _,
    (two _ (by omega) (by omega)).trans h.x, (two _ (by omega) (by omega)).trans h.a, (two _ (by omega) (by omega)).trans h.n, (two _ (by omega) (by omega)).trans h.m, (hs _ _ _ _ (by omega)).trans h0, block_of_set h1, (two _ (by omega) (by omega)).trans h.o⟩
theorem nx_end {w V : World} {b0 off len c b a n most o D9 : Nat} {r0 r1 : Value} (h : Nx w b0 off len c b a n most o r0 r1 V) (hD : w.heap.size ≤ D9) (hK : V.heap[D9]? = some (.deferred (some []))) : Nx w b0 off len c b a n most o r0 r1 (V.putObj D9 (.deferred none)) :=
  h.own (grownBy_putObj' V D9 (.deferred none)) (fun r e => by cases e; exact ⟨hD, _, hK, rfl⟩)
/-- How next's loop stops early. -/
def NxStop (w : World) (b0 off len c b a n most o : Nat) (l : List UInt8) (ps : Nat → Nat) (i : Nat) (c9 : Code) (pre : List (Pl i)) (W : World) : Prop :=
  ∃ (pre0 : List (Pl i)) (x : Pl i), pre = pre0 ++ [x] ∧ (∀ y ∈ pre0, rn l a (a + (n - 3) - ps (i - 1 - y.1)) ≤ n) ∧
    ((c9 = .ret ∧ n - 3 ≤ ps (i - 1 - x.1) ∧ n < rn l a (a + (n - 3) - ps (i - 1 - x.1)) ∧ Nx w b0 off len c b a n most o (.int .i64 (rn l a (a + (n - 3) - ps (i - 1 - x.1)) : Int)) (.int .i64 ((a + (n - 3) - ps (i - 1 - x.1) : Nat) : Int)) W) ∨
     (c9 = .exit 0 ∧ ps (i - 1 - x.1) < n - 3 ∧ Nx w b0 off len c b a n most o (.int .i64 0) (.int .i64 0) W))
theorem seen_of {l : List UInt8} {a n i : Nat} {ps : Nat → Nat} {pre : List (Pl i)} (h : ∀ y ∈ pre, rn l a (a + (n - 3) - ps (i - 1 - y.1)) ≤ n) {r : Nat} (hr : pre.map (·.1) = List.range r) : Seen l a n i ps r := fun j h1 h2 => by
  have hm : i - 1 - j ∈ pre.map (·.1) := by rw [hr, List.mem_range]; omega
  obtain ⟨y, hy, e⟩ := List.mem_map.1 hm
  have := h y hy
  rwa [e, show i - 1 - (i - 1 - j) = j by omega] at this
end Go.Proofs.YtpbcdmefngbjjaaGreatDoor
namespace Go.Proofs.YtpbcdmefngbjjaaGreatDoor
open Go.RowKit Go.Maps Go.ChangeShapes Go.Shelf
open Go.Lib
attribute [local go_sem] Oper.semAt_some
set_option maxRecDepth 100000 in
set_option maxHeartbeats 4000000 in
theorem next_any (b0 off len c a n d most b base : Nat) (D : DataW Unit) (l : List UInt8) (w : World) (hl : len ≤ 1000) (ha : a < len) (hm : Hid (most = min 131 (len - a))) (h : Came w (some ⟨b0, off, none⟩) len c l) (hG : Gm l (len - 3) D) (hO : w.ownsGroups Tryz.prog 84 base 3 .i64 b (len - 3) D) (hst : Stand l a n d) (hn : n < most) :
    Calls Tryz.prog 72 #[.agg #[.slice (some ⟨b0, off, none⟩) len c, .map (some b)], .int .i64 (a : Int), .int .i64 (n : Int), .int .i64 (d : Int), .int .i64 (most : Int)] w (NextPost l a n d w) := by
  have H := Lib.hid h
  have hn3 : 3 ≤ n := by rcases hst with h | h <;> omega
  have hda : d ≤ a := by rcases hst with h | h <;> omega
  have hn131 : n < 131 := by have := hm.out; omega
  have hfit : a + n + 1 ≤ len := by have := hm.out; omega
  obtain ⟨o, HO⟩ : ∃ o, Hid (o = n - 3) := ⟨_, rfl⟩
  obtain ⟨p, HP⟩ : ∃ p, Hid (p = a + (n - 3)) := ⟨_, rfl⟩
  obtain ⟨t, HT⟩ : ∃ t, Hid (t = a + (n - 3) - d) := ⟨_, rfl⟩
  have ho1 : (n : Int) + 1 - 4 = (o : Int) := by rw [HO.out]; omega
  have ho2 : (a : Int) + (o : Int) = (p : Int) := by rw [HP.out, HO.out]; omega
  have ho3 : (p : Int) - (d : Int) = (t : Int) := by rw [HP.out, HT.out]; omega
  have hp4 : p + 4 ≤ len := by rw [HP.out]; omega
  have ia : (a : Int) ≤ 1000 := by omega
  have in1 : (n : Int) ≤ 131 := by omega
  have in3 : 3 ≤ (n : Int) := by omega
  have io : (o : Int) ≤ 131 := by rw [HO.out]; omega
  have ip : (p : Int) ≤ 1000 := by omega
  have id1 : (d : Int) ≤ 1000 := by omega
  have it : (t : Int) ≤ 1000 := by rw [HT.out]; omega
  have hwr : IntKind.i64.wrap (p : Int) = (p : Int) := IntWalk.i64_in _ (by omega)
  -- the look-up
  obtain ⟨x0, x1, x2, x3, HQ⟩ : ∃ x0 x1 x2 x3 : Nat, Hid (keyV l p = .agg #[.int .u8 (x0 : Int), .int .u8 (x1 : Int), .int .u8 (x2 : Int), .int .u8 (x3 : Int)]) := ⟨_, _, _, _, Lib.hid rfl⟩
  obtain ⟨v, zs, hat, hoi, hzl, hlook⟩ := groups_look hO (by unfold maxLen; omega) (keyOf_at l p)
  rw [HQ.out] at hlook
  obtain ⟨q, N, c1, ps, rfl, hrow⟩ := prow_of hl hoi (hG.group hoi hat)
  have HROW := Lib.hid hrow
  obtain ⟨W0, HW0⟩ : ∃ W0, Hid ((((((((w.alloc (.cells #[.slice (some ⟨b0, off, none⟩) len c, .map (some b)] 61)).alloc (.cells #[.int .i64 (a : Int)] 3)).alloc (.cells #[.int .i64 (n : Int)] 3)).alloc (.cells #[.int .i64 (most : Int)] 3)).alloc (.cells #[.int .i64 0] 3)).alloc (.cells #[.int .i64 0] 3)).alloc (.cells #[.int .i64 (o : Int)] 3)) = W0) := ⟨_, Lib.hid rfl⟩
  have HN0 : Hid (Nx w b0 off len c b a n most o (.int .i64 0) (.int .i64 0) W0) := Lib.hid (by rw [← HW0.out]; exact nx_start w b0 off len c b a n most o)
  have HALL : Hid (∀ W, Below W0.heap.size W0 W → Below W0.heap.size W0 W ∧ W.cell? ⟨w.heap.size, 0, none⟩ = some (.slice (some ⟨b0, off, none⟩) len c) ∧ W.cell? ⟨w.heap.size, 1, none⟩ = some (.map (some b)) ∧ W.cell? ⟨w.heap.size + 1, 0, none⟩ = some (.int .i64 (a : Int)) ∧ W.cell? ⟨w.heap.size + 1 + 1 + 1 + 1 + 1 + 1, 0, none⟩ = some (.int .i64 (o : Int)) ∧ (Instr.lookup 59 (.map (some b)) (.agg #[.int .u8 (x0 : Int), .int .u8 (x1 : Int), .int .u8 (x2 : Int), .int .u8 (x3 : Int)]) false).run Tryz.prog W = .ok (.slice q N c1) W) := Lib.hid (fun W hW => by
    have hx := HN0.out.next hW
    exact ⟨hW, by simp [World.cell?, hx.x], by simp [World.cell?, hx.x], by simp [World.cell?, hx.a], by simp [World.cell?, hx.o], hlook W hx.below⟩)
  have HKEY : Hid (∀ W, Below W0.heap.size W0 W → Calls Tryz.prog 71 #[.agg #[.slice (some ⟨b0, off, none⟩) len c, .map (some b)], .int .i64 (p : Int)] W fun e w' => Below W.heap.size W w' ∧ e = .returned (.agg #[.int .u8 (x0 : Int), .int .u8 (x1 : Int), .int .u8 (x2 : Int), .int .u8 (x3 : Int)])) := Lib.hid (fun W hW => by
    rw [← HQ.out]
    exact key_any b0 off len c p (some b) l W hl hp4 ⟨H.out.hl, H.out.hc, H.out.lies.below (HN0.out.next hW).below⟩)
  have HSE : Hid (∀ W, Below w.heap.size w W → Calls Tryz.prog 80 #[.slice q N c1, .int .i64 (t : Int)] W (SearchPost N ps t W)) := Lib.hid (fun W hW =>
    search_any q N c1 t ps W (by have := HROW.out.hN; omega) (by omega) (Lib.hid HROW.out.le) (Lib.hid HROW.out.up) (Lib.hid (HROW.out.below hW).row))
  clear h hG hO hat hoi hzl hlook hrow hst
  refine (callsIn_wide (n := 9)).1 ?_
  refine callsIn_of_wp_marks Tryz.func72 rfl trivial ?_ rfl
  simp only [Tryz.ntmps72, List.size_toArray, List.length_cons, List.length_nil, Nat.reduceAdd, Nat.reduceSub, Array.replicate_succ, Array.replicate_zero, List.push_toArray, List.append_toArray, List.nil_append, List.cons_append]
  gi_wp2
  rw [HW0.out]
  refine wpIn_wide.2 ?_
  refine wp_region_noPanic ?_
  refine wp_region_held_drew (S := fun W => Below W0.heap.size W0 W ∧ W.cell? ⟨w.heap.size, 0, none⟩ = some (.slice (some ⟨b0, off, none⟩) len c) ∧ W.cell? ⟨w.heap.size, 1, none⟩ = some (.map (some b)) ∧ W.cell? ⟨w.heap.size + 1, 0, none⟩ = some (.int .i64 (a : Int)) ∧ W.cell? ⟨w.heap.size + 1 + 1 + 1 + 1 + 1 + 1, 0, none⟩ = some (.int .i64 (o : Int)) ∧ (Instr.lookup 59 (.map (some b)) (.agg #[.int .u8 (x0 : Int), .int .u8 (x1 : Int), .int .u8 (x2 : Int), .int .u8 (x3 : Int)]) false).run Tryz.prog W = .ok (.slice q N c1) W) (by kernel_rfl) (HALL.out _ ⟨rfl, rfl, rfl, Nat.le_refl _, fun _ _ => rfl⟩) (fun hHeld => ?_)
  refine wpAnyH_take (i := 0) (v := ?v1) rfl (by kernel_rfl) (by kernel_rfl) (by kernel_rfl) (fun _ _ _ h => h) (Or.inl ⟨by rfl, ?hy1⟩) (by assumption) ?rest1
  case hy1 =>
    intro W' hSw
    obtain ⟨e0, e1, e2, e3, e4, e5⟩ := hSw
    go_simp
    with_reducible rfl
  simp only [List.getElem_toArray, List.getElem_cons_zero, Act.put, List.setIfInBounds_toArray, List.set_cons_zero, List.set_cons_succ]
  refine wpAnyH_take (i := 1) (v := ?v2) rfl (by kernel_rfl) (by kernel_rfl) (by kernel_rfl) (fun _ _ _ h => h) (Or.inl ⟨by rfl, ?hy2⟩) (by assumption) ?rest2
  case hy2 =>
    intro W' hSw
    obtain ⟨e0, e1, e2, e3, e4, e5⟩ := hSw
    go_simp
    with_reducible rfl
  simp only [List.getElem_toArray, List.getElem_cons_zero, List.getElem_cons_succ, Act.put, List.setIfInBounds_toArray, List.set_cons_zero, List.set_cons_succ]
  refine wpAnyH_take (i := 2) (v := ?v3) rfl (by kernel_rfl) (by kernel_rfl) (by kernel_rfl) (fun _ _ _ h => h) (Or.inl ⟨by rfl, ?hy3⟩) (by assumption) ?rest3
  case hy3 =>
    intro W' hSw
    obtain ⟨e0, e1, e2, e3, e4, e5⟩ := hSw
    go_simp
    with_reducible rfl
  simp only [List.getElem_toArray, List.getElem_cons_zero, List.getElem_cons_succ, Act.put, List.setIfInBounds_toArray, List.set_cons_zero, List.set_cons_succ]
  refine wpAnyH_take (i := 3) (v := ?v4) rfl (by kernel_rfl) (by kernel_rfl) (by kernel_rfl) (fun _ _ _ h => h) (Or.inl ⟨by rfl, ?hy4⟩) (by assumption) ?rest4
  case hy4 =>
    intro W' hSw
    obtain ⟨e0, e1, e2, e3, e4, e5⟩ := hSw
    go_simp
    with_reducible rfl
  simp only [List.getElem_toArray, List.getElem_cons_zero, List.getElem_cons_succ, Act.put, List.setIfInBounds_toArray, List.set_cons_zero, List.set_cons_succ]
  refine wpAnyH_take (i := 4) (v := ?v5) rfl (by kernel_rfl) (by kernel_rfl) (by kernel_rfl) (fun _ _ _ h => h) (Or.inl ⟨by rfl, ?hy5⟩) (by assumption) ?rest5
  case hy5 =>
    intro W' hSw
    obtain ⟨e0, e1, e2, e3, e4, e5⟩ := hSw
    go_simp
    with_reducible rfl
  simp only [List.getElem_toArray, List.getElem_cons_zero, List.getElem_cons_succ, Act.put, List.setIfInBounds_toArray, List.set_cons_zero, List.set_cons_succ]
  refine wpAnyH_take (i := 5) (v := ?v6) rfl (by kernel_rfl) (by kernel_rfl) (by kernel_rfl) (fun _ _ _ h => h) (Or.inl ⟨by rfl, ?hy6⟩) (by assumption) ?rest6
  case hy6 =>
    intro W' hSw
    obtain ⟨e0, e1, e2, e3, e4, e5⟩ := hSw
    go_simp
    with_reducible rfl
  simp only [List.getElem_toArray, List.getElem_cons_zero, List.getElem_cons_succ, Act.put, List.setIfInBounds_toArray, List.set_cons_zero, List.set_cons_succ]
  refine wpAnyH_ready (rs := [6]) (by kernel_rfl) (by simp) ?_
  refine AllReadyH.cons (i := 6) rfl (fun K hK => ?_) AllReadyH.nil
  go_simp
  refine (HKEY.out _ hHeld.1).mono ?_
  rintro e w1 ⟨hb1, rfl⟩
  have HB1 : Hid (Below W0.heap.size W0 w1) := Lib.hid (hHeld.1.trans hb1)
  refine hK.out _ _ (HALL.out _ HB1.out) (fun hHeld2 => ?_)
  clear hK K hb1 hHeld
  refine wpAnyH_take (i := 7) (v := ?v7) rfl (by kernel_rfl) (by kernel_rfl) (by kernel_rfl) (fun _ _ _ h => h) (Or.inl ⟨by rfl, ?hy7⟩) (by assumption) ?rest7
  case hy7 =>
    intro W' hSw
    obtain ⟨e0, e1, e2, e3, e4, e5⟩ := hSw
    go_simp
    with_reducible rfl
  simp only [List.getElem_toArray, List.getElem_cons_zero, List.getElem_cons_succ, Act.put, List.setIfInBounds_toArray, List.set_cons_zero, List.set_cons_succ]
  refine wpAnyH_take (i := 8) (v := ?v8) rfl (by kernel_rfl) (by kernel_rfl) (by kernel_rfl) (fun _ _ _ h => h) (Or.inl ⟨by rfl, ?hy8⟩) (by assumption) ?rest8
  case hy8 =>
    intro W' hSw
    obtain ⟨e0, e1, e2, e3, e4, e5⟩ := hSw
    go_simp
    with_reducible rfl
  simp only [List.getElem_toArray, List.getElem_cons_zero, List.getElem_cons_succ, Act.put, List.setIfInBounds_toArray, List.set_cons_zero, List.set_cons_succ]
  refine wpAnyH_done (by kernel_rfl) ?_ _
  refine NoPanic.normal ?_
  clear hHeld2 hwr
  have HN1 := Lib.hid (HN0.out.next HB1.out)
  have aB1 := HN1.out.a
  have oB1 := HN1.out.o
  have ca : w1.cell? ⟨w.heap.size + 1, 0, none⟩ = some (.int .i64 (a : Int)) := by simp [World.cell?, aB1]
  have co : w1.cell? ⟨w.heap.size + 1 + 1 + 1 + 1 + 1 + 1, 0, none⟩ = some (.int .i64 (o : Int)) := by simp [World.cell?, oB1]
  clear aB1 oB1
  gi_wp2_with (refine ⟨trivial, ?_⟩; gi_at_call 80; refine (callsIn_wide.2 (HSE.out _ HN1.out.below)).mono ?_; rintro e w2 ⟨hb2, i, bb, hiN, hlo, hhi, rfl⟩; have hic : i ≤ c1 := Nat.le_trans hiN HROW.out.cap)
  have HN2 := Lib.hid (HN1.out.next hb2)
  have HSR : Hid (Srch l a n d N i ps) := Lib.hid ⟨hn3, hda, by rw [← HP.out, H.out.hl]; exact HROW.out.all, HROW.out.up, hiN, by rw [← HT.out]; exact hlo, by rw [← HT.out]; exact hhi⟩
  have iiN : (i : Int) ≤ 1000 := by have := HROW.out.hN; omega
  have iic : (i : Int) ≤ (c1 : Int) := by have := HROW.out.cap; omega
  clear hb2 hlo hhi ca co
  gi_wp2_with (refine ⟨trivial, ?_⟩; gi_at_call 81; refine (back_in _ _ _ _ _).mono ?_; rintro e w3 ⟨rfl, rfl⟩)
  obtain ⟨W3, hW3⟩ : ∃ W3, w2.alloc (.cells #[.slice q i c1] 86) = W3 := ⟨_, rfl⟩
  have hs3 : W3.heap.size = w2.heap.size + 1 := by rw [← hW3]; simp
  have hbe : Below w2.heap.size w2 W3 := by rw [← hW3]; exact (Below.refl _ _).alloc (Nat.le_refl _) _
  have hI3 : Nx w b0 off len c b a n most o (.int .i64 0) (.int .i64 0) W3 := HN2.out.next hbe
  have hBb : W3.cell? ⟨w2.heap.size, 0, none⟩ = some (.slice q i c1) := by
    have := World.alloc_heap_new w2 (.cells #[.slice q i c1] 86)
    rw [hW3] at this
    simp [World.cell?, this]
  have hsz3 := hI3.sz
  have hi1000 : i ≤ 1000 := by omega
  rw [hW3]
  refine wpIn_rangeFunc_ownF rfl (by omega) (gf := 90) (lb := #[.pointer (some ⟨w2.heap.size, 0, none⟩)]) rfl trivial (enters_of Tryz.func90 (by kernel_rfl) rfl)
    (back_stops _ (by omega) w2.heap.size w.heap.size i c1 q ps hi1000 (Lib.hid (fun j hj => HROW.out.le j (by omega))) W3 (by omega) (by omega) hBb (HROW.out.rowN hI3.below hiN)) Keep3.trans
    (fun W lo o o' hlo ho hc hw => ⟨(Below.refl _ W).grown (grownBy_putObj' W lo o') (by have := (Array.getElem?_eq_some_iff.1 ho).1; omega) (fun k e => by cases e; omega), World.putObj_heap_other (by omega), World.putObj_heap_other (by omega)⟩) (Below.refl _ _) (fun _ => rfl)
    (fun pre W => Nx w b0 off len c b a n most o (.int .i64 0) (.int .i64 0) W ∧ Hid (∀ y ∈ pre, rn l a (a + (n - 3) - ps (i - 1 - y.1)) ≤ n) ∧ w2.heap.size < W.heap.size)
    (fun c9 pre W => NxStop w b0 off len c b a n most o l ps i c9 pre W)
    (fun s W W' row h hg hr => ⟨h.1.own hg (fun r e => ⟨by have := (hr r e).1; omega, (hr r e).2⟩), h.2.1, Nat.lt_of_lt_of_le h.2.2 hg.size⟩)
    (fun c9 s W W' row h hg hr => by
      obtain ⟨pre0, x, e, hp, h⟩ := h
      refine ⟨pre0, x, e, hp, ?_⟩
      rcases h with ⟨h1, h2, h3, h4⟩ | ⟨h1, h2, h3⟩
      · exact .inl ⟨h1, h2, h3, h4.own hg (fun r e => ⟨by have := (hr r e).1; omega, (hr r e).2⟩)⟩
      · exact .inr ⟨h1, h2, h3.own hg (fun r e => ⟨by have := (hr r e).1; omega, (hr r e).2⟩)⟩)
    ⟨hI3, Lib.hid (by intro y hy; cases hy), by omega⟩ ?a1 ?assign ?body ?done ?stop
  case assign =>
    intro lo x W K hK
    gi_wp2
    exact hK
  case body =>
    rintro lo pre x W ⟨hI, hPre, hBW⟩ hlen2
    have HI := Lib.hid hI
    obtain ⟨ix, HIX⟩ : ∃ ix, Hid (ix = i - 1 - x.1) := ⟨_, rfl⟩
    obtain ⟨y, HY⟩ : ∃ y, Hid (y = ps ix) := ⟨_, rfl⟩
    have e1 : i - 1 - x.1 = ix := HIX.out.symm
    have e2 : ps ix = y := HY.out.symm
    simp only [e1, e2]
    have hxi := x.2
    have hixi : ix < i := by rw [HIX.out]; omega
    have hyt : y < a + (n - 3) - d := by rw [HY.out]; exact HSR.out.lo ix hixi
    have iy : (y : Int) ≤ 1000 := by omega
    have cx0 : W.cell? ⟨w.heap.size, 0, none⟩ = some (.slice (some ⟨b0, off, none⟩) len c) := by simp [World.cell?, hI.x]
    have cx1 : W.cell? ⟨w.heap.size, 1, none⟩ = some (.map (some b)) := by simp [World.cell?, hI.x]
    have ca : W.cell? ⟨w.heap.size + 1, 0, none⟩ = some (.int .i64 (a : Int)) := by simp [World.cell?, hI.a]
    have cm : W.cell? ⟨w.heap.size + 1 + 1 + 1, 0, none⟩ = some (.int .i64 (most : Int)) := by simp [World.cell?, hI.m]
    have co : W.cell? ⟨w.heap.size + 1 + 1 + 1 + 1 + 1 + 1, 0, none⟩ = some (.int .i64 (o : Int)) := by simp [World.cell?, hI.o]
    clear hI hxi e1 e2
    by_cases hyo : y < o
    · have i1 : (y : Int) - (o : Int) < 0 := by omega
      have hfin : Hid (KeepsOthers W W ∧ NxStop w b0 off len c b a n most o l ps i (.exit 0) (pre ++ [x]) W) := Lib.hid ⟨others_of_below (Below.refl _ _), pre, x, rfl, hPre.out, .inr ⟨rfl, by rw [← HIX.out, ← HY.out, ← HO.out]; exact hyo, HI.out⟩⟩
      gi_wp2
      exact hfin.out
    · obtain ⟨f, HF⟩ : ∃ f, Hid (f = y - o) := ⟨_, rfl⟩
      obtain ⟨d2, HD2⟩ : ∃ d2, Hid (d2 = a + (n - 3) - y) := ⟨_, rfl⟩
      have hf : (y : Int) - (o : Int) = (f : Int) := by rw [HF.out]; omega
      have hfa : (a : Int) - (f : Int) = (d2 : Int) := by rw [HD2.out, HF.out]; have := HO.out; omega
      have hd2a : d2 ≤ a := by rw [HD2.out]; have := HO.out; omega
      have hd21 : 1 ≤ d2 := by rw [HD2.out]; omega
      have id2 : (d2 : Int) ≤ 1000 := by omega
      have if1 : (f : Int) ≤ 1000 := by rw [HF.out]; omega
      have hf0 : ¬ (f : Int) < 0 := by omega
      obtain ⟨r, HR⟩ : ∃ r, Hid (r = rn l a d2) := ⟨_, rfl⟩
      have hr131 : (r : Int) ≤ 131 := by have := rn_le l a d2; rw [HR.out]; omega
      have HSM : Hid (Calls Tryz.prog 82 #[.agg #[.slice (some ⟨b0, off, none⟩) len c, .map (some b)], .int .i64 (f : Int), .int .i64 (a : Int), .int .i64 (most : Int)] W fun e w' => Below W.heap.size W w' ∧ e = .returned (.int .i64 (r : Int))) := Lib.hid (by
        have h := same_any b0 off len c a d2 most (some b) l W hl hd21 hd2a ha hm ⟨H.out.hl, H.out.hc, H.out.lies.below HI.out.below⟩
        rw [show a - d2 = f by rw [HD2.out, HF.out]; have := HO.out; omega] at h
        rwa [← HR.out] at h)
      have hw2 : IntKind.i64.wrap (d2 : Int) = (d2 : Int) := IntWalk.i64_in _ (by omega)
      by_cases hrn : n < r
      · have irn : (n : Int) < (r : Int) := by omega
        gi_wp2_with (refine ⟨trivial, ?_⟩; gi_at_call 82; refine (CallsIn.inRound _ (callsIn_wide.2 HSM.out)).mono ?_; rintro e w5 ⟨hb5, rfl⟩; have HI5 := Lib.hid (HI.out.next hb5); have HB5 := Lib.hid hb5; have cn5 : w5.cell? ⟨w.heap.size + 1 + 1, 0, none⟩ = some (.int .i64 (n : Int)) := by simp [World.cell?, HI5.out.n])
        have ca5 : w5.drew.cell? ⟨w.heap.size + 1, 0, none⟩ = some (.int .i64 (a : Int)) := by
          show w5.cell? ⟨w.heap.size + 1, 0, none⟩ = _
          simp [World.cell?, HI5.out.a]
        have HID : Hid (Nx w b0 off len c b a n most o (.int .i64 0) (.int .i64 0) w5.drew) := Lib.hid (HI5.out.next ⟨rfl, rfl, rfl, Nat.le_refl _, fun _ _ => rfl⟩)
        have c4 : w5.drew.cell? ⟨w.heap.size + 1 + 1 + 1 + 1, 0, none⟩ = some (.int .i64 0) := by
          show w5.cell? ⟨w.heap.size + 1 + 1 + 1 + 1, 0, none⟩ = _
          simp [World.cell?, HI5.out.r0]
        have z4 : w5.drew.frozen? ⟨w.heap.size + 1 + 1 + 1 + 1, 0, none⟩ = false := by
          show w5.frozen? ⟨w.heap.size + 1 + 1 + 1 + 1, 0, none⟩ = _
          simp [World.frozen?, HI5.out.r0]
        obtain ⟨W6, hW6⟩ : ∃ W6, w5.drew.setCell ⟨w.heap.size + 1 + 1 + 1 + 1, 0, none⟩ (.int .i64 (r : Int)) = W6 := ⟨_, rfl⟩
        have b5 : W6.heap[w.heap.size + 1 + 1 + 1 + 1 + 1]? = some (.cells #[.int .i64 0] 3 (0, 0)) := by rw [← hW6]; exact (Below.heap_setCell w5.drew ⟨w.heap.size + 1 + 1 + 1 + 1, 0, none⟩ _ _ (by show w.heap.size + 1 + 1 + 1 + 1 + 1 ≠ w.heap.size + 1 + 1 + 1 + 1; omega)).trans HID.out.r1
        have ca6 : W6.cell? ⟨w.heap.size + 1, 0, none⟩ = some (.int .i64 (a : Int)) := by
          have h6 : W6.heap[w.heap.size + 1]? = some (.cells #[.int .i64 (a : Int)] 3 (0, 0)) := by rw [← hW6]; exact (Below.heap_setCell w5.drew ⟨w.heap.size + 1 + 1 + 1 + 1, 0, none⟩ _ _ (by show w.heap.size + 1 ≠ w.heap.size + 1 + 1 + 1 + 1; omega)).trans HID.out.a
          simp [World.cell?, h6]
        have c5 : W6.cell? ⟨w.heap.size + 1 + 1 + 1 + 1 + 1, 0, none⟩ = some (.int .i64 0) := by simp [World.cell?, b5]
        have z5 : W6.frozen? ⟨w.heap.size + 1 + 1 + 1 + 1 + 1, 0, none⟩ = false := by simp [World.frozen?, b5]
        obtain ⟨W7, hW7⟩ : ∃ W7, W6.setCell ⟨w.heap.size + 1 + 1 + 1 + 1 + 1, 0, none⟩ (.int .i64 (d2 : Int)) = W7 := ⟨_, rfl⟩
        have ca7 : W7.cell? ⟨w.heap.size + 1, 0, none⟩ = some (.int .i64 (a : Int)) := by
          rw [← hW7]; exact (World.cell?_setCell_other _ _ _ _ (fun x => by simp only [Addr.mk.injEq] at x; have := x.1; omega)).trans ca6
        have HFIN : Hid (KeepsOthers W W7 ∧ NxStop w b0 off len c b a n most o l ps i .ret (pre ++ [x]) W7) := Lib.hid (by
          refine ⟨(others_of_below HB5.out).trans ((KeepsOthers.drew _).trans (by rw [← hW7, ← hW6]; exact (KeepsOthers.setCell _ _ _).trans (KeepsOthers.setCell _ _ _))), pre, x, rfl, hPre.out, .inl ⟨rfl, ?_, ?_, ?_⟩⟩
          · rw [← HIX.out, ← HY.out, ← HO.out]; omega
          · rw [← HIX.out, ← HY.out, ← HD2.out, ← HR.out]; exact hrn
          · rw [← HIX.out, ← HY.out, ← HD2.out, ← HR.out, ← hW7, ← hW6]; exact HID.out.put)
        clear b5 cn5
        refine region_round (S := fun W' => W'.cell? ⟨w.heap.size + 1, 0, none⟩ = some (.int .i64 (a : Int))) (by kernel_rfl) (by kernel_rfl) (fun ⟨_, _, h⟩ => h) ca5 (fun hHeld => ?_)
        refine wpAnyH_take (i := 0) (v := ?v9) rfl (by kernel_rfl) (by kernel_rfl) (by kernel_rfl) (fun _ _ _ h => h) (Or.inl ⟨by rfl, ?hy9⟩) (by assumption) ?rest9
        case hy9 =>
          intro W' hSw
          obtain e0 := hSw
          go_simp
          with_reducible rfl
        simp only [List.getElem_toArray, List.getElem_cons_zero, Act.put, List.setIfInBounds_toArray, List.set_cons_zero, List.set_cons_succ]
        refine wpAnyH_take (i := 1) (v := ?v10) rfl (by kernel_rfl) (by kernel_rfl) (by kernel_rfl) (fun _ _ _ h => h) (Or.inl ⟨by rfl, ?hy10⟩) (by assumption) ?rest10
        case hy10 =>
          intro W' hSw
          obtain e0 := hSw
          go_simp
          with_reducible rfl
        simp only [List.getElem_toArray, List.getElem_cons_zero, List.getElem_cons_succ, Act.put, List.setIfInBounds_toArray, List.set_cons_zero, List.set_cons_succ]
        refine wpAnyH_take (i := 2) (v := ?v11) rfl (by kernel_rfl) (by kernel_rfl) (by kernel_rfl) (fun _ _ _ h => h) (Or.inl ⟨by rfl, ?hy11⟩) (by assumption) ?rest11
        case hy11 =>
          intro W' hSw
          obtain e0 := hSw
          go_simp
          with_reducible rfl
        simp only [List.getElem_toArray, List.getElem_cons_zero, List.getElem_cons_succ, Act.put, List.setIfInBounds_toArray, List.set_cons_zero, List.set_cons_succ]
        refine wpAnyH_take (i := 3) (v := ?v12) rfl (by kernel_rfl) (by kernel_rfl) (by kernel_rfl) (fun _ _ _ h => h) (Or.inl ⟨by rfl, ?hy12⟩) (by assumption) ?rest12
        case hy12 =>
          intro W' hSw
          obtain e0 := hSw
          go_simp
          with_reducible rfl
        simp only [List.getElem_toArray, List.getElem_cons_zero, List.getElem_cons_succ, Act.put, List.setIfInBounds_toArray, List.set_cons_zero, List.set_cons_succ]
        refine wpAnyH_ready (rs := [4]) (by kernel_rfl) (by simp) ?_
        refine AllReadyH.cons (i := 4) rfl (fun K hK => ?_) AllReadyH.nil
        go_simp
        try rw [hW6]
        refine hK.out _ _ ca6 (fun hHeld => ?_)
        clear hK K
        refine wpAnyH_ready (rs := [5]) (by kernel_rfl) (by simp) ?_
        refine AllReadyH.cons (i := 5) rfl (fun K hK => ?_) AllReadyH.nil
        go_simp
        try rw [hW7]
        refine hK.out _ _ ca7 (fun hHeld => ?_)
        clear hK K
        refine wpAnyH_done (by kernel_rfl) ?_ _
        gi_wp2
        exact HFIN.out
      · have irn : ¬ (n : Int) < (r : Int) := by omega
        gi_wp2_with (refine ⟨trivial, ?_⟩; gi_at_call 82; refine (CallsIn.inRound _ (callsIn_wide.2 HSM.out)).mono ?_; rintro e w5 ⟨hb5, rfl⟩; have HI5 := Lib.hid (HI.out.next hb5); have HB5 := Lib.hid hb5; have cn5 : w5.cell? ⟨w.heap.size + 1 + 1, 0, none⟩ = some (.int .i64 (n : Int)) := by simp [World.cell?, HI5.out.n])
        have hP2 : Hid (∀ z ∈ pre ++ [x], rn l a (a + (n - 3) - ps (i - 1 - z.1)) ≤ n) := Lib.hid (fun z hz => by
          rcases List.mem_append.1 hz with hz | hz
          · exact hPre.out z hz
          · obtain rfl := List.mem_singleton.1 hz
            rw [← HIX.out, ← HY.out, ← HD2.out, ← HR.out]; omega)
        exact ⟨others_of_below HB5.out, ⟨HB5.out.mono HI.out.below.size, HB5.out.block _ hBW, HB5.out.block _ hBW⟩, HI5.out, hP2, Nat.lt_of_lt_of_le hBW HB5.out.size⟩
  case done =>
    rintro D9 xs W hD hS ⟨hI, hPre, hBW⟩ hK
    have hno : NoNext l a n d := Seen.done HSR.out (seen_of hPre.out hS)
    have hwD : w.heap.size ≤ D9 := by omega
    have hP := hI.put (v := .int .i64 0) (v' := .int .i64 0)
    have d4 : W.cell? ⟨w.heap.size + 1 + 1 + 1 + 1, 0, none⟩ = some (.int .i64 0) := by simp [World.cell?, hI.r0]
    have y4 : W.frozen? ⟨w.heap.size + 1 + 1 + 1 + 1, 0, none⟩ = false := by simp [World.frozen?, hI.r0]
    obtain ⟨V6, hV6⟩ : ∃ V6, W.setCell ⟨w.heap.size + 1 + 1 + 1 + 1, 0, none⟩ (.int .i64 0) = V6 := ⟨_, rfl⟩
    have b5 : V6.heap[w.heap.size + 1 + 1 + 1 + 1 + 1]? = some (.cells #[.int .i64 0] 3 (0, 0)) := by rw [← hV6]; exact (Below.heap_setCell W ⟨w.heap.size + 1 + 1 + 1 + 1, 0, none⟩ _ _ (by show w.heap.size + 1 + 1 + 1 + 1 + 1 ≠ w.heap.size + 1 + 1 + 1 + 1; omega)).trans hI.r1
    have d5 : (W.setCell ⟨w.heap.size + 1 + 1 + 1 + 1, 0, none⟩ (.int .i64 0)).cell? ⟨w.heap.size + 1 + 1 + 1 + 1 + 1, 0, none⟩ = some (.int .i64 0) := by rw [hV6]; simp [World.cell?, b5]
    have y5 : (W.setCell ⟨w.heap.size + 1 + 1 + 1 + 1, 0, none⟩ (.int .i64 0)).frozen? ⟨w.heap.size + 1 + 1 + 1 + 1 + 1, 0, none⟩ = false := by rw [hV6]; simp [World.frozen?, b5]
    clear hV6 b5
    obtain ⟨V, hV⟩ : ∃ V, (W.setCell ⟨w.heap.size + 1 + 1 + 1 + 1, 0, none⟩ (.int .i64 0)).setCell ⟨w.heap.size + 1 + 1 + 1 + 1 + 1, 0, none⟩ (.int .i64 0) = V := ⟨_, rfl⟩
    have hKV : V.heap[D9]? = some (.deferred (some [])) := by rw [← hV]; exact (KeepsOthers.setCell _ _ _).same D9 _ ((KeepsOthers.setCell _ _ _).same D9 _ hK rfl) rfl
    rw [hV] at hP
    have hE := nx_end hP hwD hKV
    have k4 : (V.putObj D9 (.deferred none)).cell? ⟨w.heap.size + 1 + 1 + 1 + 1, 0, none⟩ = some (.int .i64 0) := by simp [World.cell?, hE.r0]
    have k5 : (V.putObj D9 (.deferred none)).cell? ⟨w.heap.size + 1 + 1 + 1 + 1 + 1, 0, none⟩ = some (.int .i64 0) := by simp [World.cell?, hE.r1]
    have HF9 : Hid (NextPost l a n d w (.returned (.tuple #[.int .i64 0, .int .i64 0])) (V.putObj D9 (.deferred none))) := Lib.hid ⟨hE.below, .inr ⟨hno, rfl⟩⟩
    have HKV := Lib.hid hKV
    have HV := Lib.hid hV
    clear hno hE hP hI hK hKV hV
    gi_wp2
    rw [HV.out]
    refine ⟨by simp, .inl ⟨_, _, rfl, run_takeDeferred HKV.out, ?_⟩⟩
    refine ⟨.tuple #[.int .i64 0, .int .i64 0], ?_, HF9.out⟩
    simp [results, Tryz.f72, go_sem, k4, k5]
  case stop =>
    rintro D9 c9 pre W hD hSp ⟨pre0, x, hpre, hPre, hStop⟩ hK
    have hwD : w.heap.size ≤ D9 := by omega
    have hx : x.1 = pre0.length ∧ pre0.map (·.1) = List.range pre0.length := by
      rw [hpre] at hSp
      simp only [List.map_append, List.map_cons, List.map_nil, List.length_append, List.length_cons, List.length_nil, Nat.zero_add] at hSp
      rw [List.range_succ] at hSp
      have h9 := List.append_inj hSp (by simp)
      exact ⟨by simpa using h9.2, h9.1⟩
    have hsn := seen_of hPre hx.2
    have hri : pre0.length < i := by rw [← hx.1]; exact x.2
    rw [hx.1] at hStop
    rcases hStop with ⟨rfl, hk1, hk2, hI⟩ | ⟨rfl, hk1, hI⟩
    · have hfound := Seen.found HSR.out hsn hri hk1 hk2
      obtain ⟨n2, HN2'⟩ : ∃ n2, Hid (n2 = rn l a (a + (n - 3) - ps (i - 1 - pre0.length))) := ⟨_, rfl⟩
      obtain ⟨d2, HD2'⟩ : ∃ d2, Hid (d2 = a + (n - 3) - ps (i - 1 - pre0.length)) := ⟨_, rfl⟩
      rw [← HD2'.out] at hI hfound HN2'
      rw [← HN2'.out] at hI hfound
      have hE := nx_end hI hwD hK
      have k4 : (W.putObj D9 (.deferred none)).cell? ⟨w.heap.size + 1 + 1 + 1 + 1, 0, none⟩ = some (.int .i64 (n2 : Int)) := by simp [World.cell?, hE.r0]
      have k5 : (W.putObj D9 (.deferred none)).cell? ⟨w.heap.size + 1 + 1 + 1 + 1 + 1, 0, none⟩ = some (.int .i64 (d2 : Int)) := by simp [World.cell?, hE.r1]
      have HF9 : Hid (NextPost l a n d w (.returned (.tuple #[.int .i64 (n2 : Int), .int .i64 (d2 : Int)])) (W.putObj D9 (.deferred none))) := Lib.hid ⟨hE.below, .inl ⟨n2, d2, hfound, rfl⟩⟩
      clear hk1 hk2 hfound hI hE
      gi_wp2
      refine ⟨by simp, .inl ⟨_, _, rfl, run_takeDeferred hK, ?_⟩⟩
      refine ⟨.tuple #[.int .i64 (n2 : Int), .int .i64 (d2 : Int)], ?_, HF9.out⟩
      simp [results, Tryz.f72, go_sem, k4, k5]
    · have hno : NoNext l a n d := Seen.cut HSR.out hsn hri hk1
      clear hk1
      have hP := hI.put (v := .int .i64 0) (v' := .int .i64 0)
      have d4 : W.cell? ⟨w.heap.size + 1 + 1 + 1 + 1, 0, none⟩ = some (.int .i64 0) := by simp [World.cell?, hI.r0]
      have y4 : W.frozen? ⟨w.heap.size + 1 + 1 + 1 + 1, 0, none⟩ = false := by simp [World.frozen?, hI.r0]
      obtain ⟨V6, hV6⟩ : ∃ V6, W.setCell ⟨w.heap.size + 1 + 1 + 1 + 1, 0, none⟩ (.int .i64 0) = V6 := ⟨_, rfl⟩
      have b5 : V6.heap[w.heap.size + 1 + 1 + 1 + 1 + 1]? = some (.cells #[.int .i64 0] 3 (0, 0)) := by rw [← hV6]; exact (Below.heap_setCell W ⟨w.heap.size + 1 + 1 + 1 + 1, 0, none⟩ _ _ (by show w.heap.size + 1 + 1 + 1 + 1 + 1 ≠ w.heap.size + 1 + 1 + 1 + 1; omega)).trans hI.r1
      have d5 : (W.setCell ⟨w.heap.size + 1 + 1 + 1 + 1, 0, none⟩ (.int .i64 0)).cell? ⟨w.heap.size + 1 + 1 + 1 + 1 + 1, 0, none⟩ = some (.int .i64 0) := by rw [hV6]; simp [World.cell?, b5]
      have y5 : (W.setCell ⟨w.heap.size + 1 + 1 + 1 + 1, 0, none⟩ (.int .i64 0)).frozen? ⟨w.heap.size + 1 + 1 + 1 + 1 + 1, 0, none⟩ = false := by rw [hV6]; simp [World.frozen?, b5]
      clear hV6 b5
      obtain ⟨V, hV⟩ : ∃ V, (W.setCell ⟨w.heap.size + 1 + 1 + 1 + 1, 0, none⟩ (.int .i64 0)).setCell ⟨w.heap.size + 1 + 1 + 1 + 1 + 1, 0, none⟩ (.int .i64 0) = V := ⟨_, rfl⟩
      have hKV : V.heap[D9]? = some (.deferred (some [])) := by rw [← hV]; exact (KeepsOthers.setCell _ _ _).same D9 _ ((KeepsOthers.setCell _ _ _).same D9 _ hK rfl) rfl
      rw [hV] at hP
      have hE := nx_end hP hwD hKV
      have k4 : (V.putObj D9 (.deferred none)).cell? ⟨w.heap.size + 1 + 1 + 1 + 1, 0, none⟩ = some (.int .i64 0) := by simp [World.cell?, hE.r0]
      have k5 : (V.putObj D9 (.deferred none)).cell? ⟨w.heap.size + 1 + 1 + 1 + 1 + 1, 0, none⟩ = some (.int .i64 0) := by simp [World.cell?, hE.r1]
      have HF9 : Hid (NextPost l a n d w (.returned (.tuple #[.int .i64 0, .int .i64 0])) (V.putObj D9 (.deferred none))) := Lib.hid ⟨hE.below, .inr ⟨hno, rfl⟩⟩
      have HKV := Lib.hid hKV
      have HV := Lib.hid hV
      clear hno hE hP hI hK hKV hV
      gi_wp2
      rw [HV.out]
      refine ⟨by simp, .inl ⟨_, _, rfl, run_takeDeferred HKV.out, ?_⟩⟩
      refine ⟨.tuple #[.int .i64 0, .int .i64 0], ?_, HF9.out⟩
      simp [results, Tryz.f72, go_sem, k4, k5]
end Go.Proofs.YtpbcdmefngbjjaaGreatDoor
namespace Go.Proofs.YtpbcdmefngbjjaaGreatDoor
open Go.RowKit Go.Shelf Go.Maps
open Go.Lib
attribute [local go_sem] Oper.semAt_some
theorem came_nil (p : Option Addr) (c : Nat) (w : World) : Came w p 0 c [] := ⟨rfl, Nat.zero_le _, .inl rfl⟩
set_option maxRecDepth 100000 in
set_option maxHeartbeats 1000000 in
theorem rdict_nil (p : Option Addr) (c : Nat) (w : World) : Calls Tryz.prog 26 #[.slice p 0 c] w (RowPost (dicL []) w) := by
  have HSp := Lib.hid (spoken_any p 0 c [] w (by omega) (came_nil p c w))
  have HE : Hid (dicL [] = spL []) := Lib.hid rfl
  rw [HE.out]
  obtain ⟨S, HS⟩ : ∃ S, Hid (S = spL ([] : List UInt8)) := ⟨_, rfl⟩
  rw [← HS.out] at HSp ⊢
  have hSl : Hid (S.length = 0) := Lib.hid (by rw [HS.out]; rfl)
  clear HE
  go_enter Tryz.func26, Tryz.ntmps26
  go_wp2_with fail
  go_loopw [4, 5, 6] (fun ov fv av wr => ov = .slice none 0 0 ∧ fv = .int .i64 0 ∧ av = .int .i64 0 ∧ wr = w) (fun _ _ _ _ => 0)
  case atStart => exact ⟨rfl, rfl, rfl, rfl⟩
  case round =>
    obtain ⟨rfl, rfl, rfl, rfl⟩ := hrel
    go_wp2_with fail
    refine (HSp.out).mono ?_
    rintro e w3 ⟨v3, rfl, hg3⟩
    have hb3 : Below wr.heap.size wr w3 := hg3.below (Nat.le_refl _) (by intro k hk; cases hk)
    obtain ⟨p3, c3, rfl, hs3, -⟩ := own_bytes hg3.own
    rw [hSl.out]
    have HS3 := Lib.hid hs3
    have G3 := Lib.hid (Grew.of_below (l := []) (World.ownsRow_nil wr wr.heap.size 5 1) hb3)
    have hbl3 : Hid (([] : List UInt8).length + 0 ≤ 140737488355328 ∧ wr.heap.size ≤ w3.heap.size) := Lib.hid ⟨by decide, hb3.size⟩
    clear hg3 hb3 hs3
    go_wp2_with (at_builtin; refine wpList_append_bs rfl (.tmp 49) (.tmp 53) rfl wr.heap.size _ 0 [] rfl rfl G3.out.own p3 0 c3 S rfl hSl.out HS3.out hbl3.out.1 hbl3.out.2 ?_)
    intro v4 w4 hg4
    have G4 := Lib.hid (G3.out.trans hg4)
    clear hg4
    have hB4 : Hid (Below wr.heap.size wr w4) := Lib.hid (G4.out.below (Nat.le_refl _) (by intro k hk; cases hk))
    go_wp2_with fail
    go_ret2
    exact ⟨hB4.out, _, rfl, G4.out.own⟩
set_option maxRecDepth 100000 in
set_option maxHeartbeats 1000000 in
theorem it83_nil (p : Option Addr) (c : Nat) (m : Nat) (lr Bb Bn : Nat) (J Jx : List (Pl 0) → World → Prop) (W : World) (hBb : W.cell? ⟨Bb, 0, none⟩ = some (.slice p 0 c)) (h0 : J [] W) :
    CallsIn Fence.wide m Tryz.prog 83 #[.func (.yield lr) #[] #[], .pointer (some ⟨Bb, 0, none⟩), .pointer (some ⟨Bn, 0, none⟩)] W fun e W' => (∃ v, e = .returned v) ∧
      ((∃ ys : List (Pl 0), ys.map (·.1) = List.range 0 ∧ J ys W') ∨ (∃ pre : List (Pl 0), True ∧ Jx pre W')) := by
  have H0 := Lib.hid h0
  clear h0
  refine callsIn_of_wp Tryz.func83 rfl trivial ?_ rfl
  simp only [Tryz.ntmps83, List.size_toArray, List.length_cons, List.length_nil, Nat.reduceAdd, Nat.reduceSub, Array.replicate_succ, Array.replicate_zero, List.push_toArray, List.append_toArray, List.nil_append, List.cons_append]
  gi_wp2
  gi_loopw [4] (fun tv wr => tv = .int .i64 0 ∧ wr = W) (fun _ _ => 0)
  case atStart => exact ⟨rfl, rfl⟩
  case round =>
    obtain ⟨rfl, rfl⟩ := hrel
    gi_wp2
    go_end0
    exact ⟨⟨_, rfl⟩, .inl ⟨[], rfl, H0.out⟩⟩
theorem chunk_stops_nil (p : Option Addr) (c : Nat) (m : Nat) (Bb Bn N0 : Nat) (w : World) (hB2 : Bb < w.heap.size) (hBb : w.cell? ⟨Bb, 0, none⟩ = some (.slice p 0 c)) :
    SeqStopsK Fence.wide m Tryz.prog 83 #[.pointer (some ⟨Bb, 0, none⟩), .pointer (some ⟨Bn, 0, none⟩)] (fun _ : Pl 0 => #[.slice p 0 c]) (Keep3 N0 Bn Bb) (fun ys => ys.map (·.1) = List.range 0) (fun _ => True) 0 w := fun lr J Jx W hW _ _ _ h0 =>
  it83_nil p c m lr Bb Bn J Jx W ((hW.cell (p := ⟨Bb, 0, none⟩) hB2).trans hBb) h0
set_option maxRecDepth 100000 in
set_option maxHeartbeats 2000000 in
theorem appendPlain_nil (p : Option Addr) (c : Nat) (B : Nat) (w : World) (hB : B ≤ w.heap.size) : Calls Tryz.prog 50 #[.slice none 0 0, .slice p 0 c] w (App B w (.slice none 0 0) (spL [])) := by
  refine (callsIn_wide (n := 9)).1 ?_
  refine callsIn_of_wp_marks Tryz.func50 rfl trivial ?_ rfl
  simp only [Tryz.ntmps50, List.size_toArray, List.length_cons, List.length_nil, Nat.reduceAdd, Nat.reduceSub, Array.replicate_succ, Array.replicate_zero, List.push_toArray, List.append_toArray, List.nil_append, List.cons_append]
  gi_wp2_with (refine ⟨trivial, ?_⟩; gi_at_call 73; refine (chunk_in _ _ _ _ _).mono ?_; rintro e w' ⟨rfl, rfl⟩)
  obtain ⟨W0, hW0⟩ : ∃ W0, (((w.alloc (.cells #[.slice none 0 0] 22)).alloc (.cells #[.slice p 0 c] 22)).alloc (.cells #[.int .i64 128] 3)) = W0 := ⟨_, rfl⟩
  have hs0 : W0.heap.size = w.heap.size + 3 := by rw [← hW0]; simp
  have hbe : Below w.heap.size w W0 := by rw [← hW0]; exact (((Below.refl _ w).alloc (Nat.le_refl _) _).alloc (by simp) _).alloc (by simp <;> omega) _
  have hO0 : W0.heap[w.heap.size]? = some (.cells #[.slice none 0 0] 22 (0, 0)) := by
    rw [← hW0]; exact (Below.heap_alloc _ _ _ (by simp <;> omega)).trans ((Below.heap_alloc _ _ _ (by simp)).trans (World.alloc_heap_new w _))
  have hI1 : W0.heap[w.heap.size + 1]? = some (.cells #[.slice p 0 c] 22 (0, 0)) := by
    rw [← hW0]; refine (Below.heap_alloc _ _ _ (by simp)).trans ?_
    have := World.alloc_heap_new (w.alloc (.cells #[.slice none 0 0] 22)) (.cells #[.slice p 0 c] 22); rwa [World.size_alloc] at this
  rw [hW0]
  refine wpIn_rangeFunc_ownF rfl (by omega) (gf := 83) (lb := #[.pointer (some ⟨w.heap.size + 1, 0, none⟩), .pointer (some ⟨w.heap.size + 1 + 1, 0, none⟩)]) rfl trivial (enters_of Tryz.func83 (by kernel_rfl) rfl)
    (chunk_stops_nil p c _ (w.heap.size + 1) (w.heap.size + 1 + 1) B W0 (by omega) (by simp [World.cell?, hI1])) Keep3.trans
    (fun W lo o o' hlo ho hc hw => ⟨(Below.refl _ W).grown (grownBy_putObj' W lo o') (by have := (Array.getElem?_eq_some_iff.1 ho).1; omega) (fun k e => by cases e; omega), World.putObj_heap_other (by omega), World.putObj_heap_other (by omega)⟩) (Below.refl _ _) (fun _ => rfl)
    (fun _ W => Below w.heap.size w W ∧ W.heap[w.heap.size]? = some (.cells #[.slice none 0 0] 22 (0, 0)))
    (fun _ _ _ => False)
    (fun s W W' row h hg hr => ⟨h.1.grown hg h.1.size (fun k e => by have := (hr k e).1; omega), (grownBy_keeps_cells hg (fun r e => (hr r e).2) h.2 rfl).trans h.2⟩)
    (fun _ _ _ _ _ h _ _ => h)
    ⟨hbe, hO0⟩ ?a1 ?assign ?body ?done ?stop
  case assign =>
    intro lo x W K hK
    gi_wp2
    exact hK
  case body =>
    rintro lo pre x W _ h
    exact absurd h (Nat.not_lt_zero _)
  case done =>
    rintro Dd xs W hD hxs ⟨hb, hO⟩ hK
    have cO : W.cell? ⟨w.heap.size, 0, none⟩ = some (.slice none 0 0) := by simp [World.cell?, hO]
    have hB9 : Below w.heap.size w (W.putObj Dd (.deferred none)) := hb.grown (grownBy_putObj' W Dd (.deferred none)) hb.size (fun k e => by cases e; omega)
    have hfin : Grew B w (.slice none 0 0) [] (W.putObj Dd (.deferred none)) (.slice none 0 0) := Grew.of_below (l := []) (World.ownsRow_nil w B 5 1) hB9
    clear hb hO hB9
    gi_wp2
    refine ⟨by simp, .inl ⟨_, _, rfl, run_takeDeferred hK, ?_⟩⟩
    refine ⟨_, ?_, .slice none 0 0, rfl, hfin⟩
    simp [results, Tryz.f50, go_sem]
  case stop =>
    rintro D c pre W hD _ h
    exact h.elim
set_option maxRecDepth 100000 in
set_option maxHeartbeats 1000000 in
theorem index_nil (p : Option Addr) (c : Nat) (w : World) : Calls Tryz.prog 48 #[.slice p 0 c] w fun e w1 => Below w.heap.size w w1 ∧ e = .returned (.agg #[.slice p 0 c, .map (some (w.heap.size + 1))]) := by
  have hmm := @run_makeMap Tryz.prog
  obtain ⟨W0, HW0⟩ : ∃ W0, Hid (((w.alloc (.cells #[.slice none 0 0, .map none] 61)).alloc (.map #[] 0)).alloc (.cells #[.slice p 0 c, .map (some (w.heap.size + 1))] 61) = W0) := ⟨_, Lib.hid rfl⟩
  have HB0 : Hid (Below w.heap.size w W0) := Lib.hid (by
    rw [← HW0.out]
    exact (((Below.refl _ w).alloc (Nat.le_refl _) _).alloc (by simp) _).alloc (by simp; omega) _)
  have HX0 : Hid (W0.heap[w.heap.size]? = some (.cells #[.slice none 0 0, .map none] 61 (0, 0)) ∧ W0.heap[w.heap.size + 1 + 1]? = some (.cells #[.slice p 0 c, .map (some (w.heap.size + 1))] 61 (0, 0))) := Lib.hid (by
    rw [← HW0.out]
    constructor
    · exact (Below.heap_alloc _ _ _ (by simp; omega)).trans ((Below.heap_alloc _ _ _ (by simp)).trans (World.alloc_heap_new w _))
    · have := World.alloc_heap_new ((w.alloc (.cells #[.slice none 0 0, .map none] 61)).alloc (.map #[] 0)) (.cells #[.slice p 0 c, .map (some (w.heap.size + 1))] 61); rwa [World.size_alloc, World.size_alloc] at this)
  go_enter Tryz.func48, Tryz.ntmps48
  go_wp2_with fail
  rw [HW0.out]
  clear hmm
  go_loopw [4] (fun pv wr => pv = .int .i64 0 ∧ wr = W0) (fun _ _ => 0)
  case atStart => exact ⟨rfl, rfl⟩
  case round =>
    obtain ⟨rfl, rfl⟩ := hrel
    have c0 : wr.cell? ⟨w.heap.size + 1 + 1, 0, none⟩ = some (.slice p 0 c) := by simp [World.cell?, HX0.out.2]
    have c1 : wr.cell? ⟨w.heap.size + 1 + 1, 1, none⟩ = some (.map (some (w.heap.size + 1))) := by simp [World.cell?, HX0.out.2]
    have r0 : wr.cell? ⟨w.heap.size, 0, none⟩ = some (.slice none 0 0) := by simp [World.cell?, HX0.out.1]
    have r1 : wr.cell? ⟨w.heap.size, 1, none⟩ = some (.map none) := by simp [World.cell?, HX0.out.1]
    have z0 : wr.frozen? ⟨w.heap.size, 0, none⟩ = false := by simp [World.frozen?, HX0.out.1]
    have z1 : wr.frozen? ⟨w.heap.size, 1, none⟩ = false := by simp [World.frozen?, HX0.out.1]
    have hrow : ∀ (W : World) (y0 y1 s1 s2 : Value), W.heap[w.heap.size]? = some (.cells #[y0, y1] 61 (0, 0)) → ((W.setCell ⟨w.heap.size, 0, none⟩ s1).setCell ⟨w.heap.size, 1, none⟩ s2).heap[w.heap.size]? = some (.cells #[s1, s2] 61 (0, 0)) := fun W y0 y1 s1 s2 h0 => by
      have h1 := setRow_heap W w.heap.size _ (#[y0, y1].setIfInBounds 0 s1) 61 (0, 0) h0
      rw [← setCell_eq_setRow W w.heap.size 0 _ 61 (0, 0) _ h0] at h1
      have h2 := setRow_heap _ w.heap.size _ ((#[y0, y1].setIfInBounds 0 s1).setIfInBounds 1 s2) 61 (0, 0) h1
      rw [← setCell_eq_setRow _ w.heap.size 1 _ 61 (0, 0) _ h1] at h2
      exact h2
    have HEND : Hid (Below w.heap.size w ((wr.setCell ⟨w.heap.size, 0, none⟩ (.slice p 0 c)).setCell ⟨w.heap.size, 1, none⟩ (.map (some (w.heap.size + 1))))) := Lib.hid
      ((HB0.out.setCell (p := ⟨w.heap.size, 0, none⟩) (Nat.le_refl _) _).setCell (p := ⟨w.heap.size, 1, none⟩) (Nat.le_refl _) _)
    have HROW := Lib.hid (hrow wr _ _ (.slice p 0 c) (.map (some (w.heap.size + 1))) HX0.out.1)
    clear hrow
    go_wp2_with fail
    refine bodyPost_ret (results_cell_row rfl _ _ w.heap.size 61 _ (0, 0) _ rfl HROW.out rfl rfl rfl) rfl ?_
    exact ⟨HEND.out, rfl⟩
set_option maxRecDepth 100000 in
set_option maxHeartbeats 1000000 in
theorem pdict_nil (p : Option Addr) (c : Nat) (w : World) : Calls Tryz.prog 25 #[.slice p 0 c] w (RowPost (dicL []) w) := by
  have HIX := Lib.hid (index_nil p c w)
  have HAP : Hid (∀ W, w.heap.size ≤ W.heap.size → Calls Tryz.prog 50 #[.slice none 0 0, .slice p 0 c] W (App w.heap.size W (.slice none 0 0) (spL []))) := Lib.hid (fun W h => appendPlain_nil p c w.heap.size W h)
  have HE : Hid (dicL [] = spL []) := Lib.hid rfl
  rw [HE.out]
  obtain ⟨R, HR⟩ : ∃ R, Hid (R = spL ([] : List UInt8)) := ⟨_, rfl⟩
  rw [← HR.out] at HAP ⊢
  clear HE
  go_enter Tryz.func25, Tryz.ntmps25
  go_wp2_with fail
  refine (HIX.out).mono ?_
  rintro e w1 ⟨hb1, rfl⟩
  have HB1 := Lib.hid hb1
  clear hb1
  go_wp2_with fail
  have HBW0 : Hid (Below w.heap.size w (w1.alloc (.cells #[.slice p 0 c, .map (some (w.heap.size + 1))] 61))) := Lib.hid (HB1.out.trans (((Below.refl _ w1).alloc (Nat.le_refl _) _).mono HB1.out.size))
  revert HBW0
  generalize w1.alloc (.cells #[.slice p 0 c, .map (some (w.heap.size + 1))] 61) = W0
  intro HBW0
  go_loopw [5, 6, 7] (fun ov fv av wr => ov = .slice none 0 0 ∧ fv = .int .i64 0 ∧ av = .int .i64 0 ∧ wr = W0) (fun _ _ _ _ => 0)
  case atStart => exact ⟨rfl, rfl, rfl, rfl⟩
  case round =>
    obtain ⟨rfl, rfl, rfl, rfl⟩ := hrel
    have HC := Lib.hid (HAP.out wr HBW0.out.size)
    go_wp2_with fail
    refine (HC.out).mono ?_
    rintro e w4 ⟨v4, rfl, hg4⟩
    have hB4 : Hid (Below w.heap.size w w4) := Lib.hid (HBW0.out.trans ((⟨hg4.grown.os, hg4.grown.tape, hg4.grown.output, hg4.grown.size, fun k hk => hg4.grown.block k hk (by intro e; cases e)⟩ : Below wr.heap.size wr w4).mono HBW0.out.size))
    obtain ⟨q4, d4, rfl, -, -⟩ := own_bytes hg4.own
    obtain ⟨m4, HM4⟩ : ∃ m4, Hid (m4 = R.length) := ⟨_, rfl⟩
    have hown4 : Hid (w4.ownsRow w.heap.size 5 1 (.slice q4 R.length d4) R.length (u8s R)) := Lib.hid hg4.own
    rw [← HM4.out] at hown4 ⊢
    clear hg4
    go_wp2_with fail
    go_ret2
    exact ⟨hB4.out, _, rfl, by rw [← HM4.out]; exact hown4.out⟩
theorem pidx (b0 off len c : Nat) (l : List UInt8) (w : World) (hl : len ≤ 1000) (h : Came w (some ⟨b0, off, none⟩) len c l) : Calls Tryz.prog 48 #[.slice (some ⟨b0, off, none⟩) len c] w (IdxPost l b0 off len c w) :=
  (index_any b0 off len c l w hl h).mono fun e w1 hI => by
    obtain ⟨hb, b, base, D, rfl, hG, hO⟩ := hI
    refine ⟨hb, some b, rfl, fun W hW a ha => ?_⟩
    have hC : ∀ V, Below w1.heap.size w1 V → Came V (some ⟨b0, off, none⟩) len c l := fun V hV => ⟨h.hl, h.hc, h.lies.below (hb.trans (hV.mono hb.size))⟩
    refine plongest_any b0 off len c a (min 131 (len - a)) (some b) l W hl ha (Lib.hid rfl) (Lib.hid h.hl) (fun V hV n d hst hn => ?_)
    have hV1 := hW.trans (hV.mono hW.size)
    exact next_any b0 off len c a n d _ b base D l V hl ha (Lib.hid rfl) (hC V hV1) hG (groups_next hO hV1) hst hn
/-- The program's Dict. -/
theorem pdict_any (p : Option Addr) (c : Nat) (l : List UInt8) (w : World) (hl : l.length ≤ 1000) (hc : l.length ≤ c) (hb : Bs w p l) : Calls Tryz.prog 25 #[.slice p l.length c] w (RowPost (dicL l) w) := by
  by_cases h0 : 0 < l.length
  · obtain ⟨b0, off, rfl⟩ : ∃ b off, p = some ⟨b, off, none⟩ := by
      obtain ⟨b, off, hp, -⟩ := at_cell hb h0
      exact ⟨b, off, hp⟩
    have hC : Came w (some ⟨b0, off, none⟩) l.length c l := ⟨rfl, hc, hb⟩
    exact pdict_some b0 off l.length c l w hl hC (pidx b0 off l.length c l w hl hC)
  · obtain rfl := List.eq_nil_of_length_eq_zero (Nat.eq_zero_of_not_pos h0)
    exact pdict_nil p c w
theorem rdict_any (p : Option Addr) (c : Nat) (l : List UInt8) (w : World) (hl : l.length ≤ 1000) (hc : l.length ≤ c) (hb : Bs w p l) : Calls Tryz.prog 26 #[.slice p l.length c] w (RowPost (dicL l) w) := by
  by_cases h0 : 0 < l.length
  · obtain ⟨b0, off, rfl⟩ : ∃ b off, p = some ⟨b, off, none⟩ := by
      obtain ⟨b, off, hp, -⟩ := at_cell hb h0
      exact ⟨b, off, hp⟩
    exact rdict_some b0 off l.length c l w hl ⟨rfl, hc, hb⟩
  · obtain rfl := List.eq_nil_of_length_eq_zero (Nat.eq_zero_of_not_pos h0)
    exact rdict_nil p c w
end Go.Proofs.YtpbcdmefngbjjaaGreatDoor
namespace Go.Proofs.YtpbcdmefngbjjaaGreatDoor
open Go.RowKit
open Go.Lib
/-- Where Undict stands. -/
structure UAw (w wr : World) (l rest o : List UInt8) (pb : Option Addr) (n cb : Nat) (ov : Value) : Prop where
  len : rest.length = n
  cap : n ≤ cb
  bytes : Bs w pb rest
  out : Grew w.heap.size w (.slice none 0 0) o wr ov
  eq : und o rest = und [] l
  room : o.length + 131 * rest.length ≤ 91700
theorem UAw.below {w wr : World} {l rest o : List UInt8} {pb : Option Addr} {n cb : Nat} {ov : Value} (h : UAw w wr l rest o pb n cb ov) : Below w.heap.size w wr := h.out.below (Nat.le_refl _) (by intro k hk; cases hk)
theorem UAw.next {w wr w2 : World} {l rest o o2 : List UInt8} {b0 off n cb k : Nat} {ov v2 : Value} (h : UAw w wr l rest o (some ⟨b0, off, none⟩) n cb ov) (hk : k ≤ n) (hg : Grew w.heap.size w (.slice none 0 0) o2 w2 v2) (he : und [] l = und o2 (rest.drop k)) (hr : o2.length + 131 * (rest.drop k).length ≤ 91700) (q : Nat) :
    UAw w (w2.drewN q) l (rest.drop k) o2 (if cb = k then some ⟨b0, off, none⟩ else some ⟨b0, off + k, none⟩) (n - k) (cb - k) v2 := by
  refine ⟨by rw [List.length_drop, h.len], by have := h.cap; omega, ?_, hg.drewN q, he.symm, hr⟩
  split
  · exact .inl (by rw [List.length_drop, h.len]; have := h.cap; omega)
  · exact bs_tail h.bytes k (by rw [h.len]; exact hk) rfl
set_option maxRecDepth 100000 in
set_option maxHeartbeats 1600000 in
theorem undict_wide (p : Option Addr) (c : Nat) (l : List UInt8) (w : World) (hl : l.length ≤ 700) (hc : l.length ≤ c) (hb : Bs w p l) :
    Calls Tryz.prog 27 #[.slice p l.length c] w (BytesPost (und [] l) w) := by
  have H0 : Hid (UAw w w l l [] p l.length c (.slice none 0 0)) := Lib.hid ⟨rfl, hc, hb, Grew.refl (l := []) (World.ownsRow_nil w w.heap.size 5 1), rfl, by simp; omega⟩
  obtain ⟨n0, HN⟩ : ∃ n, Hid (n = l.length) := ⟨_, rfl⟩
  rw [← HN.out] at H0 ⊢
  clear hb hl hc
  go_enter Tryz.func27, Tryz.ntmps27
  go_wp2_with fail
  go_loopw [0, 4] (fun bv ov wr => ∃ (rest o : List UInt8) (pb : Option Addr) (n cb : Nat), bv = .slice pb n cb ∧ Hid (UAw w wr l rest o pb n cb ov)) (fun bv _ _ => vlen bv)
  case atStart => exact ⟨l, [], p, _, _, rfl, H0⟩
  case round =>
    obtain ⟨rest, o, pb, n, cb, rfl, HU⟩ := hrel
    cases rest with
    | nil =>
      obtain rfl : n = 0 := HU.out.len.symm
      go_wp2_with fail
      go_ret2
      have h := HU.out
      refine ⟨h.below, ?_⟩
      rw [← h.eq, und_nil]
      exact ⟨_, rfl, h.out.own⟩
    | cons x r =>
      have hlen := HU.out.len
      rw [List.length_cons] at hlen
      obtain ⟨b0, off, d, rfl, hb0, hc0, hd, hd2⟩ := (HU.out.bytes.below HU.out.below).at (k := 0) (by simp)
      have hn0 : 0 < n := by omega
      rw [Nat.add_zero] at hc0
      obtain ⟨qo, co, rfl, -, -⟩ := own_bytes HU.out.out.own
      have HL := Lib.hid hlen
      clear hlen
      have hx : Hid (x.toNat = d) := Lib.hid hd.out
      have hbw : Hid (Below w.heap.size w wr) := Lib.hid HU.out.below
      have hno : Hid ((o.length : Int) ≤ 91700) := Lib.hid (by have := HU.out.room; omega)
      by_cases hp : d < 128
      · have t1 : decide ((128 : Int) ≤ (d : Int)) = false := by simp; omega
        by_cases hs : n < d + 2
        · have HT := Lib.hid (plainTok_no qo o.length co b0 off cb d n wr hc0 hd2 (by have := hno.out; omega) (by omega) hs)
          have hR : Hid (und [] l = none) := Lib.hid (by rw [← HU.out.eq]; exact und_plain_no (by rw [hx.out]; exact hp) (by rw [hx.out]; have := HL.out; omega))
          go_wp2_with fail
          refine (HT.out).mono ?_
          rintro e w' ⟨rfl, rfl⟩
          go_wp2_with fail
          go_ret2
          refine ⟨hbw.out, ?_⟩
          rw [hR.out]; rfl
        · have hB2 := HU.out.bytes.below hbw.out
          have HT := Lib.hid (plainTok_yes w.heap.size qo o (x :: r) co b0 off cb d n wr hbw.out.size HU.out.out.own (by simp [HL.out]) hB2 hx.out (by have := hno.out; omega) (by omega) HU.out.cap)
          have hR : Hid (und [] l = und (o ++ ((x :: r).drop 1).take (d + 1)) ((x :: r).drop (d + 2))) := Lib.hid (by rw [← HU.out.eq, und_plain (by rw [hx.out]; exact hp) (by rw [hx.out]; have := HL.out; omega), hx.out]; rfl)
          have hrm : Hid ((o ++ ((x :: r).drop 1).take (d + 1)).length + 131 * ((x :: r).drop (d + 2)).length ≤ 91700) := Lib.hid (by
            have h1 := HU.out.room
            have h2 := HL.out
            simp only [List.length_append, List.length_take, List.length_drop, List.length_cons] at h1 ⊢
            omega)
          have hcb := HU.out.cap
          clear hB2
          go_wp2_with fail
          refine (HT.out).mono ?_
          rintro e w2 ⟨v2, rfl, hg2⟩
          have HG2 := Lib.hid (HU.out.out.trans hg2)
          clear hg2
          go_wp2_with fail
          go_quiet (fail)
          go_wp2_with fail
          go_roundw
          case rel => exact ⟨_, _, _, _, _, rfl, Lib.hid (HU.out.next (by omega) HG2.out hR.out hrm.out _)⟩
          case measure => show n - (d + 2) < n; omega
      · have t1 : decide ((128 : Int) ≤ (d : Int)) = true := by simp; omega
        by_cases hs : n < 3
        · have HT := Lib.hid (copyTok_short qo o.length co b0 off cb d n wr hc0 hd2 (by omega) (by have := hno.out; omega) (by omega) hs)
          have hR : Hid (und [] l = none) := Lib.hid (by rw [← HU.out.eq]; exact und_short (by rw [hx.out]; omega) (by have := HL.out; omega))
          go_wp2_with fail
          refine (HT.out).mono ?_
          rintro e w' ⟨rfl, rfl⟩
          go_wp2_with fail
          go_ret2
          refine ⟨hbw.out, ?_⟩
          rw [hR.out]; rfl
        · have hB2 := HU.out.bytes.below hbw.out
          by_cases hf : nb (r.take 2) = 0 ∨ o.length < nb (r.take 2)
          · have HT := Lib.hid (copyTok_far qo o.length co b0 off cb d n (x :: r) wr (by simp [HL.out]) hB2 hx.out (by omega) (by have := hno.out; omega) (by omega) HU.out.cap hf)
            have hR : Hid (und [] l = none) := Lib.hid (by rw [← HU.out.eq]; exact und_far (by rw [hx.out]; omega) (by have := HL.out; omega) hf)
            clear hB2 hf
            go_wp2_with fail
            refine (HT.out).mono ?_
            rintro e w' ⟨rfl, rfl⟩
            go_wp2_with fail
            go_ret2
            refine ⟨hbw.out, ?_⟩
            rw [hR.out]; rfl
          · have HT := Lib.hid (copyTok_yes w.heap.size qo o (x :: r) co b0 off cb d n wr hbw.out.size HU.out.out.own (by simp [HL.out]) hB2 hx.out (by omega) (by have := hno.out; omega) (by omega) HU.out.cap (fun h => hf (.inl h)) (by exact Nat.le_of_not_lt fun h => hf (.inr h)))
            have hR : Hid (und [] l = und (cp (d - 124) (nb (((x :: r).drop 1).take 2)) o) ((x :: r).drop 3)) := Lib.hid (by rw [← HU.out.eq, und_copy (by rw [hx.out]; omega) (by have := HL.out; omega) hf, hx.out]; rfl)
            have hrm : Hid ((cp (d - 124) (nb (((x :: r).drop 1).take 2)) o).length + 131 * ((x :: r).drop 3).length ≤ 91700) := Lib.hid (by
              have h1 := HU.out.room
              have h2 := HL.out
              rw [cp_length]
              simp only [List.length_drop, List.length_cons] at h1 ⊢
              omega)
            have hcb := HU.out.cap
            clear hB2 hf
            go_wp2_with fail
            refine (HT.out).mono ?_
            rintro e w2 ⟨v2, rfl, hg2⟩
            have HG2 := Lib.hid (HU.out.out.trans hg2)
            clear hg2
            go_wp2_with fail
            go_quiet (fail)
            go_wp2_with fail
            go_roundw
            case rel => exact ⟨_, _, _, _, _, rfl, Lib.hid (HU.out.next (by omega) HG2.out hR.out hrm.out _)⟩
            case measure => show n - 3 < n; omega
end Go.Proofs.YtpbcdmefngbjjaaGreatDoor
namespace Go.Proofs.YtpbcdmefngbjjaaGreatDoor
open Go.RowKit
open Go.Lib
theorem is_d (p q : Option Addr) (c d len : Nat) (l : List UInt8) (e : Int) (w : World) (hL : l.length = len) (hp : Bs w p l) (hq : Bs w q l) :
    Calls Tryz.prog 15 #[.slice p len c, .int .i64 e, .slice q len d, .int .i64 e] w fun r w' => r = .returned (.bool true) ∧ w = w' := by
  subst hL; exact is_same p q c d l e w hp hq
theorem back_d (p q : Option Addr) (c d len : Nat) (l : List UInt8) (w : World) (hL : l.length = len) (hp : Bs w p l) (hq : Bs w q l) :
    Calls Tryz.prog 16 #[.slice p len c, .int .i64 0, .slice q len d] w fun r w' => r = .returned (.bool true) ∧ w = w' := by
  subst hL; exact back_same p q c d l w hp hq
set_option maxRecDepth 100000 in
set_option maxHeartbeats 1600000 in
theorem dicts_long (p : Option Addr) (c : Nat) (l : List UInt8) (w : World) (hs : SaneAt w) (hl : 600 < l.length) :
    Calls Tryz.prog 7 #[.slice p l.length c] w (SanePost w) := by
  have HS := Lib.hid (hs w (Below.refl _ _))
  clear hs
  have hl3 : (600 : Int) < l.length := by omega
  go_enter Tryz.func7, Tryz.ntmps7
  go_wp2_with fail
  refine (HS.out).mono ?_
  rintro e w' ⟨rfl, hb⟩
  have HB := Lib.hid hb
  clear hb
  go_wp2_with fail
  go_ret
  exact ⟨rfl, HB.out⟩
set_option maxRecDepth 100000 in
set_option maxHeartbeats 1600000 in
theorem dicts_short (p : Option Addr) (c : Nat) (l : List UInt8) (w : World) (hs : SaneAt w) (hl : l.length ≤ 600) (hc : l.length ≤ c) (hb : Bs w p l) :
    Calls Tryz.prog 7 #[.slice p l.length c] w (SanePost w) := by
  have HS := Lib.hid hs
  have Hb := Lib.hid hb
  have H1 := Lib.hid (pdict_any p c l w (by omega) hc hb)
  have H2 : Hid (∀ W, Below w.heap.size w W → Calls Tryz.prog 26 #[.slice p l.length c] W (RowPost (dicL l) W)) := Lib.hid fun W hW => rdict_any p c l W (by omega) hc (hb.below hW)
  have HU := Lib.hid (und_dic (l := l) (by omega))
  have hsz := dic_size l
  obtain ⟨D, HD⟩ : ∃ D, Hid (D = dicL l) := ⟨_, rfl⟩
  rw [← HD.out] at H1 H2 HU hsz
  obtain ⟨m, HM⟩ : ∃ m, Hid (D.length = m) := ⟨_, rfl⟩
  rw [HM.out] at hsz
  obtain ⟨n, HN⟩ : ∃ n, Hid (n = l.length) := ⟨_, rfl⟩
  rw [← HN.out] at hl H1 H2 hsz ⊢
  have hm7 : m ≤ 700 := by omega
  have HU2 : Hid (∀ q d W, m ≤ d → Bs W q D → Calls Tryz.prog 27 #[.slice q m d] W (BytesPost (some l) W)) := Lib.hid (fun q d W hd hq => by
    have h := undict_wide q d D W (by rw [HM.out]; exact hm7) (by rw [HM.out]; exact hd) hq
    rwa [HM.out, HU.out] at h)
  have hl3 : (n : Int) ≤ 600 := by omega
  have hmi : (m : Int) ≤ 700 := by omega
  have hle : (m : Int) ≤ (n : Int) + ((n : Int) + 127) / 128 := by omega
  clear hs hb hc
  go_enter Tryz.func7, Tryz.ntmps7
  go_wp2_with fail
  refine (H1.out).mono ?_
  rintro e w1 ⟨hb1, v1, rfl, ho1⟩
  have HB1 := Lib.hid hb1
  obtain ⟨q1, c1, rfl, hbs1, hc1⟩ := own_bytes ho1
  have HS1 := Lib.hid hbs1
  rw [HM.out] at hc1 ⊢
  clear hb1 ho1 hbs1
  go_wp2_with fail
  refine (H2.out _ HB1.out).mono ?_
  rintro e w2 ⟨hb2, v2, rfl, ho2⟩
  have HB2 := Lib.hid (HB1.out.trans (hb2.mono HB1.out.size))
  obtain ⟨q2, c2, rfl, hbs2, -⟩ := own_bytes ho2
  have V1 := Lib.hid (HS1.out.below hb2)
  have HI := Lib.hid (is_d q1 q2 c1 c2 m D 0 w2 HM.out V1.out hbs2)
  rw [HM.out]
  clear hb2 ho2 hbs2
  go_wp2_with fail
  refine (HI.out).mono ?_
  rintro e w3 ⟨rfl, rfl⟩
  go_wp2_with fail
  refine (HS.out _ HB2.out).mono ?_
  rintro e w4 ⟨rfl, hb4⟩
  have HB4 := Lib.hid (HB2.out.trans (hb4.mono HB2.out.size))
  have V4 := Lib.hid (V1.out.below hb4)
  clear hb4
  go_wp2_with fail
  refine (HU2.out q1 c1 _ hc1 V4.out).mono ?_
  rintro e w7 ⟨hb7, v7, rfl, ho7⟩
  have HB7 := Lib.hid (HB4.out.trans (hb7.mono HB4.out.size))
  obtain ⟨q7, d7, rfl, hbs7, -⟩ := own_bytes ho7
  have HBK := Lib.hid (back_d q7 p d7 c n l w7 HN.out.symm hbs7 (Hb.out.below HB7.out))
  rw [← HN.out]
  clear hb7 ho7 hbs7
  go_wp2_with fail
  refine (HBK.out).mono ?_
  rintro e w9 ⟨rfl, rfl⟩
  go_wp2_with fail
  go_ret
  exact ⟨by simp, HB7.out⟩
theorem dicts_any (p : Option Addr) (c : Nat) (l : List UInt8) (w : World) (hs : SaneAt w) (hc : l.length ≤ c) (hb : Bs w p l) :
    Calls Tryz.prog 7 #[.slice p l.length c] w (SanePost w) := by
  by_cases h1 : 600 < l.length
  · exact dicts_long p c l w hs h1
  · exact dicts_short p c l w hs (by omega) hc hb
end Go.Proofs.YtpbcdmefngbjjaaGreatDoor
