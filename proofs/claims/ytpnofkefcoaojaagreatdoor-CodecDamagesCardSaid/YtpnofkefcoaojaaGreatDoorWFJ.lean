/- The program's Dict, over what its index answers. -/
import Derived.Test.YtpnofkefcoaojaaGreatDoorKC
import Derived.Test.YtpnofkefcoaojaaGreatDoorWFS
set_option maxHeartbeats 4000000
set_option maxRecDepth 100000
namespace Go.Proofs.YtpnofkefcoaojaaGreatDoor
open Go.RowKit
open Go.Lib
def IdxPost (l : List UInt8) (b0 off len c : Nat) (w : World) (e : Ending) (w1 : World) : Prop := Below w.heap.size w w1 ∧ ∃ mo : Option Nat, e = .returned (.agg #[.slice (some ⟨b0, off, none⟩) len c, .map mo]) ∧
  ∀ W, Below w1.heap.size w1 W → ∀ a, a < len → Calls Tryz.prog 153 #[.agg #[.slice (some ⟨b0, off, none⟩) len c, .map mo], .int .i64 (a : Int)] W (FoundPost l a W)
theorem plain_app (B b0 off len c : Nat) (v0 : Value) (D0 l : List UInt8) (w : World) (hl : len ≤ 20000) (hD0 : D0.length ≤ 100000) (hB : B ≤ w.heap.size) (hown : w.ownsRow B 5 1 v0 D0.length (ubs D0)) (hbs : BsN B w (some ⟨b0, off, none⟩) l) (hC : Came w (some ⟨b0, off, none⟩) len c l) :
    Calls Tryz.prog 154 #[v0, .slice (some ⟨b0, off, none⟩) len c] w (App B w v0 (D0 ++ spL l)) :=
  appendPlain_some B b0 off len c v0 D0 l w (Lib.hid hC.hl.symm) hl hC.hc hD0 hB hown hbs
theorem pdict_some (b0 off len c : Nat) (l : List UInt8) (w : World) (hl : len ≤ 20000) (h : Came w (some ⟨b0, off, none⟩) len c l) (hidx : Calls Tryz.prog 152 #[.slice (some ⟨b0, off, none⟩) len c] w (IdxPost l b0 off len c w)) :
    Calls Tryz.prog 101 #[.slice (some ⟨b0, off, none⟩) len c] w (RowPost (dicL l) w) := by
  have H := Lib.hid h
  have HIDX := Lib.hid hidx
  have HBN : Hid (BsN w.heap.size w (some ⟨b0, off, none⟩) l) := Lib.hid h.lies.bsN
  have il : (len : Int) ≤ 20000 := by omega
  have HL := Lib.hid hl
  have hc := h.hc
  have ic : (len : Int) ≤ (c : Int) := by omega
  have hlen := Lib.hid h.hl
  obtain ⟨R, HR⟩ : ∃ R, Hid (R = dicL l) := ⟨_, rfl⟩
  rw [← HR.out]
  have HG0 : Hid (Grew w.heap.size w (.slice none 0 0) [] w (.slice none 0 0)) := Lib.hid (Grew.refl (l := []) (World.ownsRow_nil w w.heap.size 5 1))
  clear h hl hidx
  go_enter Tryz.func101, Tryz.ntmps101
  go_wp2_with fail
  refine (HIDX.out).mono ?_
  rintro e w1 ⟨hb1, mo, rfl, hlong⟩
  have HLONG := Lib.hid hlong
  have HB1 := Lib.hid hb1
  have HBX : Hid (Below w1.heap.size w1 (w1.alloc (.cells #[.slice (some ⟨b0, off, none⟩) len c, .map mo] 152))) := Lib.hid ((Below.refl _ w1).alloc (Nat.le_refl _) _)
  have HBOX : Hid ((w1.alloc (.cells #[.slice (some ⟨b0, off, none⟩) len c, .map mo] 152)).heap[w1.heap.size]? = some (.cells #[.slice (some ⟨b0, off, none⟩) len c, .map mo] 152 (0, 0))) := Lib.hid (World.alloc_heap_new w1 _)
  have hs1 : w1.heap.size < (w1.alloc (.cells #[.slice (some ⟨b0, off, none⟩) len c, .map mo] 152)).heap.size := by simp
  clear hb1 hlong
  go_wp2_with fail
  revert HBX HBOX hs1
  generalize w1.alloc (.cells #[.slice (some ⟨b0, off, none⟩) len c, .map mo] 152) = W0
  intro HBX HBOX hs1
  have HG0 : Hid (Grew w.heap.size W0 (.slice none 0 0) [] W0 (.slice none 0 0)) := Lib.hid (Grew.refl (l := []) (World.ownsRow_nil W0 w.heap.size 5 1))
  have HBW0 : Hid (Below w.heap.size w W0) := Lib.hid (HB1.out.trans (HBX.out.mono HB1.out.size))
  go_loopw [5, 6, 7] (fun ov fv av wr => ∃ (f fr a : Nat) (D : List UInt8), fr ≤ a ∧ a ≤ len ∧ fv = .int .i64 fr ∧ av = .int .i64 a ∧ Hid (len - a ≤ f) ∧ Hid (D ++ dcF l f fr a = R) ∧ Hid (D.length ≤ 2 * fr) ∧ Hid (Grew w.heap.size W0 (.slice none 0 0) D wr ov)) (fun _ _ av _ => len - (Go.RowKit.intOf av).toNat)
  case atStart => exact ⟨len, 0, 0, [], Nat.le_refl _, Nat.zero_le _, rfl, rfl, Lib.hid (Nat.le_refl _), Lib.hid (by rw [HR.out, dicL, hlen.out]; rfl), Lib.hid (Nat.zero_le _), HG0⟩
  case round =>
    obtain ⟨f, fr, a, D, hfa, hal, rfl, rfl, HF, HD, HDL, HG⟩ := hrel
    have hbW : Hid (Below W0.heap.size W0 wr) := Lib.hid (HG.out.grown |> fun g => ⟨g.os, g.tape, g.output, g.size, fun k hk => g.block k hk (by intro e; cases e)⟩)
    have hbw : Hid (Below w.heap.size w wr) := Lib.hid (HBW0.out.trans (hbW.out.mono HBW0.out.size))
    have ia : (a : Int) ≤ (len : Int) := by omega
    have ifr : (fr : Int) ≤ (a : Int) := by omega
    have hbox := (hbW.out.block w1.heap.size hs1).trans HBOX.out
    have c0 : wr.cell? ⟨w1.heap.size, 0, none⟩ = some (.slice (some ⟨b0, off, none⟩) len c) := by simp [World.cell?, hbox]
    have c1 : wr.cell? ⟨w1.heap.size, 1, none⟩ = some (.map mo) := by simp [World.cell?, hbox]
    clear hbox
    by_cases hlt : a < len
    · have ilt : (a : Int) < (len : Int) := by omega
      have HLg := Lib.hid (HLONG.out wr (HBX.out.trans (hbW.out.mono (Nat.le_of_lt hs1))) a hlt)
      obtain ⟨f1, rfl⟩ : ∃ f1, f = f1 + 1 := ⟨f - 1, by have := HF.out; omega⟩
      go_wp2_with fail
      refine (HLg.out).mono ?_
      rintro e w2 ⟨hb2, ⟨hlow, rfl⟩ | ⟨hge, rfl⟩⟩
      · have G2 := Lib.hid (HG.out.trans (Grew.of_below HG.out.own hb2))
        have hstep : Hid (D ++ dcF l f1 fr (a + 1) = R) := Lib.hid (by rw [← HD.out, dcF, if_pos (by rw [hlen.out]; exact hlt), if_pos hlow])
        clear hb2 hlow
        go_wp2_with fail
        go_roundw
        case rel => exact ⟨f1, fr, a + 1, D, by omega, by omega, rfl, by go_num, Lib.hid (by have := HF.out; omega), hstep, HDL, G2⟩
        case measure => simp [Go.RowKit.intOf]; omega
      · obtain ⟨n, HN⟩ : ∃ n, Hid (n = (best l a a).1) := ⟨_, rfl⟩
        obtain ⟨d, HDd⟩ : ∃ d, Hid (d = (best l a a).2) := ⟨_, rfl⟩
        rw [← HN.out] at hge ⊢
        rw [← HDd.out]
        have hn4 : ¬ n < 4 := by omega
        have hn131 : n ≤ 131 := by rw [HN.out]; exact (best_le l a a).1
        have hda : d ≤ a := by rw [HDd.out]; exact (best_le l a a).2
        have hfit : a + n ≤ len := by rw [HN.out, ← hlen.out]; exact best_fits l a (by rw [hlen.out]; exact hal) a
        have in131 : (n : Int) ≤ 131 := by omega
        have id1000 : (d : Int) ≤ 20000 := by have := HL.out; omega
        have in4 : ¬ (n : Int) = 0 := by omega
        have in4b : ((n : Int) == 0) = false := by rw [beq_eq_false_iff_ne]; exact in4
        have in4c : 4 ≤ (n : Int) := by omega
        have G2 := Lib.hid (HG.out.trans (Grew.of_below HG.out.own hb2))
        have hB2 := Lib.hid (hbw.out.trans (hb2.mono hbw.out.size))
        clear hb2
        obtain ⟨k, HK⟩ : ∃ k, Hid (k = a - fr) := ⟨_, rfl⟩
        have fk : a - fr = k := HK.out.symm
        have ifc : (fr : Int) < (c : Int) := by omega
        have iac : (a : Int) ≤ (c : Int) := by omega
        obtain ⟨s1, HS1⟩ : ∃ s1, Hid (s1 = (l.drop fr).take k) := ⟨_, rfl⟩
        have hs1' : Came w2 (some ⟨b0, off + fr, none⟩) k (c - fr) s1 := ⟨by rw [HS1.out, List.length_take, List.length_drop, hlen.out, HK.out]; omega, by rw [HK.out]; omega, by rw [HS1.out]; exact bs_sub (H.out.lies.below hB2.out) fr k (by rw [hlen.out, HK.out]; omega) rfl⟩
        have hsn : BsN w.heap.size w2 (some ⟨b0, off + fr, none⟩) s1 := by
          rcases HBN.out.keep hB2.out with h0 | ⟨b, o, e, h5, h6⟩
          · exact .inl (by rw [HS1.out, List.length_take, List.length_drop, h0]; omega)
          · rcases hs1'.lies with h0 | ⟨b', o', e', h5', h6'⟩
            · exact .inl h0
            · cases e; cases e'
              exact .inr ⟨_, _, rfl, h5, h6'⟩
        have hDl : D.length ≤ 40000 := by have := HDL.out; have := HL.out; omega
        have HSp := Lib.hid (plain_app w.heap.size b0 (off + fr) k (c - fr) _ D s1 w2 (by rw [HK.out]; have := HL.out; omega) (by omega) hB2.out.size G2.out.own hsn hs1')
        have hspl : Hid ((spL s1).length ≤ 2 * k) := Lib.hid (by have := spL_len k s1 (by rw [hs1'.hl]; exact Nat.le_refl _); rwa [hs1'.hl] at this)
        have hstep : Hid (D ++ (spL s1 ++ (tok n d ++ dcF l f1 (a + n) (a + n))) = R) := Lib.hid (by rw [← HD.out, dcF, if_pos (by rw [hlen.out]; exact hlt), ← HN.out, if_neg hn4, ← HDd.out, HS1.out, HK.out])
        clear hs1' hsn
        go_wp2_with fail
        refine (HSp.out).mono ?_
        rintro e w4 ⟨v4, rfl, hg4⟩
        obtain ⟨S, HS⟩ : ∃ S, Hid (S = spL s1) := ⟨_, rfl⟩
        rw [← HS.out] at hg4 hspl hstep
        obtain ⟨D4, HD4⟩ : ∃ D4, Hid (D4 = D ++ S) := ⟨_, rfl⟩
        rw [← HD4.out] at hg4
        have G4 := Lib.hid (G2.out.trans hg4)
        clear hg4
        have hB4 : Hid (Below w.heap.size w w4) := Lib.hid (HBW0.out.trans ((⟨G4.out.grown.os, G4.out.grown.tape, G4.out.grown.output, G4.out.grown.size, fun k hk => G4.out.grown.block k hk (by intro e; cases e)⟩ : Below W0.heap.size W0 w4).mono HBW0.out.size))
        have hD4 : Hid (D4.length ≤ 2 * a) := Lib.hid (by
          have h1 := HDL.out
          have h2 := hspl.out
          rw [HD4.out, List.length_append]; rw [HK.out] at h2; omega)
        obtain ⟨x, HX⟩ : ∃ x : UInt8, Hid (x = UInt8.ofNat (124 + n)) := ⟨_, rfl⟩
        obtain ⟨y, HY⟩ : ∃ y : UInt8, Hid (y = UInt8.ofNat (d / 256)) := ⟨_, rfl⟩
        obtain ⟨z, HZ⟩ : ∃ z : UInt8, Hid (z = UInt8.ofNat (d % 256)) := ⟨_, rfl⟩
        have hx : x.toNat = 124 + n := by rw [HX.out, UInt8.toNat_ofNat']; omega
        have hy : y.toNat = d / 256 := by rw [HY.out, UInt8.toNat_ofNat']; omega
        have hz : z.toNat = d % 256 := by rw [HZ.out, UInt8.toNat_ofNat']; omega
        have G4a := Lib.hid (G4.out.trans (Grew.of_below G4.out.own ((Below.refl _ w4).alloc (Nat.le_refl _) (.cells #[.int .u8 (128 + (n : Int) - 4), .int .u8 ((d : Int) / 256), .int .u8 ((d : Int) % 256)] 5))))
        have htk : Hid (Bs (w4.alloc (.cells #[.int .u8 (128 + (n : Int) - 4), .int .u8 ((d : Int) / 256), .int .u8 ((d : Int) % 256)] 5)) (some ⟨w4.heap.size, 0, none⟩) [x, y, z]) := Lib.hid (by
          have h := tok_bs w4 x y z
          rwa [show ((x.toNat : Nat) : Int) = 128 + (n : Int) - 4 by omega, show ((y.toNat : Nat) : Int) = (d : Int) / 256 by omega, show ((z.toNat : Nat) : Int) = (d : Int) % 256 by omega] at h)
        have hbl4 : Hid (D4.length + 3 ≤ 140737488355328 ∧ w.heap.size ≤ (w4.alloc (.cells #[.int .u8 (128 + (n : Int) - 4), .int .u8 ((d : Int) / 256), .int .u8 ((d : Int) % 256)] 5)).heap.size) := Lib.hid ⟨by have := hD4.out; have := HL.out; omega, by have := hB4.out.size; simp; omega⟩
        have htok : Hid (tok n d = [x, y, z]) := Lib.hid (by rw [tok, HX.out, HY.out, HZ.out])
        clear hx hy hz
        go_wp2_with (at_builtin; refine wpList_append_bs rfl (.tmp 35) (.tmp 45) rfl w.heap.size v4 D4.length D4 rfl rfl G4a.out.own _ 3 3 [x, y, z] rfl rfl htk.out hbl4.out.1 hbl4.out.2 ?_)
        intro v5 w5 hg5
        have G5 := Lib.hid (G4a.out.trans hg5)
        clear hg5
        obtain ⟨an, HAN⟩ : ∃ an, Hid (an = a + n) := ⟨_, rfl⟩
        have han : (a : Int) + (n : Int) = (an : Int) := by rw [HAN.out]; omega
        have hanl : an ≤ len := by rw [HAN.out]; exact hfit
        have hani : (an : Int) ≤ 20000 := by omega
        have hD5 : Hid ((D4 ++ [x, y, z]) ++ dcF l f1 an an = R) := Lib.hid (by rw [← hstep.out, HD4.out, htok.out, HAN.out]; simp only [List.append_assoc])
        have hDL5 : Hid ((D4 ++ [x, y, z]).length ≤ 2 * an) := Lib.hid (by
          have h1 := hD4.out
          rw [List.length_append]; show D4.length + 3 ≤ _
          rw [HAN.out]; omega)
        go_wp2_with fail
        go_roundw
        case rel => exact ⟨f1, an, an, D4 ++ [x, y, z], Nat.le_refl _, hanl, rfl, rfl, Lib.hid (by have := HF.out; rw [HAN.out]; omega), hD5, hDL5, G5⟩
        case measure => simp [Go.RowKit.intOf]; rw [HAN.out]; omega
    · obtain rfl : a = len := by omega
      have hnl : ¬ a < l.length := by rw [hlen.out]; omega
      have e := HD.out
      rw [dcF_end hnl] at e
      have ilt : ¬ (a : Int) < (a : Int) := by omega
      have ifc : (fr : Int) ≤ (c : Int) := by omega
      obtain ⟨k, HK⟩ : ∃ k, Hid (k = a - fr) := ⟨_, rfl⟩
      have fk : a - fr = k := HK.out.symm
      obtain ⟨s1, HS1⟩ : ∃ s1, Hid (s1 = l.drop fr) := ⟨_, rfl⟩
      rw [← HS1.out] at e
      have hsl : s1.length = k := by rw [HS1.out, List.length_drop, hlen.out, HK.out]
      have hDl : D.length ≤ 40000 := by have := HDL.out; have := HL.out; omega
      have HE := Lib.hid e
      have HSp : Hid (∀ o1 c1, Came wr (some ⟨b0, o1, none⟩) k c1 s1 → BsN w.heap.size wr (some ⟨b0, o1, none⟩) s1 → ∀ v, wr.ownsRow w.heap.size 5 1 v D.length (ubs D) → Calls Tryz.prog 154 #[v, .slice (some ⟨b0, o1, none⟩) k c1] wr (App w.heap.size wr v R)) := Lib.hid (fun o1 c1 h1 h2 v hv => by
        have := plain_app w.heap.size b0 o1 k c1 v D s1 wr (by rw [HK.out]; have := HL.out; omega) (by omega) hbw.out.size hv h2 h1
        rwa [HE.out] at this)
      have hbn : ∀ o1, Bs wr (some ⟨b0, o1, none⟩) s1 → BsN w.heap.size wr (some ⟨b0, o1, none⟩) s1 := fun o1 h => by
        rcases h with h0 | ⟨b', o', e', h5', h6'⟩
        · exact .inl h0
        · rcases HBN.out.keep hbw.out with h0 | ⟨b, o, e, h5, h6⟩
          · exact .inl (by rw [HS1.out, List.length_drop, h0]; omega)
          · cases e; cases e'
            exact .inr ⟨_, _, rfl, h5, h6'⟩
      have HBNN := Lib.hid hbn
      clear e hbn
      by_cases hcf : c = fr
      · have hk0 : k = 0 := by rw [HK.out]; omega
        have hCm : Came wr (some ⟨b0, off, none⟩) 0 0 s1 := ⟨by rw [hsl]; exact hk0, Nat.le_refl _, .inl (by rw [hsl]; exact hk0)⟩
        rw [hk0] at HSp
        have HC := Lib.hid (HSp.out off 0 hCm (HBNN.out _ hCm.lies) _ HG.out.own)
        subst hcf
        obtain rfl : a = c := by omega
        clear fk hCm
        go_wp2_with fail
        refine (HC.out).mono ?_
        rintro e w4 ⟨v4, rfl, hg4⟩
        have G4 := Lib.hid (HG.out.trans hg4)
        clear hg4
        have hB4 : Hid (Below w.heap.size w w4) := Lib.hid (HBW0.out.trans ((⟨G4.out.grown.os, G4.out.grown.tape, G4.out.grown.output, G4.out.grown.size, fun k hk => G4.out.grown.block k hk (by intro e; cases e)⟩ : Below W0.heap.size W0 w4).mono HBW0.out.size))
        obtain ⟨q4, d4, rfl, -, -⟩ := own_bytes G4.out.own
        obtain ⟨m4, HM4⟩ : ∃ m4, Hid (m4 = R.length) := ⟨_, rfl⟩
        have hown4 : Hid (w4.ownsRow w.heap.size 5 1 (.slice q4 R.length d4) R.length (ubs R)) := Lib.hid G4.out.own
        rw [← HM4.out] at hown4 ⊢
        go_wp2_with fail
        go_ret2
        exact ⟨hB4.out, _, rfl, by rw [← HM4.out]; exact hown4.out⟩
      · have ifc' : (fr : Int) < (c : Int) := by omega
        have hCm : Came wr (some ⟨b0, off + fr, none⟩) k (c - fr) s1 := ⟨hsl, by rw [HK.out]; omega, by rw [HS1.out]; exact bs_tail (H.out.lies.below hbw.out) fr (by rw [hlen.out]; omega) rfl⟩
        have HC := Lib.hid (HSp.out _ _ hCm (HBNN.out _ hCm.lies) _ HG.out.own)
        clear hCm
        go_wp2_with fail
        refine (HC.out).mono ?_
        rintro e w4 ⟨v4, rfl, hg4⟩
        have G4 := Lib.hid (HG.out.trans hg4)
        clear hg4
        have hB4 : Hid (Below w.heap.size w w4) := Lib.hid (HBW0.out.trans ((⟨G4.out.grown.os, G4.out.grown.tape, G4.out.grown.output, G4.out.grown.size, fun k hk => G4.out.grown.block k hk (by intro e; cases e)⟩ : Below W0.heap.size W0 w4).mono HBW0.out.size))
        obtain ⟨q4, d4, rfl, -, -⟩ := own_bytes G4.out.own
        obtain ⟨m4, HM4⟩ : ∃ m4, Hid (m4 = R.length) := ⟨_, rfl⟩
        have hown4 : Hid (w4.ownsRow w.heap.size 5 1 (.slice q4 R.length d4) R.length (ubs R)) := Lib.hid G4.out.own
        rw [← HM4.out] at hown4 ⊢
        go_wp2_with fail
        go_ret2
        exact ⟨hB4.out, _, rfl, by rw [← HM4.out]; exact hown4.out⟩
end Go.Proofs.YtpnofkefcoaojaaGreatDoor
