/- A pipeline that does not round: the walk. -/
import Derived.Test.YtpnofkefcoaojaaGreatDoorYK
set_option maxHeartbeats 8000000
set_option maxRecDepth 100000
namespace Go.Proofs.YtpnofkefcoaojaaGreatDoor
open Go.RowKit
open Go.Lib
theorem encode_good2 (k : Int) (p q : Option Addr) (c d n m : Nat) (ss : List Sg) (xs : List (List UInt8)) (w : World) (he : Env w) (hx : Hid (ss.length = n)) (hs : RdG w p ss) (hy : Hid (xs.length = m)) (hm : m ≤ 100) (hq : Ss w q xs) (HPO : Hid (pipOk k ss = true)) (HBR : Hid (rndF ss = false)) (HCV : Hid (chkE k (valsE ss xs) = 0)) :
    Calls Tryz.prog 22 #[.int .i64 k, .slice p n c, .slice q m d] w fun e w' => ∃ v, e = .returned (.tuple #[v, .int .i64 0]) ∧ PutG w (withSum (encL k ss xs)) w' v := by
  have HE := Lib.hid he
  have HS := Lib.hid hs
  have HQ := Lib.hid hq
  have HV := Lib.hid (pvalid_any k p c n ss w he.tab hx hs)
  rw [HPO.out] at HV
  have HRA : Hid (∀ W, Below w.heap.size w W → Calls Tryz.prog 35 #[.slice p n c] W fun e w' => e = .returned (.bool false) ∧ W = w') := Lib.hid (fun W hW => by
    have h := rounds_any p c n ss W hx (HS.out.below hW)
    rwa [HBR.out] at h)
  have hni : (n : Int) ≤ 4 := by have := (pip_all HPO.out).2.1; rw [hx.out] at this; omega
  obtain ⟨P, HPE⟩ : ∃ P, Hid (putT k (valsE ss xs) = P) := ⟨_, rfl⟩
  have HPL : Hid (P.length ≤ 8313) := Lib.hid (by rw [← HPE.out]; exact putT_len HCV.out (by rw [valsE_len, hy.out]; exact hm))
  have HPT : Hid (∀ W, Below w.heap.size w W → Calls Tryz.prog 34 #[.int .i64 k, .slice q m d] W fun e w' => ∃ v, e = .returned (.tuple #[v, .int .i64 0]) ∧ PutG W P w' v) := Lib.hid (fun W hW => by
    have hvx : valsE ss xs = xs := by unfold valsE; rw [HBR.out]; rfl
    rw [← HPE.out, hvx]
    exact put_good k q d m xs W hy (by omega) (HQ.out.below hW) (HE.out.below hW) (Lib.hid (by have := HCV.out; rwa [hvx] at this)))
  clear he hs hq
  go_enter Tryz.func22, Tryz.ntmps22
  go_wp2_with fail
  refine (HV.out).mono ?_
  rintro e w1 ⟨rfl, hb1⟩
  have HB1 := Lib.hid hb1
  clear hb1
  go_wp2_with fail
  refine (HRA.out _ HB1.out).mono ?_
  rintro e w' ⟨rfl, rfl⟩
  have HBF := HB1
  go_wp2_with fail
  refine (HPT.out _ HB1.out).mono ?_
  rintro e w3 ⟨v3, rfl, hg3⟩
  have HO3 : Hid (w3.ownsRow w.heap.size 5 1 v3 P.length (ubs P)) := Lib.hid (own_lower hg3.own HBF.out.size)
  have HB3 : Hid (Below w.heap.size w w3) := Lib.hid (HBF.out.trans (hg3.below.mono HBF.out.size))
  clear hg3
  go_wp2_with fail
  go_loopw [10, 11, 12] (fun bv ev iv wr => ∃ (i : Nat) (v : Value), i ≤ n ∧ v = bv ∧ ev = .int .i64 0 ∧ iv = .int .i64 i ∧ Hid (wr.ownsRow w.heap.size 5 1 v (thrS ss i P).length (ubs (thrS ss i P))) ∧ Hid (Below w.heap.size w wr)) (fun _ _ iv _ => n - (intOf iv).toNat)
  case atStart => exact ⟨0, v3, Nat.zero_le _, rfl, rfl, rfl, HO3, HB3⟩
  case round =>
    obtain ⟨i, v, hi, rfl, rfl, rfl, HO, HB⟩ := hrel
    have ii : (i : Int) ≤ (n : Int) := by omega
    by_cases hlt : i < n
    · have ilt : (i : Int) < (n : Int) := by omega
      have hil : i < ss.length := by rw [hx.out]; exact hlt
      obtain ⟨b2, o2, x, y, s, e2, hb2, hd1, hd2, hd3, hx2⟩ := (HS.out.below HB.out).at (k := i) hil
      have HTH : Hid (Calls Tryz.prog 54 #[.agg #[.int .i64 x, .int .i64 y, .string ⟨s.toArray⟩], v] wr (ThrPost w.heap.size (thrS ss (i + 1) P) wr)) := Lib.hid (by
        have h := through_any (x, y, s) v (thrS ss i P) w.heap.size wr HB.out.size (by have := pip_st HPO.out i hil; rwa [hx2.out] at this) (by have h1 := thrS_len (l := P) (pip_st HPO.out) (by have := HPL.out; omega) (pip_all HPO.out).2.1 i (by omega); have := HPL.out; have := (pip_all HPO.out).2.1; omega) HO.out
        rwa [thrS_succ hil, hx2.out])
      first | (cases e2) | (rw [e2])
      obtain ⟨SZ, HSZ⟩ : ∃ SZ : ByteArray, Hid (⟨s.toArray⟩ = SZ) := ⟨_, rfl⟩
      rw [HSZ.out] at hd3 HTH
      clear hb2 hil
      go_wp2_with fail
      refine (HTH.out).mono ?_
      rintro e w5 ⟨hb5, v5, rfl, ho5⟩
      have HB5 := Lib.hid (HB.out.trans (hb5.mono HB.out.size))
      have HO5 := Lib.hid ho5
      clear hb5 ho5 hd1 hd2 hd3
      go_wp2_with fail
      go_roundw
      case rel => exact ⟨i + 1, v5, by omega, rfl, rfl, by go_num, HO5, HB5⟩
      case measure => simp [intOf]; omega
    · obtain rfl : i = n := by omega
      have ilt : ¬ (i : Int) < (i : Int) := by omega
      obtain ⟨L, HL⟩ : ∃ L, Hid (thrS ss i P = L) := ⟨_, rfl⟩
      rw [HL.out] at HO
      have HLL : Hid (L.length ≤ 9000) := Lib.hid (by
        have h1 := thrS_len (l := P) (pip_st HPO.out) (by have := HPL.out; omega) (pip_all HPO.out).2.1 ss.length (Nat.le_refl _)
        rw [hx.out, HL.out] at h1
        have := HPL.out; have h4 := (pip_all HPO.out).2.1; rw [hx.out] at h4; omega)
      obtain ⟨pv, cv, rfl, hbs, hcv⟩ := own_bytes HO.out
      obtain ⟨m0, HM0⟩ : ∃ m0, Hid (L.length = m0) := ⟨_, rfl⟩
      obtain ⟨X, HX⟩ : ∃ X, Hid (Crc.crc L = X) := ⟨_, rfl⟩
      have HSM : Hid (Calls Tryz.prog 55 #[.slice pv m0 cv] wr fun e w' => e = .returned (.agg #[.int .u8 ((X % 256 : Nat) : Int), .int .u8 ((X / 256 % 256 : Nat) : Int), .int .u8 ((X / 65536 % 256 : Nat) : Int), .int .u8 ((X / 16777216 % 256 : Nat) : Int)]) ∧ Below wr.heap.size wr w') := Lib.hid (by
        have h := sumbytes_any pv cv L wr (by have := HLL.out; omega) hbs
        unfold sumV at h
        rwa [HX.out, HM0.out] at h)
      obtain ⟨c0, HC0⟩ : ∃ c0, Hid (X % 256 = c0) := ⟨_, rfl⟩
      obtain ⟨c1, HC1⟩ : ∃ c1, Hid (X / 256 % 256 = c1) := ⟨_, rfl⟩
      obtain ⟨c2, HC2⟩ : ∃ c2, Hid (X / 65536 % 256 = c2) := ⟨_, rfl⟩
      obtain ⟨c4, HC4⟩ : ∃ c4, Hid (X / 16777216 % 256 = c4) := ⟨_, rfl⟩
      rw [HC0.out, HC1.out, HC2.out, HC4.out] at HSM
      rw [HM0.out] at HO ⊢
      clear hbs hcv
      go_wp2_with fail
      refine (HSM.out).mono ?_
      rintro e w6 ⟨rfl, hb6⟩
      have HB6 := Lib.hid (HB.out.trans (hb6.mono HB.out.size))
      obtain ⟨W7, HW7⟩ : ∃ W7, Hid (w6.alloc (.cells #[.int .u8 (c0 : Int), .int .u8 (c1 : Int), .int .u8 (c2 : Int), .int .u8 (c4 : Int)] 79) = W7) := ⟨_, Lib.hid rfl⟩
      obtain ⟨G, HG⟩ : ∃ G, Hid (w6.heap.size = G) := ⟨_, rfl⟩
      have HSB : Hid (Bs W7 (some ⟨G, 0, none⟩) (sumB X)) := Lib.hid (by
        refine sum_bs ?_
        rw [HC0.out, HC1.out, HC2.out, HC4.out, ← HW7.out, ← HG.out]
        exact World.alloc_heap_new w6 _)
      have hb7 : Below w6.heap.size w6 W7 := by rw [← HW7.out]; exact (Below.refl _ _).alloc (Nat.le_refl _) _
      have HO7 : Hid (W7.ownsRow w.heap.size 5 1 (.slice pv m0 cv) m0 (ubs L)) := Lib.hid (own_below (own_below HO.out hb6) hb7)
      have HB7 : Hid (Below w.heap.size w W7) := Lib.hid (HB6.out.trans (hb7.mono HB6.out.size))
      have HSZ7 : Hid (w.heap.size ≤ W7.heap.size) := Lib.hid HB7.out.size
      have HLB : Hid (m0 + 4 ≤ 140737488355328) := Lib.hid (by have := HLL.out; have := HM0.out; omega)
      clear hb6 hb7
      go_wp2_with (first | (rw [HW7.out, HG.out]; at_builtin; refine wpList_append_bs rfl (.tmp 64) (.tmp 65) rfl w.heap.size (.slice pv m0 cv) m0 L rfl HM0.out.symm HO7.out (some ⟨G, 0, none⟩) 4 4 (sumB X) rfl rfl HSB.out HLB.out HSZ7.out ?_) | (at_builtin; rw [HW7.out, HG.out]; refine wpList_append_bs rfl (.tmp 64) (.tmp 65) rfl w.heap.size (.slice pv m0 cv) m0 L rfl HM0.out.symm HO7.out (some ⟨G, 0, none⟩) 4 4 (sumB X) rfl rfl HSB.out HLB.out HSZ7.out ?_))
      intro v9 w9 hg9
      have HFIN : Hid (PutG w (withSum L) w9 v9) := Lib.hid ⟨by unfold withSum; rw [HX.out]; exact hg9.own, HB7.out.grown hg9.grown HB7.out.size (fun _ e => own_ge HO7.out e)⟩
      clear hg9
      go_wp2_with fail
      go_ret2
      exact ⟨v9, rfl, by rw [encL, HPE.out, hx.out, HL.out]; exact HFIN.out⟩
end Go.Proofs.YtpnofkefcoaojaaGreatDoor
set_option maxHeartbeats 8000000
set_option maxRecDepth 100000
namespace Go.Proofs.YtpnofkefcoaojaaGreatDoor
open Go.RowKit
open Go.Lib
theorem encode_good1 (k : Int) (p q : Option Addr) (c d n m : Nat) (ss : List Sg) (xs : List (List UInt8)) (w : World) (he : Env w) (hx : Hid (ss.length = n)) (hs : RdG w p ss) (hy : Hid (xs.length = m)) (hm : m ≤ 100) (hq : Ss w q xs) (HPO : Hid (pipOk k ss = true)) (HBR : Hid (rndF ss = true)) (HCX : Hid (chkE k xs = 0)) (HAN : Hid (xs.any (rndBad k (stepL ss)) = false)) (HCV : Hid (chkE k (valsE ss xs) = 0)) :
    Calls Tryz.prog 22 #[.int .i64 k, .slice p n c, .slice q m d] w fun e w' => ∃ v, e = .returned (.tuple #[v, .int .i64 0]) ∧ PutG w (withSum (encL k ss xs)) w' v := by
  have HE := Lib.hid he
  have HS := Lib.hid hs
  have HQ := Lib.hid hq
  have HV := Lib.hid (pvalid_any k p c n ss w he.tab hx hs)
  rw [HPO.out] at HV
  have HRA : Hid (∀ W, Below w.heap.size w W → Calls Tryz.prog 35 #[.slice p n c] W fun e w' => e = .returned (.bool true) ∧ W = w') := Lib.hid (fun W hW => by
    have h := rounds_any p c n ss W hx (HS.out.below hW)
    rwa [HBR.out] at h)
  have hni : (n : Int) ≤ 4 := by have := (pip_all HPO.out).2.1; rw [hx.out] at this; omega
  obtain ⟨P, HPE⟩ : ∃ P, Hid (putT k (valsE ss xs) = P) := ⟨_, rfl⟩
  have HPL : Hid (P.length ≤ 8313) := Lib.hid (by rw [← HPE.out]; exact putT_len HCV.out (by rw [valsE_len, hy.out]; exact hm))
  have hst0 : 0 < ss.length := (rnd_pos HPO.out HBR.out).2
  have hn0 : (0 : Int) < (n : Int) := by have := hx.out; omega
  obtain ⟨b1, o1, x0, y0, s0, e1, hbl, hc1, hc2, hc3, hx1⟩ := HS.out.at (k := 0) hst0
  subst e1
  rw [Nat.zero_mul, Nat.add_zero] at hc3
  have hstl : stepL ss = s0 := by unfold stepL; rw [hx1.out]
  obtain ⟨Z, HZ⟩ : ∃ Z : ByteArray, Hid (⟨s0.toArray⟩ = Z) := ⟨_, rfl⟩
  rw [HZ.out] at hc3
  have HZS : Hid (Z.data.toList = stepL ss) := Lib.hid (by rw [← HZ.out, hstl])
  have HPC : Hid (posC Z.data.toList = true) := Lib.hid (by rw [HZS.out]; exact (rnd_pos HPO.out HBR.out).1)
  have HC3 := Lib.hid hc3
  have HBL := Lib.hid hbl
  clear hc1 hc2 hc3 hbl hst0 hstl
  obtain ⟨ys, HYS⟩ : ∃ ys, Hid (rndL xs (stepL ss) = ys) := ⟨_, rfl⟩
  have HYL : Hid (ys.length = m) := Lib.hid (by rw [← HYS.out, rndL_len, hy.out])
  have HRN : Hid (∀ W, Below w.heap.size w W → Calls Tryz.prog 18 #[.int .i64 k, .slice q m d, .string Z] W fun e w' => ∃ q2, e = .returned (.tuple #[.slice q2 m m, .int .i64 0]) ∧ Ss w' q2 ys ∧ Below W.heap.size W w') := Lib.hid (fun W hW => by
    refine (rounded_ok k q d m xs Z W hy (by omega) (HQ.out.below hW) (HE.out.below hW) HPC HCX).mono ?_
    rintro e w' ⟨hb2, ⟨hyes, -⟩ | ⟨-, q2, rfl, hs2⟩⟩
    · rw [HZS.out, HAN.out] at hyes; cases hyes
    · rw [HZS.out, HYS.out] at hs2; exact ⟨q2, rfl, hs2, hb2⟩)
  have HPT : Hid (∀ W q2, Below w.heap.size w W → Ss W q2 ys → Calls Tryz.prog 34 #[.int .i64 k, .slice q2 m m] W fun e w' => ∃ v, e = .returned (.tuple #[v, .int .i64 0]) ∧ PutG W P w' v) := Lib.hid (fun W q2 hW hS => by
    have hvx : valsE ss xs = ys := by unfold valsE; rw [HBR.out]; exact HYS.out
    rw [← HPE.out, hvx]
    exact put_good k q2 m m ys W HYL (by omega) hS (HE.out.below hW) (Lib.hid (by have := HCV.out; rwa [hvx] at this)))
  clear he hs hq
  go_enter Tryz.func22, Tryz.ntmps22
  go_wp2_with fail
  refine (HV.out).mono ?_
  rintro e w1 ⟨rfl, hb1⟩
  have HB1 := Lib.hid hb1
  have hc3 := (hb1.cell (p := ⟨b1, o1 + 2, none⟩) HBL.out).trans HC3.out
  clear hb1
  go_wp2_with fail
  refine (HRA.out _ HB1.out).mono ?_
  rintro e w' ⟨rfl, rfl⟩
  go_wp2_with fail
  refine (HRN.out _ HB1.out).mono ?_
  rintro e w2 ⟨q2, rfl, hs2, hb2⟩
  have HBF := Lib.hid (HB1.out.trans (hb2.mono HB1.out.size))
  have HPT2 := Lib.hid (HPT.out w2 q2 HBF.out hs2)
  clear hb2 hc3 hs2
  go_wp2_with fail
  refine (HPT2.out).mono ?_
  rintro e w3 ⟨v3, rfl, hg3⟩
  have HO3 : Hid (w3.ownsRow w.heap.size 5 1 v3 P.length (ubs P)) := Lib.hid (own_lower hg3.own HBF.out.size)
  have HB3 : Hid (Below w.heap.size w w3) := Lib.hid (HBF.out.trans (hg3.below.mono HBF.out.size))
  clear hg3
  go_wp2_with fail
  go_loopw [10, 11, 12] (fun bv ev iv wr => ∃ (i : Nat) (v : Value), i ≤ n ∧ v = bv ∧ ev = .int .i64 0 ∧ iv = .int .i64 i ∧ Hid (wr.ownsRow w.heap.size 5 1 v (thrS ss i P).length (ubs (thrS ss i P))) ∧ Hid (Below w.heap.size w wr)) (fun _ _ iv _ => n - (intOf iv).toNat)
  case atStart => exact ⟨0, v3, Nat.zero_le _, rfl, rfl, rfl, HO3, HB3⟩
  case round =>
    obtain ⟨i, v, hi, rfl, rfl, rfl, HO, HB⟩ := hrel
    have ii : (i : Int) ≤ (n : Int) := by omega
    by_cases hlt : i < n
    · have ilt : (i : Int) < (n : Int) := by omega
      have hil : i < ss.length := by rw [hx.out]; exact hlt
      obtain ⟨b2, o2, x, y, s, e2, hb2, hd1, hd2, hd3, hx2⟩ := (HS.out.below HB.out).at (k := i) hil
      have HTH : Hid (Calls Tryz.prog 54 #[.agg #[.int .i64 x, .int .i64 y, .string ⟨s.toArray⟩], v] wr (ThrPost w.heap.size (thrS ss (i + 1) P) wr)) := Lib.hid (by
        have h := through_any (x, y, s) v (thrS ss i P) w.heap.size wr HB.out.size (by have := pip_st HPO.out i hil; rwa [hx2.out] at this) (by have h1 := thrS_len (l := P) (pip_st HPO.out) (by have := HPL.out; omega) (pip_all HPO.out).2.1 i (by omega); have := HPL.out; have := (pip_all HPO.out).2.1; omega) HO.out
        rwa [thrS_succ hil, hx2.out])
      first | (cases e2) | (rw [e2])
      obtain ⟨SZ, HSZ⟩ : ∃ SZ : ByteArray, Hid (⟨s.toArray⟩ = SZ) := ⟨_, rfl⟩
      rw [HSZ.out] at hd3 HTH
      clear hb2 hil
      go_wp2_with fail
      refine (HTH.out).mono ?_
      rintro e w5 ⟨hb5, v5, rfl, ho5⟩
      have HB5 := Lib.hid (HB.out.trans (hb5.mono HB.out.size))
      have HO5 := Lib.hid ho5
      clear hb5 ho5 hd1 hd2 hd3
      go_wp2_with fail
      go_roundw
      case rel => exact ⟨i + 1, v5, by omega, rfl, rfl, by go_num, HO5, HB5⟩
      case measure => simp [intOf]; omega
    · obtain rfl : i = n := by omega
      have ilt : ¬ (i : Int) < (i : Int) := by omega
      obtain ⟨L, HL⟩ : ∃ L, Hid (thrS ss i P = L) := ⟨_, rfl⟩
      rw [HL.out] at HO
      have HLL : Hid (L.length ≤ 9000) := Lib.hid (by
        have h1 := thrS_len (l := P) (pip_st HPO.out) (by have := HPL.out; omega) (pip_all HPO.out).2.1 ss.length (Nat.le_refl _)
        rw [hx.out, HL.out] at h1
        have := HPL.out; have h4 := (pip_all HPO.out).2.1; rw [hx.out] at h4; omega)
      obtain ⟨pv, cv, rfl, hbs, hcv⟩ := own_bytes HO.out
      obtain ⟨m0, HM0⟩ : ∃ m0, Hid (L.length = m0) := ⟨_, rfl⟩
      obtain ⟨X, HX⟩ : ∃ X, Hid (Crc.crc L = X) := ⟨_, rfl⟩
      have HSM : Hid (Calls Tryz.prog 55 #[.slice pv m0 cv] wr fun e w' => e = .returned (.agg #[.int .u8 ((X % 256 : Nat) : Int), .int .u8 ((X / 256 % 256 : Nat) : Int), .int .u8 ((X / 65536 % 256 : Nat) : Int), .int .u8 ((X / 16777216 % 256 : Nat) : Int)]) ∧ Below wr.heap.size wr w') := Lib.hid (by
        have h := sumbytes_any pv cv L wr (by have := HLL.out; omega) hbs
        unfold sumV at h
        rwa [HX.out, HM0.out] at h)
      obtain ⟨c0, HC0⟩ : ∃ c0, Hid (X % 256 = c0) := ⟨_, rfl⟩
      obtain ⟨c1, HC1⟩ : ∃ c1, Hid (X / 256 % 256 = c1) := ⟨_, rfl⟩
      obtain ⟨c2, HC2⟩ : ∃ c2, Hid (X / 65536 % 256 = c2) := ⟨_, rfl⟩
      obtain ⟨c4, HC4⟩ : ∃ c4, Hid (X / 16777216 % 256 = c4) := ⟨_, rfl⟩
      rw [HC0.out, HC1.out, HC2.out, HC4.out] at HSM
      rw [HM0.out] at HO ⊢
      clear hbs hcv
      go_wp2_with fail
      refine (HSM.out).mono ?_
      rintro e w6 ⟨rfl, hb6⟩
      have HB6 := Lib.hid (HB.out.trans (hb6.mono HB.out.size))
      obtain ⟨W7, HW7⟩ : ∃ W7, Hid (w6.alloc (.cells #[.int .u8 (c0 : Int), .int .u8 (c1 : Int), .int .u8 (c2 : Int), .int .u8 (c4 : Int)] 79) = W7) := ⟨_, Lib.hid rfl⟩
      obtain ⟨G, HG⟩ : ∃ G, Hid (w6.heap.size = G) := ⟨_, rfl⟩
      have HSB : Hid (Bs W7 (some ⟨G, 0, none⟩) (sumB X)) := Lib.hid (by
        refine sum_bs ?_
        rw [HC0.out, HC1.out, HC2.out, HC4.out, ← HW7.out, ← HG.out]
        exact World.alloc_heap_new w6 _)
      have hb7 : Below w6.heap.size w6 W7 := by rw [← HW7.out]; exact (Below.refl _ _).alloc (Nat.le_refl _) _
      have HO7 : Hid (W7.ownsRow w.heap.size 5 1 (.slice pv m0 cv) m0 (ubs L)) := Lib.hid (own_below (own_below HO.out hb6) hb7)
      have HB7 : Hid (Below w.heap.size w W7) := Lib.hid (HB6.out.trans (hb7.mono HB6.out.size))
      have HSZ7 : Hid (w.heap.size ≤ W7.heap.size) := Lib.hid HB7.out.size
      have HLB : Hid (m0 + 4 ≤ 140737488355328) := Lib.hid (by have := HLL.out; have := HM0.out; omega)
      clear hb6 hb7
      go_wp2_with (first | (rw [HW7.out, HG.out]; at_builtin; refine wpList_append_bs rfl (.tmp 64) (.tmp 65) rfl w.heap.size (.slice pv m0 cv) m0 L rfl HM0.out.symm HO7.out (some ⟨G, 0, none⟩) 4 4 (sumB X) rfl rfl HSB.out HLB.out HSZ7.out ?_) | (at_builtin; rw [HW7.out, HG.out]; refine wpList_append_bs rfl (.tmp 64) (.tmp 65) rfl w.heap.size (.slice pv m0 cv) m0 L rfl HM0.out.symm HO7.out (some ⟨G, 0, none⟩) 4 4 (sumB X) rfl rfl HSB.out HLB.out HSZ7.out ?_))
      intro v9 w9 hg9
      have HFIN : Hid (PutG w (withSum L) w9 v9) := Lib.hid ⟨by unfold withSum; rw [HX.out]; exact hg9.own, HB7.out.grown hg9.grown HB7.out.size (fun _ e => own_ge HO7.out e)⟩
      clear hg9
      go_wp2_with fail
      go_ret2
      exact ⟨v9, rfl, by rw [encL, HPE.out, hx.out, HL.out]; exact HFIN.out⟩
end Go.Proofs.YtpnofkefcoaojaaGreatDoor
