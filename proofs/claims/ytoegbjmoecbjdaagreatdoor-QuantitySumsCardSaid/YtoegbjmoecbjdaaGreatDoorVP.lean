/- The law QuantitySums: its walk. -/
import Derived.Test.YtoegbjmoecbjdaaGreatDoorVL
import Derived.OwnWalk
import Derived.Deep.RegionHeld3
import Derived.Deep.DeepCutAuto
set_option maxHeartbeats 8000000
set_option maxRecDepth 100000
namespace Go.Proofs.YtoegbjmoecbjdaaGreatDoor
open Go.RowKit Big
open Go.Lib Go.Shelf
theorem info9s : (Tryz.prog.info? 9).map (fun i => (i.zero, i.size, i.bytes)) = some (some (.string ⟨#[]⟩), 1, 16) := by kernel_rfl
theorem parts9 : ∃ i, Tryz.prog.info? 9 = some i ∧ i.zero = some (.string ⟨#[]⟩) ∧ i.size = 1 ∧ i.bytes = 16 := by
  obtain ⟨i, hi, hz⟩ := Option.map_eq_some_iff.1 info9s
  simp only [Prod.mk.injEq] at hz
  exact ⟨i, hi, hz.1, hz.2.1, hz.2.2⟩
theorem rev_drop {ss : List (List UInt8)} {q : Nat} (h : q < ss.length) : (ss.drop q).reverse = (ss.drop (q + 1)).reverse ++ [ss.getD q []] := by
  rw [List.drop_eq_getElem_cons h, List.reverse_cons, List.getD_eq_getElem?_getD, List.getElem?_eq_getElem h]
  rfl
theorem sums_long (p : Option Addr) (n c k : Nat) (w : World) (hn : 60 < n) (HA : Hid (∀ W, Below w.heap.size w W → Calls Tryz.prog 21 #[] W fun e w' => e = .returned (.bool true) ∧ Below W.heap.size W w')) : Calls Tryz.prog 7 #[.slice p n c, .int .u8 k] w fun e w' => e = .returned (.bool true) ∧ Below w.heap.size w w' := by
  have hn1 : (60 : Int) < (n : Int) := by omega
  go_enter Tryz.func7, Tryz.ntmps7
  go_wp2_with fail
  refine (HA.out _ (Below.refl _ _)).mono ?_
  rintro e w2 ⟨rfl, hb⟩
  have HB := hiD hb
  clear hb
  go_wp2_with fail
  go_ret
  exact ⟨rfl, HB.out⟩
theorem sums_short (b off n c k at' : Nat) (ss : List (List UInt8)) (w : World) (hl : ss.length = n) (h0 : 0 < n) (hn : n ≤ 60) (hc : n ≤ c) (hk : k < 256) (hat : at' = k % (n + 1)) (h : RdS w (some ⟨b, off, none⟩) ss)
    (HA : Hid (∀ W, Below w.heap.size w W → Calls Tryz.prog 21 #[] W fun e w' => e = .returned (.bool true) ∧ Below W.heap.size W w'))
    (HS : Hid (∀ (p : Option Addr) (n c : Nat) (ss : List (List UInt8)) (W : World), ss.length = n → n ≤ 1000 → Below w.heap.size w W → RdS W p ss → Calls Tryz.prog 47 #[.slice p n c] W fun e w' => e = .returned (.string ⟨(sumT ss).toArray⟩) ∧ Below W.heap.size W w'))
    (HR : Hid (∀ (p : Option Addr) (n c : Nat) (ss : List (List UInt8)) (W : World), ss.length = n → n ≤ 1000 → Below w.heap.size w W → RdS W p ss → Calls Tryz.prog 48 #[.slice p n c] W fun e w' => e = .returned (.string ⟨(sumT ss).toArray⟩) ∧ Below W.heap.size W w'))
    (HP : Hid (∀ (x y : ByteArray) (W : World), Below w.heap.size w W → Calls Tryz.prog 26 #[.string x, .string y] W fun e w' => e = .returned (.string ⟨(opT (· + ·) x.data.toList y.data.toList).toArray⟩) ∧ Below W.heap.size W w')) : Calls Tryz.prog 7 #[.slice (some ⟨b, off, none⟩) n c, .int .u8 k] w fun e w' => e = .returned (.bool true) ∧ Below w.heap.size w w' := by
  have hn1 : (n : Int) ≤ 60 := by omega
  have hn0 : (0 : Int) < (n : Int) := by omega
  have hnn : (0 : Int) ≤ (n : Int) := by omega
  have hle : at' ≤ n := by rw [hat]; have := Nat.mod_lt k (show 0 < n + 1 by omega); omega
  have HK : Hid ((k : Int) % ((n : Int) + 1) = (at' : Int)) := hiD (by
    rw [hat]
    norm_cast)
  have hk1 : (k : Int) < 256 := by omega
  have hk0 : (0 : Int) ≤ (k : Int) := by omega
  have HL := hiD hl
  have HRD := hiD h
  have HLE := hiD hle
  have HC := hiD hc
  clear hl h hle hat hc
  obtain ⟨i0, hi, hz0, hz1, hz2⟩ := parts9
  have HI := hiD hi
  have HZ0 := hiD hz0
  have HZ1 := hiD hz1
  have HZ2 := hiD hz2
  clear hi hz0 hz1 hz2
  obtain ⟨b', off', hbe, hbl, hcell⟩ : ∃ b' off', (some ⟨b, off, none⟩ : Option Addr) = some ⟨b', off', none⟩ ∧ b' < w.heap.size ∧ ∀ j, j < ss.length → w.cell? ⟨b', off' + j, none⟩ = some (.string ⟨(ss.getD j []).toArray⟩) := by
    rcases HRD.out with h | h
    · have := HL.out; rw [h] at this; simp at this; omega
    · exact h
  cases hbe
  have HBL := hiD hbl
  have HCELL := hiD hcell
  clear hbl hcell
  go_enter Tryz.func7, Tryz.ntmps7
  go_wp2_with fail
  rw [HK.out]
  go_loopw [6, 7] (fun v iv wr => ∃ (j : Nat) (x : Int), j ≤ n ∧ at' ≤ j ∧ x = (j : Int) - 1 ∧ iv = .int .i64 x ∧ Hid (StrsIn wr w.heap.size v (ss.drop j).reverse ∧ Below w.heap.size w wr)) (fun _ iv _ => (intOf iv + 1).toNat)
  case atStart => exact ⟨n, _, Nat.le_refl _, HLE.out, rfl, rfl, hiD ⟨⟨by simp, .inl ⟨rfl, by rw [List.drop_eq_nil_of_le (by have := HL.out; omega)]; rfl⟩⟩, Below.refl _ _⟩⟩
  case round =>
    obtain ⟨j, x, hj, haj, hx, rfl, hst⟩ := hrel
    have HST := hiD hst.out
    clear hst
    by_cases hlt : at' < j
    · obtain ⟨q, rfl⟩ : ∃ q, j = q + 1 := ⟨j - 1, by omega⟩
      obtain rfl : x = (q : Int) := by omega
      clear hx
      have hq0 : (0 : Int) ≤ (q : Int) := by omega
      have hqn : (q : Int) < (n : Int) := by omega
      have hqa : (at' : Int) ≤ (q : Int) := by omega
      obtain ⟨s, HS⟩ : ∃ s : ByteArray, Hid ((⟨(ss.getD q []).toArray⟩ : ByteArray) = s) := ⟨_, hiD rfl⟩
      have s1 : wr.cell? ⟨b, off + q, none⟩ = some (.string s) := by
        rw [← HS.out]
        exact (HST.out.2.cell (p := ⟨b, off + q, none⟩) HBL.out).trans (HCELL.out q (by have := HL.out; omega))
      have HSI : Hid (StrsIn (wr.alloc (.cells #[.string s] 9)) w.heap.size u6 (ss.drop (q + 1)).reverse) := hiD (HST.out.1.below (bea _ _))
      have HBA : Hid (Below w.heap.size w (wr.alloc (.cells #[.string s] 9))) := hiD (HST.out.2.trans ((bea wr _).mono HST.out.2.size))
      have HNW : Hid (∀ j u, ([Value.string s])[j]? = some u → (wr.alloc (.cells #[.string s] 9)).cell? ((⟨wr.heap.size, 0, none⟩ : Addr).add j) = some u) := hiD (fun j u hu => by
        rw [Addr.add_mid, ceh (heap_new _ _), Nat.zero_add, List.getElem?_toArray]
        exact hu)
      have HLN : Hid ((ss.drop (q + 1)).reverse.length ≤ 60) := hiD (by rw [List.length_reverse, List.length_drop]; have := HL.out; omega)
      have HSZ : Hid (w.heap.size ≤ (wr.alloc (.cells #[.string s] 9)).heap.size) := hiD HBA.out.size
      have HJ : Hid (∀ v6 (w6 : World), w6.ownsRow w.heap.size 9 1 v6 ((ss.drop (q + 1)).reverse.length + 1) ((ss.drop (q + 1)).reverse.map (fun s => Value.string ⟨s.toArray⟩) ++ [.string s]) → StrsIn w6 w.heap.size v6 (ss.drop q).reverse) := hiD (fun v6 w6 h => by
        have e : ([ss.getD q []]).map (fun s => Value.string ⟨s.toArray⟩) = [.string s] := by
          rw [← HS.out]; rfl
        unfold StrsIn
        rw [rev_drop (by have := HL.out; omega), List.map_append, List.length_append, e]
        exact h)
      go_wp2_with (at_builtin; refine wpList_append_own (P := Tryz.prog) _ rfl _ _ 47 rfl w.heap.size 9 i0 (.string ⟨#[]⟩) 1 16 Tryz.underlying47 HI.out HZ0.out HZ1.out HZ2.out rfl (by decide) _ _ _ rfl HSI.out ⟨wr.heap.size, 0, none⟩ 1 1 [.string s] rfl rfl HNW.out (by intro u hu; rw [List.mem_singleton.1 hu]; rfl) (by have := HLN.out; unfold maxLen; omega) (by have := HLN.out; omega) HSZ.out ?_; intro v6 w6 hr6 hg6 _; have HEND : Hid (StrsIn w6 w.heap.size v6 (ss.drop q).reverse ∧ Below w.heap.size w w6) := hiD ⟨HJ.out v6 w6 hr6, HBA.out.grown hg6 HBA.out.size (fun k hk => HSI.out.own hk)⟩; clear hr6 hg6)
      go_roundw
      case rel => exact ⟨q, _, by omega, by omega, rfl, by go_num, HEND⟩
      case measure => simp [intOf]
    · obtain rfl : j = at' := by omega
      have hxj : x < (j : Int) := by omega
      have hxn : ¬ ((j : Int) ≤ x) := by omega
      clear hx hlt haj
      have hs1 : ∀ W, (Instr.sliceAt 47 (.slice (some ⟨b, off, none⟩) n c) none (some (.int .i64 (j : Int))) none).run Tryz.prog W = .ok (.slice (some ⟨b, off, none⟩) j c) W := low47 b off n c j (by have := HC.out; omega) (by have := HC.out; omega)
      have HNW : Hid (∀ i u, ((ss.take j).map fun s => Value.string ⟨s.toArray⟩)[i]? = some u → wr.cell? ((⟨b, off, none⟩ : Addr).add i) = some u) := hiD (fun i u hu => by
        rw [List.getElem?_map, Option.map_eq_some_iff] at hu
        obtain ⟨s, hs, rfl⟩ := hu
        rw [Addr.add_mid]
        have hi := (List.getElem?_eq_some_iff.1 hs).1
        rw [List.length_take] at hi
        rw [List.getElem?_take_of_lt (by omega)] at hs
        rw [(HST.out.2.cell (p := ⟨b, off + i, none⟩) HBL.out), HCELL.out i (by omega), List.getD_eq_getElem?_getD, hs]
        rfl)
      have HSI := hiD HST.out.1
      have HLN : Hid ((ss.drop j).reverse.length ≤ 60 ∧ (ss.take j).length = j) := hiD ⟨by rw [List.length_reverse, List.length_drop]; have := HL.out; omega, by rw [List.length_take]; have := HL.out; omega⟩
      have HBW := hiD HST.out.2
      have HSZ : Hid (w.heap.size ≤ wr.heap.size) := hiD HST.out.2.size
      have HJ : Hid (∀ v6 (w6 : World), w6.ownsRow w.heap.size 9 1 v6 ((ss.drop j).reverse.length + j) ((ss.drop j).reverse.map (fun s => Value.string ⟨s.toArray⟩) ++ (ss.take j).map (fun s => Value.string ⟨s.toArray⟩)) → StrsIn w6 w.heap.size v6 ((ss.drop j).reverse ++ ss.take j)) := hiD (fun v6 w6 h => by
        unfold StrsIn
        rw [List.map_append, List.length_append, HLN.out.2]
        exact h)
      go_wp2_with (at_builtin; refine wpList_append_own (P := Tryz.prog) _ rfl _ _ 47 rfl w.heap.size 9 i0 (.string ⟨#[]⟩) 1 16 Tryz.underlying47 HI.out HZ0.out HZ1.out HZ2.out rfl (by decide) _ _ _ rfl HSI.out ⟨b, off, none⟩ j c ((ss.take j).map fun s => Value.string ⟨s.toArray⟩) rfl (by rw [List.length_map, HLN.out.2, Nat.mul_one]) HNW.out (by intro u hu; obtain ⟨s, -, rfl⟩ := List.mem_map.1 hu; rfl) (by have := HLN.out; unfold maxLen; omega) (by have := HLN.out; omega) HSZ.out ?_; intro v6 w6 hr6 hg6 _; have HTU : Hid (StrsIn w6 w.heap.size v6 ((ss.drop j).reverse ++ ss.take j)) := hiD (HJ.out v6 w6 hr6); have HB6 : Hid (Below w.heap.size w w6) := hiD (HBW.out.grown hg6 HBW.out.size (fun k hk => HSI.out.own hk)); clear hr6 hg6)
      obtain ⟨A, HAE⟩ : ∃ A : ByteArray, Hid ((⟨(sumT (ss.take j)).toArray⟩ : ByteArray) = A) := ⟨_, hiD rfl⟩
      obtain ⟨B, HBE⟩ : ∃ B : ByteArray, Hid ((⟨(sumT (ss.drop j)).toArray⟩ : ByteArray) = B) := ⟨_, hiD rfl⟩
      obtain ⟨S, HSE⟩ : ∃ S : ByteArray, Hid ((⟨(sumT ss).toArray⟩ : ByteArray) = S) := ⟨_, hiD rfl⟩
      obtain ⟨p2, hs2, hp2⟩ := high47 b off n c j hj
      obtain ⟨n2, HN2⟩ : ∃ n2, Hid (n - j = n2) := ⟨_, hiD rfl⟩
      obtain ⟨c2, HC2⟩ : ∃ c2, Hid (c - j = c2) := ⟨_, hiD rfl⟩
      have HCA : Hid (∀ W, Below w.heap.size w W → Calls Tryz.prog 47 #[.slice (some ⟨b, off, none⟩) j c] W fun e w' => e = .returned (.string A) ∧ Below W.heap.size W w') := hiD (fun W hb => by
        rw [← HAE.out]; exact HS.out _ _ _ (ss.take j) W HLN.out.2 (by omega) hb ((HRD.out.below hb).take j))
      have HCB : Hid (∀ W, Below w.heap.size w W → Calls Tryz.prog 47 #[.slice p2 n2 c2] W fun e w' => e = .returned (.string B) ∧ Below W.heap.size W w') := hiD (fun W hb => by
        rw [← HBE.out, ← HN2.out]; exact HS.out _ _ _ (ss.drop j) W (by rw [List.length_drop, HL.out]) (by omega) hb ((HRD.out.below hb).drop j (fun h => hp2 (by have := HL.out; have := HC.out; omega))))
      rw [HN2.out, HC2.out] at hs2
      have HS0 := hiD (HS.out (some ⟨b, off, none⟩) n c ss w6 HL.out (by omega) HB6.out (HRD.out.below HB6.out))
      have HR0 : Hid (∀ W, Below w.heap.size w W → Calls Tryz.prog 48 #[.slice (some ⟨b, off, none⟩) n c] W fun e w' => e = .returned (.string S) ∧ Below W.heap.size W w') := hiD (fun W hb => by
        rw [← HSE.out]; exact HR.out _ _ _ ss W HL.out (by omega) hb (HRD.out.below hb))
      obtain ⟨p6, c6, hv6, hr6⟩ := HTU.out.rd
      subst hv6
      obtain ⟨n6, HN6⟩ : ∃ n6, Hid (((ss.drop j).reverse ++ ss.take j).length = n6) := ⟨_, hiD rfl⟩
      have HT0 : Hid (∀ W, Below w6.heap.size w6 W → Calls Tryz.prog 47 #[.slice p6 n6 c6] W fun e w' => e = .returned (.string S) ∧ Below W.heap.size W w') := hiD (fun W hb => by
        rw [← HSE.out, ← sum_turned ss j]
        exact HS.out _ _ _ _ W HN6.out (by rw [← HN6.out, List.length_append]; have := HLN.out; omega) (HB6.out.trans (hb.mono HB6.out.size)) (hr6.below hb))
      rw [HN6.out]
      rw [HSE.out] at HS0
      clear hp2 hr6 HTU HR HRD HCELL HNW HJ HST HSI
      refine HS0.out.mono ?_
      rintro e w7 ⟨rfl, hb7⟩
      have HB67 := hiD hb7
      have HB7 := hiD (HB6.out.trans (hb7.mono HB6.out.size))
      clear hb7
      go_upto_region 13 with fail
      go_cut [9, 10] (fun s9 s10 wx => s9 = .string A ∧ s10 = .string B ∧ Hid (Below w6.heap.size w6 wx))
      case first =>
        go_region_with
          (first | (go_at_call 47; refine (HCB.out _ HWA.out).mono ?_; rintro e wB ⟨rfl, hbB⟩; have HWB := hiD (HWA.out.trans (hbB.mono HWA.out.size)); have HXB := hiD (HXA.out.trans (hbB.mono HXA.out.size)); clear hbB) | (go_at_call 47; refine (HCA.out _ (HB7.out.trans (Below.refl _ _).drew)).mono ?_; rintro e wA ⟨rfl, hbA⟩; have HWA := hiD ((HB7.out.trans (Below.refl _ _).drew).trans (hbA.mono HB7.out.size)); have HXA := hiD ((HB67.out.trans (Below.refl _ _).drew).trans (hbA.mono HB67.out.size)); clear hbA))
        all_goals
          go_wp2_with fail
          go_meet
          case rel => exact ⟨rfl, rfl, HXB⟩
      case rest =>
        obtain ⟨rfl, rfl, hm⟩ := hcut
        have HM := hiD hm.out
        clear hm HCA HCB
        have HWC := hiD (HB6.out.trans (HM.out.mono HB6.out.size))
        go_wp2_with fail
        refine (HR0.out _ HWC.out).mono ?_
        rintro e w8 ⟨rfl, hb8⟩
        have HW8 := hiD (HWC.out.trans (hb8.mono HWC.out.size))
        have HX8 := hiD (HM.out.trans (hb8.mono HM.out.size))
        clear hb8
        go_wp2_with fail
        refine (HT0.out _ HX8.out).mono ?_
        rintro e w9 ⟨rfl, hb9⟩
        have HW9 := hiD (HW8.out.trans (hb9.mono HW8.out.size))
        clear hb9
        by_cases hA : A.toList = []
        · go_wp2_with fail
          refine (HA.out _ HW9.out).mono ?_
          rintro e wx ⟨rfl, hbx⟩
          have HWX := hiD (HW9.out.trans (hbx.mono HW9.out.size))
          clear hbx
          go_wp2_with fail
          go_ret
          exact ⟨rfl, HWX.out⟩
        · by_cases hB : B.toList = []
          · go_wp2_with fail
            refine (HA.out _ HW9.out).mono ?_
            rintro e wx ⟨rfl, hbx⟩
            have HWX := hiD (HW9.out.trans (hbx.mono HW9.out.size))
            clear hbx
            go_wp2_with fail
            go_ret
            exact ⟨rfl, HWX.out⟩
          · have hsa : sumT (ss.take j) ≠ [] := by
              intro h; apply hA; rw [← HAE.out, ByteArray.toList_mk]; exact h
            have hsb : sumT (ss.drop j) ≠ [] := by
              intro h; apply hB; rw [← HBE.out, ByteArray.toList_mk]; exact h
            have HPQ : Hid (Calls Tryz.prog 26 #[.string A, .string B] w9 fun e w' => e = .returned (.string S) ∧ Below w9.heap.size w9 w') := hiD (by
              have h := HP.out A B w9 HW9.out
              have e : (⟨(opT (· + ·) A.data.toList B.data.toList).toArray⟩ : ByteArray) = S := by
                rw [← HSE.out, ← sum_parts ss j hsa hsb, ← HAE.out, ← HBE.out]
              rw [e] at h
              exact h)
            clear hsa hsb
            go_wp2_with fail
            refine HPQ.out.mono ?_
            rintro e wy ⟨rfl, hby⟩
            have HWY := hiD (HW9.out.trans (hby.mono HW9.out.size))
            clear hby HW9
            have HW9 := HWY
            clear HWY
            go_wp2_with fail
            refine (HA.out _ HW9.out).mono ?_
            rintro e wx ⟨rfl, hbx⟩
            have HWX := hiD (HW9.out.trans (hbx.mono HW9.out.size))
            clear hbx
            go_wp2_with fail
            go_ret
            exact ⟨rfl, HWX.out⟩
end Go.Proofs.YtoegbjmoecbjdaaGreatDoor
