/- Bytes of values: the program's Put. -/
import Derived.Test.YtpnofkefcoaojaaGreatDoorKB
import Derived.BigQuiet
import Derived.Deep.RegionHeld3
import Derived.Laws.BitsAllLaws
set_option maxHeartbeats 4000000
set_option maxRecDepth 100000
namespace Go.Proofs.YtpnofkefcoaojaaGreatDoor
open Go.RowKit
open Go.Lib
def orB (c : UInt8) (r : Nat) : UInt8 := UInt8.ofNat (c.toNat ||| 2 ^ r)
theorem orB_toNat (c : UInt8) {r : Nat} (h : r < 8) : (orB c r).toNat = c.toNat ||| 2 ^ r := by
  unfold orB
  have h1 : c.toNat < 2 ^ 8 := c.toNat_lt
  have h2 : 2 ^ r < 2 ^ 8 := Nat.pow_lt_pow_right (by omega) h
  rw [UInt8.toNat_ofNat', Nat.mod_eq_of_lt (Nat.or_lt_two_pow h1 h2)]
def stP (xs : List (List UInt8)) (P : Nat) : Nat → List UInt8
  | 0 => List.replicate P 0
  | i + 1 => if xs.getD i [] = [] then stP xs P i else (stP xs P i).set (i / 8) (orB ((stP xs P i).getD (i / 8) 0) (i % 8))
theorem stP_len (xs : List (List UInt8)) (P : Nat) : ∀ i, (stP xs P i).length = P
  | 0 => by simp [stP]
  | i + 1 => by
    rw [stP]
    split
    · exact stP_len xs P i
    · rw [List.length_set]; exact stP_len xs P i
def els (k : Int) (xs : List (List UInt8)) (i : Nat) : List UInt8 := (xs.take i).flatMap (elemL k)
theorem elemL_len {k : Int} {x : List UInt8} (h : fitT k x = true) : (elemL k x).length ≤ 83 := by
  unfold elemL
  have h1 := fit_len h
  have h2 := widT_le k
  split
  · split
    · simp
    · rw [List.length_cons]; omega
  · rw [be_length]; omega
theorem take_at {xs : List (List UInt8)} {i : Nat} (h : i < xs.length) : xs.take (i + 1) = xs.take i ++ [xs.getD i []] := by
  rw [List.take_succ_eq_append_getElem h, List.getD_eq_getElem?_getD, List.getElem?_eq_getElem h]; rfl
theorem els_succ {k : Int} {xs : List (List UInt8)} {i : Nat} (h : i < xs.length) : els k xs (i + 1) = els k xs i ++ elemL k (xs.getD i []) := by
  unfold els
  rw [take_at h, List.flatMap_append]; simp
theorem els_len {k : Int} {xs : List (List UInt8)} (hf : ∀ x ∈ xs, fitT k x = true) : ∀ i, i ≤ xs.length → (els k xs i).length ≤ 83 * i
  | 0, _ => by simp [els]
  | i + 1, h => by
    have h1 := els_len hf i (by omega)
    rw [els_succ (by omega), List.length_append]
    have h2 := elemL_len (hf (xs.getD i []) (by rw [List.getD_eq_getElem?_getD, List.getElem?_eq_getElem (by omega)]; exact List.getElem_mem _))
    omega
def putS (k : Int) (xs : List (List UInt8)) (i : Nat) : List UInt8 := stP xs ((xs.length + 7) / 8) i ++ els k xs i
def putT (k : Int) (xs : List (List UInt8)) : List UInt8 := putS k xs xs.length
structure PutG (w : World) (L : List UInt8) (wr : World) (v : Value) : Prop where
  own : wr.ownsRow w.heap.size 5 1 v L.length (ubs L)
  below : Below w.heap.size w wr
theorem own_ge {W : World} {B n : Nat} {v : Value} {xs : List Value} {g0 : Nat} (h : W.ownsRow B 5 1 v n xs) (e : v.ownBlock = some g0) : B ≤ g0 := by
  obtain ⟨-, ⟨rfl, -⟩ | ⟨g, cap, cur, rfl, hg, -⟩⟩ := h
  · cases e
  · cases e; exact hg
theorem PutG.next {w W w' : World} {v v' : Value} {L L' : List UInt8} (h : PutG w L W v) (hg : Gro w.heap.size W v L' w' v') : PutG w L' w' v' :=
  ⟨hg.own, h.below.grown hg.grown h.below.size (fun _ e => own_ge h.own e)⟩
theorem made_n (P : Nat) : ubs (List.replicate P 0) = (madeCells #[Value.int .u8 0] P).toList := by
  apply List.ext_getElem
  · simp [ubs, madeCells]
  · intro i h1 h2
    simp [ubs, madeCells, Nat.mod_one]
theorem put_bad (k : Int) (p : Option Addr) (c n : Nat) (xs : List (List UInt8)) (w : World) (hx : Hid (xs.length = n)) (hn : n ≤ 4096) (hs : Ss w p xs) (he : Env w) (z : Int) (HZ : Hid (chkE k xs = z)) (hz : z ≠ 0) :
    Calls Tryz.prog 34 #[.int .i64 k, .slice p n c] w fun e w' => e = .returned (.tuple #[.slice none 0 0, .int .i64 z]) ∧ Below w.heap.size w w' := by
  have HC := Lib.hid (checkV_any k p c n xs w hx hn hs he)
  rw [HZ.out] at HC
  clear hs he
  have gz : (z != 0) = true := by rw [bne_iff_ne]; exact hz
  go_enter Tryz.func34, Tryz.ntmps34
  go_wp2_with fail
  refine (HC.out).mono ?_
  rintro e w1 ⟨rfl, hb1⟩
  have HB1 := Lib.hid hb1
  clear hb1
  go_wp2_with fail
  go_ret2
  exact ⟨rfl, HB1.out⟩
theorem put_good (k : Int) (p : Option Addr) (c n : Nat) (xs : List (List UInt8)) (w : World) (hx : Hid (xs.length = n)) (hn : n ≤ 4096) (hs : Ss w p xs) (he : Env w) (HZ : Hid (chkE k xs = 0)) :
    Calls Tryz.prog 34 #[.int .i64 k, .slice p n c] w fun e w' => ∃ v, e = .returned (.tuple #[v, .int .i64 0]) ∧ PutG w (putT k xs) w' v := by
  have HS := Lib.hid hs
  have HE := Lib.hid he
  have HC := Lib.hid (checkV_any k p c n xs w hx hn hs he)
  rw [HZ.out] at HC
  clear hs he
  have hk : isT k = true ∧ xs.all (fitT k) = true := by
    have h := HZ.out
    unfold chkE at h
    by_cases h1 : isT k = false
    · rw [if_pos h1] at h; cases h
    · rw [if_neg h1] at h
      by_cases h2 : xs.all (fitT k) = false
      · rw [if_pos h2] at h; cases h
      · exact ⟨by simpa using h1, by simpa using h2⟩
  have HK1 : Hid (1 ≤ k ∧ k ≤ 5) := Lib.hid (by
    have h := hk.1
    unfold isT at h
    rw [Bool.and_eq_true, decide_eq_true_eq, decide_eq_true_eq] at h
    exact h)
  have HFA : Hid (∀ x ∈ xs, fitT k x = true) := Lib.hid (List.all_eq_true.1 hk.2)
  obtain ⟨P, HPD⟩ : ∃ P, Hid ((n + 7) / 8 = P) := ⟨_, rfl⟩
  have HPD2 : Hid ((xs.length + 7) / 8 = P) := Lib.hid (by rw [hx.out]; exact HPD.out)
  have hP : P ≤ 512 := by have := HPD.out; omega
  have hPi : ((n : Int) + 7) / 8 = (P : Int) := by have := HPD.out; omega
  have hni : (n : Int) ≤ 4096 := by omega
  have HPR := Lib.hid (fun W => presence_any n hni W)
  rw [hPi] at HPR
  obtain ⟨i0, hi, hz0, hz1, hz2⟩ := info_parts infoB5
  clear hk hPi
  go_enter Tryz.func34, Tryz.ntmps34
  go_wp2_with fail
  refine (HC.out).mono ?_
  rintro e w1 ⟨rfl, hb1⟩
  have HB1 := Lib.hid hb1
  clear hb1
  go_wp2_with fail
  refine (HPR.out _).mono ?_
  rintro e w' ⟨rfl, rfl⟩
  go_wp2_with (at_make; refine wpList_make_full _ rfl _ _ 39 rfl w.heap.size 5 i0 (.int .u8 0) 1 Tryz.underlying39 hi hz0 hz1 _ _ _ _ P rfl rfl (by rfl) (by rfl) ?b2 ?b3 HB1.out.size ?_)
  case b2 => rw [hz2]; omega
  case b3 => unfold maxLen; omega
  intro w2 hown hgrow
  have HP0 : Hid (PutG w (putS k xs 0) w2 (.slice (some ⟨w1.heap.size, 0, none⟩) P P)) := Lib.hid (by
    have e : putS k xs 0 = List.replicate P 0 := by unfold putS els; rw [HPD2.out]; simp [stP]
    rw [e]
    refine ⟨?_, HB1.out.grown hgrow HB1.out.size (fun _ h => by cases h)⟩
    rw [made_n, List.length_replicate]
    exact hown)
  clear hown hgrow
  go_wp2_with fail
  go_loopw [7, 22] (fun v iv wr => ∃ i : Nat, i ≤ n ∧ iv = .int .i64 i ∧ Hid (PutG w (putS k xs i) wr v)) (fun _ iv _ => n - (intOf iv).toNat)
  case atStart => exact ⟨0, Nat.zero_le _, rfl, HP0⟩
  case round =>
    obtain ⟨i, hi9, rfl, HK⟩ := hrel
    have ii : (i : Int) ≤ (n : Int) := by omega
    by_cases hlt : i < n
    · have ilt : (i : Int) < (n : Int) := by omega
      have hil : i < xs.length := by rw [hx.out]; exact hlt
      obtain ⟨b1, o1, x, e1, hb1, hc1, hxx⟩ := (HS.out.below HK.out.below).at hil
      subst e1
      have HF : Hid (fitT k x = true) := Lib.hid (HFA.out x (by rw [← hxx.out, List.getD_eq_getElem?_getD, List.getElem?_eq_getElem hil]; exact List.getElem_mem _))
      have HEL : Hid (P + (els k xs i).length ≤ 100000000) := Lib.hid (by have := els_len HFA.out i (by omega); omega)
      have HNX : Hid (putS k xs (i + 1) = stP xs P (i + 1) ++ (els k xs i ++ elemL k x)) := Lib.hid (by
        unfold putS; rw [els_succ hil, hxx.out, HPD2.out])
      have HCU : Hid (putS k xs i = stP xs P i ++ els k xs i) := Lib.hid (by unfold putS; rw [HPD2.out])
      by_cases hxe : x = []
      · subst hxe
        have HP1 : Hid (PutG w (stP xs P (i + 1) ++ els k xs i) wr u7) := Lib.hid (by
          rw [stP, if_pos hxx.out, ← HCU.out]; exact HK.out)
        clear hil hb1
        by_cases h5 : k = 5
        · have g5 : (k == 5) = true := by simpa using h5
          have H5 := Lib.hid h5
          clear h5
          have HA : Hid (Calls Tryz.prog 76 #[u7, .string ⟨#[]⟩] wr (AppG w.heap.size wr u7 (putS k xs (i + 1)))) := Lib.hid (by
            have := appendText_any w.heap.size u7 (stP xs P (i + 1) ++ els k xs i) [] wr (fit_len HF.out) (by rw [List.length_append, stP_len]; have := HEL.out; omega) HP1.out.below.size HP1.out.own
            rw [HNX.out]
            unfold elemL
            rw [if_pos H5.out, ← List.append_assoc]
            exact this)
          go_wp2_with fail
          refine (HA.out).mono ?_
          rintro e w3 ⟨v3, rfl, hg3⟩
          have HP3 := Lib.hid (HP1.out.next hg3)
          clear hg3
          go_wp2_with fail
          go_roundw
          case rel => exact ⟨i + 1, by omega, by go_num, HP3⟩
          case measure => simp [intOf]; omega
        · have g5 : (k == 5) = false := by simpa using h5
          have H5 := Lib.hid h5
          clear h5
          have HA : Hid (Calls Tryz.prog 77 #[u7, .string ⟨#[]⟩, .int .i64 (widT k : Int)] wr (AppG w.heap.size wr u7 (putS k xs (i + 1)))) := Lib.hid (by
            have := appendInteger_any w.heap.size u7 k (stP xs P (i + 1) ++ els k xs i) [] wr HF.out HK1.out.1 (by have := HK1.out.2; have := H5.out; omega) (by rw [List.length_append, stP_len]; have := HEL.out; omega) HP1.out.below.size HP1.out.own (HE.out.below HP1.out.below)
            rw [HNX.out, ← List.append_assoc]
            exact this)
          go_wp2_with fail
          refine (width_any k _).mono ?_
          rintro e w' ⟨rfl, rfl⟩
          go_wp2_with fail
          refine (HA.out).mono ?_
          rintro e w3 ⟨v3, rfl, hg3⟩
          have HP3 := Lib.hid (HP1.out.next hg3)
          clear hg3
          go_wp2_with fail
          go_roundw
          case rel => exact ⟨i + 1, by omega, by go_num, HP3⟩
          case measure => simp [intOf]; omega
      · have hxb : x.isEmpty = false := by
          cases x with
          | nil => exact absurd rfl hxe
          | cons => rfl
        have hi8 : i / 8 < P := by have := HPD.out; omega
        obtain ⟨j, HJ⟩ : ∃ j, Hid (i / 8 = j) := ⟨_, rfl⟩
        obtain ⟨r, HR⟩ : ∃ r, Hid (i % 8 = r) := ⟨_, rfl⟩
        have hr8 : r < 8 := by have := HR.out; omega
        rw [HJ.out] at hi8
        have hjl : j < (putS k xs i).length := by rw [HCU.out, List.length_append, stP_len]; omega
        obtain ⟨g, cap, hv5, hcap, hg, hgl, hcell, hfree, hset⟩ := own_set HK.out.own (by omega)
        subst hv5
        have gc := hcell j hjl
        have gf := hfree j
        obtain ⟨M, HM⟩ : ∃ M, Hid ((putS k xs i).length = M) := ⟨_, rfl⟩
        rw [HM.out] at hjl hset HK ⊢
        obtain ⟨c0, HC0⟩ : ∃ c0, Hid ((putS k xs i).getD j 0 = c0) := ⟨_, rfl⟩
        rw [HC0.out] at gc
        obtain ⟨y, HY⟩ : ∃ y, Hid (orB c0 r = y) := ⟨_, rfl⟩
        have hor : bits .or .u8 (c0.toNat : Int) (2 ^ r % 256) = ((y.toNat : Nat) : Int) := by
          have h2 : 2 ^ r < 2 ^ 8 := Nat.pow_lt_pow_right (by omega) hr8
          have e : (2 : Int) ^ r % 256 = ((2 ^ r : Nat) : Int) := by
            have e0 : (2 : Int) ^ r = ((2 ^ r : Nat) : Int) := by simp
            have h3 : 2 ^ r < 256 := h2
            rw [e0]
            generalize 2 ^ r = t at h3
            omega
          rw [e, u8_or_nat _ _ c0.toNat_lt h2, ← HY.out, orB_toNat c0 hr8]
        obtain ⟨W1, HW1⟩ : ∃ W1, Hid ((wr.setCell ⟨g, j, none⟩ (.int .u8 (y.toNat : Int))).drew = W1) := ⟨_, rfl⟩
        have HP1 : Hid (PutG w (stP xs P (i + 1) ++ els k xs i) W1 (.slice (some ⟨g, 0, none⟩) M cap)) := Lib.hid (by
          have e1 : (putS k xs i).set j y = stP xs P (i + 1) ++ els k xs i := by
            have hjs : j < (stP xs P i).length := by rw [stP_len]; exact hi8
            rw [HCU.out, List.set_append_left _ _ hjs, stP, if_neg (by rw [hxx.out]; exact hxe), HJ.out, HR.out, ← HY.out, ← HC0.out, HCU.out]
            congr 3
            rw [List.getD_eq_getElem?_getD, List.getD_eq_getElem?_getD, List.getElem?_append_left hjs]
          have e2 : (stP xs P (i + 1) ++ els k xs i).length = M := by rw [← e1, List.length_set, HM.out]
          refine ⟨?_, ?_⟩
          · rw [e2, ← e1, ← HW1.out]; exact hset j y hjl
          · rw [← HW1.out]; exact (HK.out.below.setCell hg _).drew)
        have ijM : (j : Int) < (M : Int) := by omega
        have ij5 : (j : Int) ≤ 512 := by omega
        have hdi : (i : Int) / 8 = (j : Int) := by have := HJ.out; omega
        have hmi : (i : Int) % 8 = (r : Int) := by have := HR.out; omega
        clear hil hb1
        go_wp2_with fail
        go_region
        rw [HW1.out]
        clear hor gc gf hcell hfree hset hdi hmi
        by_cases h5 : k = 5
        · have g5 : (k == 5) = true := by simpa using h5
          have H5 := Lib.hid h5
          clear h5
          have HA : Hid (Calls Tryz.prog 76 #[(.slice (some ⟨g, 0, none⟩) M cap), .string ⟨x.toArray⟩] W1 (AppG w.heap.size W1 (.slice (some ⟨g, 0, none⟩) M cap) (putS k xs (i + 1)))) := Lib.hid (by
            have := appendText_any w.heap.size (.slice (some ⟨g, 0, none⟩) M cap) (stP xs P (i + 1) ++ els k xs i) x W1 (fit_len HF.out) (by rw [List.length_append, stP_len]; have := HEL.out; omega) HP1.out.below.size HP1.out.own
            rw [HNX.out]
            unfold elemL
            rw [if_pos H5.out, ← List.append_assoc]
            exact this)
          go_wp2_with fail
          refine (HA.out).mono ?_
          rintro e w3 ⟨v3, rfl, hg3⟩
          have HP3 := Lib.hid (HP1.out.next hg3)
          clear hg3
          go_wp2_with fail
          go_roundw
          case rel => exact ⟨i + 1, by omega, by go_num, HP3⟩
          case measure => simp [intOf]; omega
        · have g5 : (k == 5) = false := by simpa using h5
          have H5 := Lib.hid h5
          clear h5
          have HA : Hid (Calls Tryz.prog 77 #[(.slice (some ⟨g, 0, none⟩) M cap), .string ⟨x.toArray⟩, .int .i64 (widT k : Int)] W1 (AppG w.heap.size W1 (.slice (some ⟨g, 0, none⟩) M cap) (putS k xs (i + 1)))) := Lib.hid (by
            have := appendInteger_any w.heap.size (.slice (some ⟨g, 0, none⟩) M cap) k (stP xs P (i + 1) ++ els k xs i) x W1 HF.out HK1.out.1 (by have := HK1.out.2; have := H5.out; omega) (by rw [List.length_append, stP_len]; have := HEL.out; omega) HP1.out.below.size HP1.out.own (HE.out.below HP1.out.below)
            rw [HNX.out, ← List.append_assoc]
            exact this)
          go_wp2_with fail
          refine (width_any k _).mono ?_
          rintro e w' ⟨rfl, rfl⟩
          go_wp2_with fail
          refine (HA.out).mono ?_
          rintro e w3 ⟨v3, rfl, hg3⟩
          have HP3 := Lib.hid (HP1.out.next hg3)
          clear hg3
          go_wp2_with fail
          go_roundw
          case rel => exact ⟨i + 1, by omega, by go_num, HP3⟩
          case measure => simp [intOf]; omega
    · obtain rfl : i = n := by omega
      have ilt : ¬ (i : Int) < (i : Int) := by omega
      have HFIN : Hid (PutG w (putT k xs) wr u7) := Lib.hid (by unfold putT; rw [hx.out]; exact HK.out)
      go_wp2_with fail
      go_ret2
      exact ⟨_, rfl, HFIN.out⟩
end Go.Proofs.YtpnofkefcoaojaaGreatDoor
