/- The law's same and meets. -/
import Derived.Test.YtigidchicloleaaGreatDoorJL
import Derived.Deep.QuietTactic
import Derived.BigQuiet
set_option maxHeartbeats 8000000
set_option maxRecDepth 100000
namespace Go.Proofs.YtigidchicloleaaGreatDoor.Arr
open Go.RowKit Go.Shelf
open Go.Lib
attribute [local go_sem] Oper.semAt_some
theorem ext_getD_int {a b : List Int} (h : a.length = b.length) (hk : ∀ k, k < a.length → a.getD k 0 = b.getD k 0) : a = b := by
  refine List.ext_getElem h (fun k h1 h2 => ?_)
  have := hk k h1
  rwa [List.getD_eq_getElem?_getD, List.getElem?_eq_getElem h1, List.getD_eq_getElem?_getD, List.getElem?_eq_getElem h2] at this
theorem same39_any (p q : Option Addr) (c d n m : Nat) (l1 l2 : List Int) (w : World) (h1 : Hid (l1.length = n)) (h2 : Hid (l2.length = m)) (hn : n ≤ 1000) (hp : Rd w p l1) (hq : Rd w q l2) :
    Calls Tryz.prog 40 #[.slice p n c, .slice q m d] w fun e w' => (∃ k, w.drewN k = w') ∧ e = .returned (.bool (decide (l1 = l2))) := by
  have HP := Lib.hid hp
  have HQ := Lib.hid hq
  obtain ⟨v, HV⟩ : ∃ v, Hid (v = decide (l1 = l2)) := ⟨_, rfl⟩
  rw [← HV.out]
  clear hp hq
  by_cases hlen : n = m
  case neg =>
    have hle3 : ((n : Int) != (m : Int)) = true := by rw [bne_iff_ne]; omega
    obtain rfl : v = false := by rw [HV.out]; exact decide_eq_false (fun e => hlen (by rw [← h1.out, ← h2.out, e]))
    go_enter Tryz.func40, Tryz.ntmps40
    go_wp2_with fail
    go_ret
    exact ⟨⟨0, rfl⟩, rfl⟩
  subst hlen
  have hni : (n : Int) ≤ 1000 := by omega
  have HNO : Hid (∀ k, k < n → l1.getD k 0 ≠ l2.getD k 0 → v = false) := Lib.hid (fun k _ h => by rw [HV.out]; exact decide_eq_false (fun e => h (by rw [e])))
  have HYES : Hid ((∀ k, k < n → l1.getD k 0 = l2.getD k 0) → v = true) := Lib.hid (fun h => by rw [HV.out]; exact decide_eq_true (ext_getD_int (by rw [h1.out, h2.out]) (fun k hk => h k (by rw [← h1.out]; exact hk))))
  go_enter Tryz.func40, Tryz.ntmps40
  go_wp2_with fail
  go_loopw [5] (fun iv wr => ∃ i r : Nat, i ≤ n ∧ iv = .int .i64 i ∧ wr = w.drewN r ∧ Hid (∀ k, k < i → l1.getD k 0 = l2.getD k 0)) (fun iv _ => n - (Go.RowKit.intOf iv).toNat)
  case atStart => exact ⟨0, 0, Nat.zero_le _, rfl, rfl, Lib.hid (fun k hk => by omega)⟩
  case round =>
    obtain ⟨i, r, hi, rfl, rfl, HA⟩ := hrel
    have ii : (i : Int) ≤ (n : Int) := by omega
    by_cases hlt : i < n
    · have ilt : (i : Int) < (n : Int) := by omega
      obtain ⟨b1, o1, x, rfl, -, hc1, HX, -⟩ := HP.out.at (k := i) (by rw [h1.out]; exact hlt)
      obtain ⟨b2, o2, y, rfl, -, hc2, HY, -⟩ := HQ.out.at (k := i) (by rw [h2.out]; exact hlt)
      by_cases hxy : x = y
      · have hst : Hid (∀ k, k < i + 1 → l1.getD k 0 = l2.getD k 0) := Lib.hid (fun k hk => by
          by_cases e : k = i
          · rw [e, ← HX.out, ← HY.out]; exact hxy
          · exact HA.out k (by omega))
        subst hxy
        have hb : (x != x) = false := by simp
        go_wp2_with fail
        go_quiet (fail)
        go_wp2_with fail
        go_roundw
        case rel => exact ⟨i + 1, _, by omega, by go_num, rfl, hst⟩
        case measure => simp [Go.RowKit.intOf]; omega
      · obtain rfl : v = false := HNO.out i hlt (by rw [← HX.out, ← HY.out]; exact hxy)
        have hb : (x != y) = true := by rw [bne_iff_ne]; exact hxy
        go_wp2_with fail
        go_quiet (fail)
        go_wp2_with fail
        go_ret
        exact ⟨⟨_, (World.drewN_drewN ..).symm⟩, rfl⟩
    · obtain rfl : i = n := by omega
      have ilt : ¬ (i : Int) < (i : Int) := by omega
      obtain rfl : v = true := HYES.out HA.out
      go_wp2_with fail
      go_ret
      exact ⟨⟨_, rfl⟩, rfl⟩
theorem div_iff {y c v : Nat} (hy : 1 ≤ y) : v / y = c ↔ c * y ≤ v ∧ v < c * y + y := by
  constructor
  · rintro rfl
    have h1 := Nat.div_add_mod v y
    have h2 := Nat.mod_lt v (show 0 < y by omega)
    rw [Nat.mul_comm] at h1
    omega
  · rintro ⟨h1, h2⟩
    refine Nat.div_eq_of_lt_le h1 ?_
    show v < (c + 1) * y
    rw [Nat.add_mul, Nat.one_mul]; exact h2
theorem range_any_succ (k : Nat) (f : Nat → Bool) : (List.range (k + 1)).any f = ((List.range k).any f || f k) := by
  rw [List.range_succ, List.any_append]
  simp
theorem meets_any (p q : Option Addr) (c d n : Nat) (s z ix : List Nat) (cuts : List (Int × Int × Int)) (w : World) (hn : n ≤ 4) (hs : Hid (s.length = n)) (hsb : Hid (∀ x ∈ s, x ≤ 1024)) (hz : Hid (z.length = s.length)) (hzb : Hid (∀ x ∈ z, 1 ≤ x ∧ x ≤ 1024)) (hix : Hid (IsIx (nums s z) ix)) (hsl : Hid (slabOk s cuts = true)) (hp : RdC w p (boxL s z ix)) (hq : RdC w q cuts) :
    Calls Tryz.prog 39 #[.slice p n c, .slice q n d] w fun e w' => (∃ k, w.drewN k = w') ∧ e = .returned (.bool (meetsT s z cuts ix)) := by
  have HP := Lib.hid hp
  have HQ := Lib.hid hq
  obtain ⟨v, HV⟩ : ∃ v, Hid (v = meetsT s z cuts ix) := ⟨_, rfl⟩
  rw [← HV.out]
  obtain ⟨f, HF⟩ : ∃ f : Nat → Bool, Hid (f = fun k => metP (z.getD k 0) (cuts.getD k (0, 0, 0)).1.toNat (cuts.getD k (0, 0, 0)).2.1.toNat (cuts.getD k (0, 0, 0)).2.2.toNat (ix.getD k 0)) := ⟨_, Lib.hid rfl⟩
  have HNO : Hid (∀ k, k < n → f k = false → v = false) := Lib.hid (fun k hk h => by
    rw [HV.out]; unfold meetsT
    rw [hs.out, List.all_eq_false]
    exact ⟨k, List.mem_range.2 hk, by rw [HF.out] at h; simp only at h; rw [h]; simp⟩)
  have HYES : Hid ((∀ k, k < n → f k = true) → v = true) := Lib.hid (fun h => by
    rw [HV.out]; unfold meetsT
    rw [hs.out, List.all_eq_true]
    intro k hk
    have := h k (List.mem_range.1 hk)
    rw [HF.out] at this; exact this)
  have HCL : Hid (cuts.length = n) := Lib.hid (by
    have h := hsl.out
    unfold slabOk at h
    rw [Bool.and_eq_true, decide_eq_true_eq] at h
    rw [h.1, hs.out])
  have hni : (n : Int) ≤ 4 := by omega
  clear hp hq
  go_enter Tryz.func39, Tryz.ntmps39
  go_wp2_with fail
  go_loopw [5] (fun iv wr => ∃ i r : Nat, i ≤ n ∧ iv = .int .i64 i ∧ wr = w.drewN r ∧ Hid (∀ k, k < i → f k = true)) (fun iv _ => n - (Go.RowKit.intOf iv).toNat)
  case atStart => exact ⟨0, 0, Nat.zero_le _, rfl, rfl, Lib.hid (fun k hk => by omega)⟩
  case round =>
    obtain ⟨i, r, hi, rfl, rfl, HA⟩ := hrel
    have ii : (i : Int) ≤ (n : Int) := by omega
    by_cases hlt : i < n
    · have ilt : (i : Int) < (n : Int) := by omega
      have his : i < s.length := by rw [hs.out]; exact hlt
      obtain ⟨b1, o1, x1, x2, x3, e1, -, hc1, hc2, -, HX, -⟩ := HP.out.at (k := i) (by rw [boxL_len]; exact his)
      obtain ⟨b2, o2, y1, y2, y3, e2, -, hd1, hd2, hd3, HY, -⟩ := HQ.out.at (k := i) (by rw [HCL.out]; exact hlt)
      subst e1 e2
      have hcut : cutOk (s.getD i 0) y1 y2 y3 = true := by
        have h := hsl.out
        unfold slabOk at h
        rw [Bool.and_eq_true, List.all_eq_true] at h
        have h2 := h.2 i (List.mem_range.2 his)
        unfold cutAt at h2
        rw [HY.out] at h2
        exact h2
      obtain ⟨a, b, t, rfl, rfl, rfl, ha, ht1, hin⟩ := cut_in hcut
      have HIN := Lib.hid hin
      have hsi : s.getD i 0 ≤ 1024 := getD_bound hsb.out
      obtain ⟨y, HYY⟩ : ∃ y, Hid (y = z.getD i 0) := ⟨_, rfl⟩
      have hyb : 1 ≤ y ∧ y ≤ 1024 := by
        rw [HYY.out, List.getD_eq_getElem?_getD, List.getElem?_eq_getElem (by rw [hz.out]; exact his)]
        exact hzb.out _ (List.getElem_mem _)
      obtain ⟨u, HUU⟩ : ∃ u, Hid (u = ix.getD i 0) := ⟨_, rfl⟩
      have hlt2 : u * y < s.getD i 0 := by rw [HUU.out, HYY.out]; exact chunk_lt hz.out hzb.out hix.out his
      rw [boxL_at his] at HX
      unfold boxAt at HX
      rw [← HYY.out, ← HUU.out] at HX
      obtain ⟨F, HFF⟩ : ∃ F, Hid (F = u * y) := ⟨_, rfl⟩
      obtain ⟨o, HO⟩ : ∃ o, Hid (o = min y (s.getD i 0 - u * y)) := ⟨_, rfl⟩
      rw [← HO.out, ← HFF.out] at HX
      obtain ⟨rfl, rfl, -⟩ : (F : Int) = x1 ∧ (o : Int) = x2 ∧ (1 : Int) = x3 := by
        have h := HX.out
        injection h with h1 h2
        injection h2 with h2 h3
        exact ⟨h1, h2, h3⟩
      obtain ⟨E, HEE⟩ : ∃ E, Hid (E = F + o) := ⟨_, rfl⟩
      have hadd2 : (F : Int) + (o : Int) = (E : Int) := by rw [HEE.out]; omega
      have iF : (F : Int) ≤ 1024 := by rw [HFF.out]; omega
      have io : (o : Int) ≤ 1024 := by rw [HO.out]; omega
      have iE : (E : Int) ≤ 2048 := by rw [HEE.out]; omega
      have hbb : b ≤ 1024 := by
        rcases Nat.eq_zero_or_pos b with h0 | h0
        · omega
        · have h1 := hin (b - 1) (by omega)
          have h2 : b - 1 ≤ (b - 1) * t := Nat.le_mul_of_pos_right (b - 1) (by omega)
          omega
      have ib : (b : Int) ≤ 1024 := by omega
      have ia : (a : Int) ≤ 1024 := by omega
      have HHIT : Hid (∀ x, x < s.getD i 0 → (x / y = u ↔ F ≤ x ∧ x < E)) := Lib.hid (fun x hx => by
        rw [div_iff hyb.1, HEE.out, HFF.out, HO.out]
        rw [HFF.out] at iF
        omega)
      have HFI : Hid (f i = (List.range b).any (fun k => decide ((a + k * t) / y = u))) := Lib.hid (by
        rw [HF.out]
        show metP (z.getD i 0) (cuts.getD i (0, 0, 0)).1.toNat (cuts.getD i (0, 0, 0)).2.1.toNat (cuts.getD i (0, 0, 0)).2.2.toNat (ix.getD i 0) = _
        rw [HY.out, ← HYY.out, ← HUU.out]; rfl)
      have hsi2 := Lib.hid hsi
      clear hcut hin ha ht1 hlt2 hsi hbb his hyb
      go_wp2_with fail
      go_loopw [6, 7] (fun hv kv wr => ∃ (k t' : Nat) (h : Bool), k ≤ b ∧ kv = .int .i64 k ∧ hv = .bool h ∧ wr = w.drewN t' ∧ Hid (h = (List.range k).any (fun k => decide ((a + k * t) / y = u)))) (fun _ kv _ => b - (Go.RowKit.intOf kv).toNat)
      case atStart => exact ⟨0, r, false, Nat.zero_le _, rfl, rfl, rfl, Lib.hid rfl⟩
      case round =>
        obtain ⟨k, t', h, hk, rfl, rfl, rfl, HH⟩ := hrel
        have ik : (k : Int) ≤ (b : Int) := by omega
        by_cases hkb : k < b
        · have ikb : (k : Int) < (b : Int) := by omega
          obtain ⟨m, HMU⟩ : ∃ m, Hid (m = k * t) := ⟨_, rfl⟩
          have hmul : (k : Int) * (t : Int) = (m : Int) := by rw [HMU.out]; exact (Int.natCast_mul k t).symm
          have hb3 := HIN.out k hkb
          rw [← HMU.out] at hb3
          obtain ⟨x, HXX⟩ : ∃ x, Hid (x = a + m) := ⟨_, rfl⟩
          have hadd : (a : Int) + (m : Int) = (x : Int) := by rw [HXX.out]; omega
          have im : (m : Int) ≤ 1024 := by have := hsi2.out; omega
          have ixx : (x : Int) ≤ 1024 := by have := hsi2.out; rw [HXX.out]; omega
          have HXS : Hid (x / y = u ↔ F ≤ x ∧ x < E) := Lib.hid (HHIT.out x (by rw [HXX.out]; exact hb3))
          have HN : Hid ((List.range (k + 1)).any (fun k => decide ((a + k * t) / y = u)) = (h || decide (x / y = u))) := Lib.hid (by
            rw [range_any_succ, ← HH.out, HXX.out, HMU.out])
          have hw1 : IntKind.i64.wrap ((a : Int) + IntKind.i64.wrap ((k : Int) * (t : Int))) = (x : Int) := by
            rw [hmul, IntWalk.i64_in (m : Int) (by omega), hadd]; exact IntWalk.i64_in _ (by omega)
          clear hb3
          cases h with
          | true =>
            have hst : Hid (true = (List.range (k + 1)).any (fun k => decide ((a + k * t) / y = u))) := Lib.hid (by rw [HN.out]; rfl)
            go_wp2_with fail
            go_quiet (fail)
            go_wp2_with fail
            go_quiet (fail)
            go_wp2_with fail
            go_roundw
            case rel => exact ⟨k + 1, _, _, by omega, by go_num, rfl, rfl, hst⟩
            case measure => simp [Go.RowKit.intOf]; omega
          | false =>
            by_cases hc1' : F ≤ x
            · by_cases hc2' : x < E
              · have hst : Hid (true = (List.range (k + 1)).any (fun k => decide ((a + k * t) / y = u))) := Lib.hid (by rw [HN.out, decide_eq_true (HXS.out.2 ⟨by omega, by omega⟩)]; rfl)
                go_wp2_with fail
                go_quiet (fail)
                go_wp2_with fail
                go_quiet (fail)
                go_wp2_with fail
                go_roundw
                case rel => exact ⟨k + 1, _, _, by omega, by go_num, rfl, rfl, hst⟩
                case measure => simp [Go.RowKit.intOf]; omega
              · have hst : Hid (false = (List.range (k + 1)).any (fun k => decide ((a + k * t) / y = u))) := Lib.hid (by rw [HN.out, decide_eq_false (fun e => by have := (HXS.out.1 e).2; omega)]; rfl)
                go_wp2_with fail
                go_quiet (fail)
                go_wp2_with fail
                go_quiet (fail)
                go_wp2_with fail
                go_roundw
                case rel => exact ⟨k + 1, _, _, by omega, by go_num, rfl, rfl, hst⟩
                case measure => simp [Go.RowKit.intOf]; omega
            · have hst : Hid (false = (List.range (k + 1)).any (fun k => decide ((a + k * t) / y = u))) := Lib.hid (by rw [HN.out, decide_eq_false (fun e => by have := (HXS.out.1 e).1; omega)]; rfl)
              go_wp2_with fail
              go_quiet (fail)
              go_wp2_with fail
              go_quiet (fail)
              go_wp2_with fail
              go_roundw
              case rel => exact ⟨k + 1, _, _, by omega, by go_num, rfl, rfl, hst⟩
              case measure => simp [Go.RowKit.intOf]; omega
        · obtain rfl : k = b := by omega
          have ikb : ¬ (k : Int) < (k : Int) := by omega
          cases h with
          | true =>
            have hst : Hid (∀ j, j < i + 1 → f j = true) := Lib.hid (fun j hj => by
              by_cases e : j = i
              · rw [e, HFI.out]; exact HH.out.symm
              · exact HA.out j (by omega))
            go_wp2_with fail
            go_roundw
            case rel => exact ⟨i + 1, _, by omega, by go_num, rfl, hst⟩
            case measure => simp [Go.RowKit.intOf]; omega
          | false =>
            obtain rfl : v = false := HNO.out i hlt (by rw [HFI.out]; exact HH.out.symm)
            go_wp2_with fail
            go_ret
            exact ⟨⟨_, rfl⟩, rfl⟩
    · obtain rfl : i = n := by omega
      have ilt : ¬ (i : Int) < (i : Int) := by omega
      obtain rfl : v = true := HYES.out HA.out
      go_wp2_with fail
      go_ret
      exact ⟨⟨_, rfl⟩, rfl⟩
end Go.Proofs.YtigidchicloleaaGreatDoor.Arr
