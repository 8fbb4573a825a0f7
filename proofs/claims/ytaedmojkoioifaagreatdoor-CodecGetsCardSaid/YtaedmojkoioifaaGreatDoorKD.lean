/- The document's integers as bits. -/
import Derived.Test.YtaedmojkoioifaaGreatDoorKC
set_option maxHeartbeats 2000000
set_option maxRecDepth 100000
namespace Go.Proofs.YtaedmojkoioifaaGreatDoor
open Go.RowKit
open Go.Lib
def dvS (l : List UInt8) (a : Nat) : Nat := match l with
  | [] => a
  | c :: r => dvS r (if c = 45 then a else 10 * a + (c.toNat - 48))
theorem dvS_ge : ∀ (l : List UInt8) (a : Nat), a ≤ dvS l a
  | [], a => Nat.le_refl a
  | c :: r, a => by
    rw [dvS]
    refine Nat.le_trans ?_ (dvS_ge r _)
    split <;> omega
theorem dvS_app : ∀ (l m : List UInt8) (a : Nat), dvS (l ++ m) a = dvS m (dvS l a)
  | [], _, _ => rfl
  | c :: r, m, a => by rw [List.cons_append, dvS, dvS, dvS_app r m]
theorem dvS_take {l : List UInt8} {i : Nat} (h : i < l.length) : dvS (l.take (i + 1)) 0 = (if l.getD i 0 = 45 then dvS (l.take i) 0 else 10 * dvS (l.take i) 0 + ((l.getD i 0).toNat - 48)) := by
  rw [snoc_take h, dvS_app]; rfl
theorem dvS_le (l : List UInt8) (i : Nat) : dvS (l.take i) 0 ≤ dvS l 0 := by
  have h := dvS_app (l.take i) (l.drop i) 0
  rw [List.take_append_drop] at h
  rw [h]; exact dvS_ge _ _
theorem dvS_dec (u : Nat) : dvS (decDigits u) 0 = u ∧ ∀ c ∈ decDigits u, 48 ≤ c.toNat ∧ c.toNat ≤ 57 := by
  induction u using Nat.strongRecOn with
  | _ u ih =>
    by_cases h : u < 10
    · rw [decDigits_one h]
      have e := dec_byte h
      have hne : UInt8.ofNat (48 + u) ≠ 45 := fun e2 => by rw [e2] at e; have : (45 : UInt8).toNat = 45 := rfl; omega
      refine ⟨?_, fun c hc => ?_⟩
      · rw [dvS, dvS, if_neg hne, e]; omega
      · obtain rfl := List.mem_singleton.1 hc
        rw [e]; omega
    · rw [dec_big h]
      obtain ⟨h1, h2⟩ := ih (u / 10) (by omega)
      have e := dec_byte (Nat.mod_lt u (show 0 < 10 by omega))
      have hne : UInt8.ofNat (48 + u % 10) ≠ 45 := fun e2 => by rw [e2] at e; have : (45 : UInt8).toNat = 45 := rfl; omega
      refine ⟨?_, fun c hc => ?_⟩
      · rw [dvS_app, h1, dvS, dvS, if_neg hne, e]; omega
      · rcases List.mem_append.1 hc with hc | hc
        · exact h2 c hc
        · obtain rfl := List.mem_singleton.1 hc
          rw [e]; omega
theorem int64_any (x : List UInt8) (q : Rat) (w : World) (hq : Hid (num x = some q)) (hd : Hid (q.den = 1)) (hb : Hid (-9223372036854775808 ≤ q.num ∧ q.num < 9223372036854775808)) :
    Calls Tryz.prog 32 #[.string ⟨x.toArray⟩] w fun e w' => e = .returned (.int .u64 (vT x : Int)) ∧ w = w' := by
  obtain ⟨u, HU⟩ : ∃ u, Hid (q.num.natAbs = u) := ⟨_, rfl⟩
  have hu : u ≤ 9223372036854775808 := by have := hb.out; have := HU.out; omega
  obtain ⟨neg, HNG⟩ : ∃ b, Hid (decide (q.num < 0) = b) := ⟨_, rfl⟩
  have hx := num_wrote hq.out
  rw [if_pos hd.out, List.append_nil, HU.out, HNG.out] at hx
  obtain ⟨hv1, hv2⟩ := dvS_dec u
  obtain ⟨d0, r0, hd0, hd1, hd2⟩ := dec_first u
  have HX := Lib.hid hx
  have HV : Hid (dvS x 0 = u) := Lib.hid (by
    rw [hx, dvS_app]
    cases neg
    · exact hv1
    · exact hv1)
  have HA : Hid (∀ i, i < x.length → x.getD i 0 = 45 ∨ (48 ≤ (x.getD i 0).toNat ∧ (x.getD i 0).toNat ≤ 57)) := Lib.hid (fun i hi => by
    have hm : x.getD i 0 ∈ x := by rw [List.getD_eq_getElem?_getD, List.getElem?_eq_getElem hi]; exact List.getElem_mem _
    generalize x.getD i 0 = c at hm
    rw [hx] at hm
    rcases List.mem_append.1 hm with hm | hm
    · cases neg
      · cases hm
      · exact .inl (List.mem_singleton.1 hm)
    · exact .inr (hv2 c hm))
  have H0 : Hid (0 < x.length ∧ ((x.getD 0 0).toNat = 45 ↔ neg = true)) := Lib.hid (by
    rw [hx, hd0]
    cases neg
    · refine ⟨by simp, ?_⟩
      show d0.toNat = 45 ↔ false = true
      exact ⟨fun e => by omega, fun e => by cases e⟩
    · exact ⟨by simp, ⟨fun _ => rfl, fun _ => rfl⟩⟩)
  have HR : Hid ((if neg then (-(u : Int)) % 18446744073709551616 else (u : Int)) = (vT x : Int)) := Lib.hid (by
    unfold vT
    rw [hq.out]
    show _ = (((q.num % 18446744073709551616).toNat : Nat) : Int)
    have h1 := HU.out
    have h2 := hb.out
    cases neg
    · have h3 : ¬ q.num < 0 := by simpa using HNG.out
      rw [if_neg (by simp)]; omega
    · have h3 : q.num < 0 := by simpa using HNG.out
      rw [if_pos rfl]; omega)
  obtain ⟨s, HS⟩ : ∃ s : ByteArray, Hid (s = ⟨x.toArray⟩) := ⟨_, rfl⟩
  rw [← HS.out]
  have HN : Hid (s.size = x.length) := Lib.hid (by rw [HS.out]; rfl)
  have HG : Hid (∀ k (h : k < s.size), (s[k]).toNat = (x.getD k 0).toNat) := Lib.hid (by
    have e := HS.out
    subst e
    intro k h
    have h2 : k < x.length := h
    rw [List.getD_eq_getElem?_getD, List.getElem?_eq_getElem h2]; rfl)
  obtain ⟨v, HVT⟩ : ∃ v, Hid ((vT x : Int) = v) := ⟨_, rfl⟩
  rw [HVT.out] at HR ⊢
  have h0s : 0 < s.size := by rw [HN.out]; exact H0.out.1
  have hfirst := HG.out 0 h0s
  obtain ⟨f0, HF0⟩ : ∃ f0, Hid ((x.getD 0 0).toNat = f0) := ⟨_, rfl⟩
  rw [HF0.out] at hfirst
  have hs64 : (s.size : Int) ≤ 100 := by
    have := num_len hq.out
    rw [HN.out]; omega
  have hfc : ((f0 : Int) == 45) = neg := by
    have h := H0.out.2
    rw [HF0.out] at h
    cases neg
    · have : f0 ≠ 45 := fun e => by have := h.1 e; cases this
      simpa using (by omega : ¬ (f0 : Int) = 45)
    · have := h.2 rfl
      rw [this]; rfl
  clear hx hv1 hv2 hd0 hd1 hd2
  go_enter Tryz.func32, Tryz.ntmps32
  go_wp2_with fail
  go_loopw [4, 5] (fun nv iv wr => ∃ i n : Nat, i ≤ s.size ∧ iv = .int .i64 i ∧ nv = .int .u64 n ∧ w = wr ∧ Hid (dvS (x.take i) 0 = n)) (fun _ iv _ => s.size - (intOf iv).toNat)
  case atStart => exact ⟨0, 0, Nat.zero_le _, rfl, rfl, rfl, Lib.hid rfl⟩
  case round =>
    obtain ⟨i, n, hi, rfl, rfl, rfl, HNV⟩ := hrel
    by_cases hlt : i < s.size
    · have hil : i < x.length := by rw [← HN.out]; exact hlt
      have hck := HG.out i hlt
      obtain ⟨d, HD⟩ : ∃ d, Hid ((x.getD i 0).toNat = d) := ⟨_, rfl⟩
      rw [HD.out] at hck
      have hst := dvS_take hil
      have hle := dvS_le x (i + 1)
      rw [HV.out] at hle
      rw [HNV.out] at hst
      by_cases h45 : d = 45
      · subst h45
        have h45 : x.getD i 0 = 45 := by rw [← UInt8.toNat_inj, HD.out]; rfl
        rw [if_pos h45] at hst
        have HNV2 := Lib.hid hst
        clear hil hst hle h45
        go_wp2_with fail
        go_roundw
        case rel => exact ⟨i + 1, n, by omega, by go_num, rfl, by first | rfl | trivial, HNV2⟩
        case measure => simp [intOf]; omega
      · have hne : ¬ x.getD i 0 = 45 := fun e => h45 (by rw [← HD.out, e]; rfl)
        rw [if_neg hne, HD.out] at hst
        have hdd : 48 ≤ d ∧ d ≤ 57 := by
          rcases HA.out i hil with h | h
          · exact absurd h hne
          · rw [HD.out] at h; exact h
        rw [hst] at hle
        have g45 : ((d : Int) != 45) = true := by rw [bne_iff_ne]; omega
        obtain ⟨m, HM⟩ : ∃ m, Hid (d - 48 = m) := ⟨_, rfl⟩
        rw [HM.out] at hst hle
        have hsub : (d : Int) - 48 = (m : Int) := by have := HM.out; omega
        have im : (m : Int) ≤ 9 := by have := HM.out; omega
        obtain ⟨n2, HN2⟩ : ∃ n2, Hid (10 * n + m = n2) := ⟨_, rfl⟩
        rw [HN2.out] at hst hle
        have HNV2 := Lib.hid hst
        have hn10 : (n : Int) ≤ 922337203685477581 := by have := HN2.out; omega
        have hadd : 10 * (n : Int) + (m : Int) = (n2 : Int) := by have := HN2.out; omega
        have hn2 : (n2 : Int) ≤ 9223372036854775808 := by omega
        clear hil hst hle h45 hne hdd
        go_wp2_with fail
        go_roundw
        case rel => exact ⟨i + 1, n2, by omega, by go_num, by go_num, by first | rfl | trivial, HNV2⟩
        case measure => simp [intOf]; omega
    · obtain rfl : i = s.size := by omega
      obtain rfl : n = u := by
        rw [← HNV.out, List.take_of_length_le (by rw [HN.out]; exact Nat.le_refl _)]; exact HV.out
      cases neg with
      | true =>
        have hres : (-(n : Int)) % 18446744073709551616 = v := by have := HR.out; rwa [if_pos rfl] at this
        have HRS := Lib.hid hres
        clear hres
        go_wp2_with fail
        go_ret
        refine ⟨?_, rfl⟩
        rw [← HRS.out]
        rfl
      | false =>
        obtain rfl : (n : Int) = v := by have := HR.out; rwa [if_neg (by simp)] at this
        go_wp2_with fail
        go_ret
        exact ⟨rfl, rfl⟩
end Go.Proofs.YtaedmojkoioifaaGreatDoor
