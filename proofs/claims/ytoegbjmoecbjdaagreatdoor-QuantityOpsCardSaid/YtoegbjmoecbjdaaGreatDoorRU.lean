/- The document's plain: the answers. -/
import Derived.Test.YtoegbjmoecbjdaaGreatDoorRS
import Derived.Test.YtoegbjmoecbjdaaGreatDoorRT
namespace Go.Proofs.YtoegbjmoecbjdaaGreatDoor
open Go.RowKit Big
open Go.Lib
theorem dval_lt9 {l : List UInt8} {K : Nat} (hall : l.all isDig = true) (h : l.length ≤ 9 * K) : dval l < B9 ^ K := by
  rw [B9_pow]
  exact Nat.lt_of_lt_of_le (dval_lt l hall) (Nat.pow_le_pow_right (by omega) h)
theorem one_lt9 {K : Nat} (h : 1 ≤ K) : 1 < B9 ^ K := pow9_mono (K := 1) (by rw [Nat.pow_one, B9_eq]; omega) h
theorem ten_lt9 {n K : Nat} (h : n < 9 * K) : 10 ^ n < B9 ^ K := by
  rw [B9_pow]; exact Nat.pow_lt_pow_right (by omega) h
def PlainPost (o : Option (Bool × Nat × Nat)) (w : World) (e : Ending) (w' : World) : Prop := match o with
  | some (sg, n, d) => FlagPost (ratv sg n d) true w e w'
  | none => ∃ q, FlagPost q false w e w'
theorem plain_core_n1 (s : ByteArray) (w : World) (hmax : (s.size : Int) ≤ 1000) (hz : 0 < s.size) (hm : (((s[0]'hz).toNat : Int) == 45) = false) (o : Option (Nat × Nat)) (ho : readAbs s.data.toList = o) :
    Calls Tryz.prog 65 #[.string s] w (PlainPost (o.map fun p => (false, p.1, p.2)) w) := by
  have hmx : (s.size : Int) ≤ 100000 := by omega
  obtain ⟨l, hl⟩ : ∃ l, s.data.toList = l := ⟨_, rfl⟩
  have hll : l.length = s.size := by rw [← hl]; simp
  rw [hl] at ho
  have hrun : ∀ W, Hid (Calls Tryz.prog 118 #[.string s, .int .i64 0] W fun e w' => e = .returned (.int .i64 ((cntD l : Nat) : Int)) ∧ W = w') := fun W => hiD (by rw [← hl]; exact run_any s W (by omega))
  have hmk : ∀ (N0 D0 : Nat) (q : Rat) (sb : Bool), N0 < B9 ^ 2000 → D0 < B9 ^ 2000 → q = ratv false N0 D0 → sb = decide (q.num < 0) → ∀ W u v, Nat9 W u N0 → Nat9 W v D0 → Hid (Calls Tryz.prog 91 #[.bool false, u, v] W (QPostB q sb W)) := by
    intro N0 D0 q sb h1 h2 h3 h4 W u v hu hv
    refine hiD ((make_any false u v N0 D0 2000 W (by omega) h1 h2 hu hv).mono fun e w' h => ?_)
    rw [← h3] at h
    exact h.b h4
  have hlen : l.length ≤ 1000 := by omega
  by_cases hk : cntD l = 0
  · have hnone : o = none := by
      rw [← ho]
      by_cases h0 : l = []
      · subst h0; rfl
      · obtain ⟨hd, mo, c, e, h1, h2, h3, -, -, -⟩ := cnt_split l (by rw [hk]; exact List.length_pos_iff.2 h0)
        rw [hk] at h1
        have : hd = [] := List.eq_nil_of_length_eq_zero h1
        subst this
        rw [e, readAbs_split _ _ _ h2 h3]
        simp [allDig]
    rw [hnone]
    exact (plain_n1_A s (cntD l) 0 false 0 0 w hmx hz hm hrun hk).mono fun e w' h => ⟨_, h⟩
  · have hk0 : (((cntD l : Nat) : Int) == 0) = false := by simp; omega
    by_cases hks : cntD l = l.length
    · have hall := (cnt_all l).1 hks
      have had : allDig l = true := by
        unfold allDig; rw [hall]
        cases h : l with
        | nil => rw [h] at hk; exact absurd rfl hk
        | cons x t => rfl
      have hoo : o = some (dval l, 1) := by rw [← ho]; exact readAbs_digits l had
      rw [hoo]
      have hN : dval l < B9 ^ 2000 := dval_lt9 (K := 2000) hall (by omega)
      exact plain_n1_B s (cntD l) (ratv false (dval l) 1) _ (dval l) 1 w hmx hz hm hrun hk0 (by rw [hks, hll]; simp) (fun W => hiD (by rw [← hl]; exact natRead_any s W (by omega) (by rw [hl]; exact hall))) (fun W => hiD (one_any W)) (hiD rfl) (hmk _ _ _ _ hN (one_lt9 (K := 2000) (by omega)) rfl rfl)
    · have hlt : cntD l < l.length := by
        have : cntD l ≤ l.length := by unfold cntD; exact (List.takeWhile_prefix isDig).length_le
        omega
      obtain ⟨hd, mo, c, e, h1, h2, h3, h4, h5, h6⟩ := cnt_split l hlt
      have hks0 : (((cntD l : Nat) : Int) == s.size) = false := by rw [← hll]; simp; omega
      have hkl : cntD l < s.size := by omega
      have hck : ((s[cntD l]'hkl).toNat : Int) = (c.toNat : Int) := by
        have : s[cntD l]'hkl = c := by
          subst hl
          rw [List.getElem?_eq_getElem (by simpa using hkl)] at h6
          exact Option.some.inj h6
        rw [this]
      obtain ⟨mb, hmb⟩ : ∃ mb, s.extract (cntD l + 1) s.size = mb := ⟨_, rfl⟩
      obtain ⟨hb, hhb⟩ : ∃ hb, s.extract 0 (cntD l) = hb := ⟨_, rfl⟩
      have lmb : mb.data.toList = mo := by rw [← hmb, extract_to_end, hl, h5]
      have lhb : hb.data.toList = hd := by rw [← hhb, extract_upto, hl, h4]
      have smb : mb.size = mo.length := by rw [← lmb]; simp
      have shb : hb.size = hd.length := by rw [← lhb]; simp
      have hle : l.length = hd.length + 1 + mo.length := by rw [e]; simp; omega
      have hrun2 : ∀ W, Hid (Calls Tryz.prog 118 #[.string mb, .int .i64 0] W fun e w' => e = .returned (.int .i64 ((cntD mo : Nat) : Int)) ∧ W = w') := fun W => hiD (by rw [← lmb]; exact run_any mb W (by omega))
      have hsp := readAbs_split hd mo c h2 h3
      rw [← e, ho] at hsp
      have had : allDig hd = true := by
        unfold allDig; rw [h2]
        cases h : hd with
        | nil => rw [h] at h1; exact absurd h1.symm hk
        | cons x t => rfl
      by_cases hcm : cntD mo = mo.length
      · have hmall := (cnt_all mo).1 hcm
        by_cases hm0 : mo = []
        · have hoo : o = none := by
            rw [hsp, hm0]; simp [allDig]
          rw [hoo]
          exact (plain_n1_C1b s (cntD l) 0 false 0 0 w hmx hz hm hrun hk0 hks0 hkl c.toNat hck mb hb hmb hhb (cntD mo) hrun2 (by rw [hcm, hm0]; rfl) (bytes_eq (by rw [lmb, hm0]))).mono fun e w' h => ⟨_, h⟩
        · have hmd : allDig mo = true := by
            unfold allDig; rw [hmall]
            cases h : mo with
            | nil => exact absurd h hm0
            | cons x t => rfl
          have hcm2 : (((cntD mo : Nat) : Int) != mb.size) = false := by rw [hcm, smb]; simp
          have ltl : mb.toList = mo := by rw [Lib.toList_data]; exact lmb
          have e1 : (mb.toList == []) = false := by rw [ltl, beq_eq_false_iff_ne]; exact hm0
          have e2 : ¬ mb.toList = [] := by rw [ltl]; exact hm0
          have e3 : mb.toList.isEmpty = false := by rw [ltl]; cases h : mo with | nil => exact absurd h hm0 | cons x t => rfl
          have hmk0 : ∀ x : List UInt8, x.all isDig = true → x.length ≤ 1000 → dval x < B9 ^ 2000 := fun x hx hxl => dval_lt9 (K := 2000) hx (by omega)
          by_cases h47 : c = 47
          · have h46 : ¬ c = 46 := by rw [h47]; decide
            rw [if_neg h46, if_pos h47, had, hmd] at hsp
            have hrd1 : ∀ W, Hid (Calls Tryz.prog 119 #[.string mb] W (Post9 (dval mo) W)) := fun W => hiD (by rw [← lmb]; exact natRead_any mb W (by omega) (by rw [lmb]; exact hmall))
            have hrd2 : ∀ W, Hid (Calls Tryz.prog 119 #[.string hb] W (Post9 (dval hd) W)) := fun W => hiD (by rw [← lhb]; exact natRead_any hb W (by omega) (by rw [lhb]; exact h2))
            have hc47 : c.toNat = 47 := by rw [h47]; rfl
            by_cases hd0 : dval mo = 0
            · have hoo : o = none := by rw [hsp, hd0]; rfl
              rw [hoo]
              exact (plain_n1_C2n s (cntD l) _ _ (dval hd) (dval mo) w hmx hz hm hrun hk0 hks0 hkl c.toNat hck mb hb hmb hhb (cntD mo) hrun2 hcm2 e1 e2 e3 hc47 hd0 hrd1 hrd2 (hiD rfl) (hmk _ _ _ _ (hmk0 hd h2 (by omega)) (hmk0 mo hmall (by omega)) rfl rfl)).mono fun e w' h => ⟨_, h⟩
            · have hoo : o = some (dval hd, dval mo) := by
                rw [hsp]
                have : (dval mo == 0) = false := by simpa using hd0
                rw [this]; rfl
              rw [hoo]
              exact plain_n1_C2y s (cntD l) _ _ (dval hd) (dval mo) w hmx hz hm hrun hk0 hks0 hkl c.toNat hck mb hb hmb hhb (cntD mo) hrun2 hcm2 e1 e2 e3 hc47 hd0 hrd1 hrd2 (hiD rfl) (hmk _ _ _ _ (hmk0 hd h2 (by omega)) (hmk0 mo hmall (by omega)) rfl rfl)
          · by_cases h46 : c = 46
            · rw [if_pos h46, had, hmd] at hsp
              have hoo : o = some (dval (hd ++ mo), 10 ^ mo.length) := hsp
              rw [hoo]
              have hboth : (hd ++ mo).all isDig = true := by rw [List.all_append, h2, hmall]; rfl
              have lhm : (hb ++ mb).data.toList = hd ++ mo := by simp [lhb, lmb]
              have shm : (hb ++ mb).size = hd.length + mo.length := by simp [shb, smb]
              have hrd : ∀ W, Hid (Calls Tryz.prog 119 #[.string (hb ++ mb)] W (Post9 (dval (hd ++ mo)) W)) := fun W => hiD (by rw [← lhm]; exact natRead_any (hb ++ mb) W (by rw [shm]; omega) (by rw [lhm]; exact hboth))
              exact plain_n1_C3 s (cntD l) _ _ (dval (hd ++ mo)) (10 ^ mo.length) w hmx hz hm hrun hk0 hks0 hkl c.toNat hck mb hb hmb hhb (cntD mo) hrun2 hcm2 e1 e2 e3 (by rw [h46]; rfl) (hiD (by rw [lmb]; exact hmall)) (by omega) (by omega) (hiD (by rw [smb])) hrd (hiD rfl) (hmk _ _ _ _ (hmk0 _ hboth (by rw [List.length_append]; omega)) (ten_lt9 (K := 2000) (by omega)) rfl rfl)
            · rw [if_neg h46, if_neg h47] at hsp
              rw [hsp]
              have n46 : ((c.toNat : Int) != 46) = true := by
                have : c.toNat ≠ 46 := fun h => h46 (UInt8.toNat_inj.1 h)
                simp; omega
              have n47 : ((c.toNat : Int) != 47) = true := by
                have : c.toNat ≠ 47 := fun h => h47 (UInt8.toNat_inj.1 h)
                simp; omega
              exact (plain_n1_C1c s (cntD l) 0 false 0 0 w hmx hz hm hrun hk0 hks0 hkl c.toNat hck mb hb hmb hhb (cntD mo) hrun2 hcm2 e1 e2 e3 n46 n47).mono fun e w' h => ⟨_, h⟩
      · have hmd : allDig mo = false := by
          cases h : allDig mo with
          | false => rfl
          | true => exact absurd ((cnt_all mo).2 (allDig_all h)) hcm
        have hoo : o = none := by
          rw [hsp, hmd]; simp
        rw [hoo]
        exact (plain_n1_C1 s (cntD l) 0 false 0 0 w hmx hz hm hrun hk0 hks0 hkl c.toNat hck mb hb hmb hhb (cntD mo) hrun2 (by rw [smb]; simp; omega)).mono fun e w' h => ⟨_, h⟩
theorem plain_core_ng (s : ByteArray) (w : World) (hmax : (s.size : Int) ≤ 1000) (hz : 0 < s.size) (hm : (((s[0]'hz).toNat : Int) == 45) = true) (s1 : ByteArray) (hs1 : s.extract 1 s.size = s1) (hmax1 : (s1.size : Int) ≤ 1000) (o : Option (Nat × Nat)) (ho : readAbs s1.data.toList = o) :
    Calls Tryz.prog 65 #[.string s] w (PlainPost (o.map fun p => (true, p.1, p.2)) w) := by
  have hmx : (s.size : Int) ≤ 100000 := by omega
  obtain ⟨l, hl⟩ : ∃ l, s1.data.toList = l := ⟨_, rfl⟩
  have hll : l.length = s1.size := by rw [← hl]; simp
  rw [hl] at ho
  have hrun : ∀ W, Hid (Calls Tryz.prog 118 #[.string s1, .int .i64 0] W fun e w' => e = .returned (.int .i64 ((cntD l : Nat) : Int)) ∧ W = w') := fun W => hiD (by rw [← hl]; exact run_any s1 W (by omega))
  have hmk : ∀ (N0 D0 : Nat) (q : Rat) (sb : Bool), N0 < B9 ^ 2000 → D0 < B9 ^ 2000 → q = ratv true N0 D0 → sb = decide (q.num < 0) → ∀ W u v, Nat9 W u N0 → Nat9 W v D0 → Hid (Calls Tryz.prog 91 #[.bool true, u, v] W (QPostB q sb W)) := by
    intro N0 D0 q sb h1 h2 h3 h4 W u v hu hv
    refine hiD ((make_any true u v N0 D0 2000 W (by omega) h1 h2 hu hv).mono fun e w' h => ?_)
    rw [← h3] at h
    exact h.b h4
  have hlen : l.length ≤ 1000 := by omega
  by_cases hk : cntD l = 0
  · have hnone : o = none := by
      rw [← ho]
      by_cases h0 : l = []
      · subst h0; rfl
      · obtain ⟨hd, mo, c, e, h1, h2, h3, -, -, -⟩ := cnt_split l (by rw [hk]; exact List.length_pos_iff.2 h0)
        rw [hk] at h1
        have : hd = [] := List.eq_nil_of_length_eq_zero h1
        subst this
        rw [e, readAbs_split _ _ _ h2 h3]
        simp [allDig]
    rw [hnone]
    exact (plain_ng_A s (cntD l) 0 false 0 0 w hmx hz hm s1 hs1 (by omega) hrun hk).mono fun e w' h => ⟨_, h⟩
  · have hk0 : (((cntD l : Nat) : Int) == 0) = false := by simp; omega
    by_cases hks : cntD l = l.length
    · have hall := (cnt_all l).1 hks
      have had : allDig l = true := by
        unfold allDig; rw [hall]
        cases h : l with
        | nil => rw [h] at hk; exact absurd rfl hk
        | cons x t => rfl
      have hoo : o = some (dval l, 1) := by rw [← ho]; exact readAbs_digits l had
      rw [hoo]
      have hN : dval l < B9 ^ 2000 := dval_lt9 (K := 2000) hall (by omega)
      exact plain_ng_B s (cntD l) (ratv true (dval l) 1) _ (dval l) 1 w hmx hz hm s1 hs1 (by omega) hrun hk0 (by rw [hks, hll]; simp) (fun W => hiD (by rw [← hl]; exact natRead_any s1 W (by omega) (by rw [hl]; exact hall))) (fun W => hiD (one_any W)) (hiD rfl) (hmk _ _ _ _ hN (one_lt9 (K := 2000) (by omega)) rfl rfl)
    · have hlt : cntD l < l.length := by
        have : cntD l ≤ l.length := by unfold cntD; exact (List.takeWhile_prefix isDig).length_le
        omega
      obtain ⟨hd, mo, c, e, h1, h2, h3, h4, h5, h6⟩ := cnt_split l hlt
      have hks0 : (((cntD l : Nat) : Int) == s1.size) = false := by rw [← hll]; simp; omega
      have hkl : cntD l < s1.size := by omega
      have hck : ((s1[cntD l]'hkl).toNat : Int) = (c.toNat : Int) := by
        have : s1[cntD l]'hkl = c := by
          subst hl
          rw [List.getElem?_eq_getElem (by simpa using hkl)] at h6
          exact Option.some.inj h6
        rw [this]
      obtain ⟨mb, hmb⟩ : ∃ mb, s1.extract (cntD l + 1) s1.size = mb := ⟨_, rfl⟩
      obtain ⟨hb, hhb⟩ : ∃ hb, s1.extract 0 (cntD l) = hb := ⟨_, rfl⟩
      have lmb : mb.data.toList = mo := by rw [← hmb, extract_to_end, hl, h5]
      have lhb : hb.data.toList = hd := by rw [← hhb, extract_upto, hl, h4]
      have smb : mb.size = mo.length := by rw [← lmb]; simp
      have shb : hb.size = hd.length := by rw [← lhb]; simp
      have hle : l.length = hd.length + 1 + mo.length := by rw [e]; simp; omega
      have hrun2 : ∀ W, Hid (Calls Tryz.prog 118 #[.string mb, .int .i64 0] W fun e w' => e = .returned (.int .i64 ((cntD mo : Nat) : Int)) ∧ W = w') := fun W => hiD (by rw [← lmb]; exact run_any mb W (by omega))
      have hsp := readAbs_split hd mo c h2 h3
      rw [← e, ho] at hsp
      have had : allDig hd = true := by
        unfold allDig; rw [h2]
        cases h : hd with
        | nil => rw [h] at h1; exact absurd h1.symm hk
        | cons x t => rfl
      by_cases hcm : cntD mo = mo.length
      · have hmall := (cnt_all mo).1 hcm
        by_cases hm0 : mo = []
        · have hoo : o = none := by
            rw [hsp, hm0]; simp [allDig]
          rw [hoo]
          exact (plain_ng_C1b s (cntD l) 0 false 0 0 w hmx hz hm s1 hs1 (by omega) hrun hk0 hks0 hkl c.toNat hck mb hb hmb hhb (cntD mo) hrun2 (by rw [hcm, hm0]; rfl) (bytes_eq (by rw [lmb, hm0]))).mono fun e w' h => ⟨_, h⟩
        · have hmd : allDig mo = true := by
            unfold allDig; rw [hmall]
            cases h : mo with
            | nil => exact absurd h hm0
            | cons x t => rfl
          have hcm2 : (((cntD mo : Nat) : Int) != mb.size) = false := by rw [hcm, smb]; simp
          have ltl : mb.toList = mo := by rw [Lib.toList_data]; exact lmb
          have e1 : (mb.toList == []) = false := by rw [ltl, beq_eq_false_iff_ne]; exact hm0
          have e2 : ¬ mb.toList = [] := by rw [ltl]; exact hm0
          have e3 : mb.toList.isEmpty = false := by rw [ltl]; cases h : mo with | nil => exact absurd h hm0 | cons x t => rfl
          have hmk0 : ∀ x : List UInt8, x.all isDig = true → x.length ≤ 1000 → dval x < B9 ^ 2000 := fun x hx hxl => dval_lt9 (K := 2000) hx (by omega)
          by_cases h47 : c = 47
          · have h46 : ¬ c = 46 := by rw [h47]; decide
            rw [if_neg h46, if_pos h47, had, hmd] at hsp
            have hrd1 : ∀ W, Hid (Calls Tryz.prog 119 #[.string mb] W (Post9 (dval mo) W)) := fun W => hiD (by rw [← lmb]; exact natRead_any mb W (by omega) (by rw [lmb]; exact hmall))
            have hrd2 : ∀ W, Hid (Calls Tryz.prog 119 #[.string hb] W (Post9 (dval hd) W)) := fun W => hiD (by rw [← lhb]; exact natRead_any hb W (by omega) (by rw [lhb]; exact h2))
            have hc47 : c.toNat = 47 := by rw [h47]; rfl
            by_cases hd0 : dval mo = 0
            · have hoo : o = none := by rw [hsp, hd0]; rfl
              rw [hoo]
              exact (plain_ng_C2n s (cntD l) _ _ (dval hd) (dval mo) w hmx hz hm s1 hs1 (by omega) hrun hk0 hks0 hkl c.toNat hck mb hb hmb hhb (cntD mo) hrun2 hcm2 e1 e2 e3 hc47 hd0 hrd1 hrd2 (hiD rfl) (hmk _ _ _ _ (hmk0 hd h2 (by omega)) (hmk0 mo hmall (by omega)) rfl rfl)).mono fun e w' h => ⟨_, h⟩
            · have hoo : o = some (dval hd, dval mo) := by
                rw [hsp]
                have : (dval mo == 0) = false := by simpa using hd0
                rw [this]; rfl
              rw [hoo]
              exact plain_ng_C2y s (cntD l) _ _ (dval hd) (dval mo) w hmx hz hm s1 hs1 (by omega) hrun hk0 hks0 hkl c.toNat hck mb hb hmb hhb (cntD mo) hrun2 hcm2 e1 e2 e3 hc47 hd0 hrd1 hrd2 (hiD rfl) (hmk _ _ _ _ (hmk0 hd h2 (by omega)) (hmk0 mo hmall (by omega)) rfl rfl)
          · by_cases h46 : c = 46
            · rw [if_pos h46, had, hmd] at hsp
              have hoo : o = some (dval (hd ++ mo), 10 ^ mo.length) := hsp
              rw [hoo]
              have hboth : (hd ++ mo).all isDig = true := by rw [List.all_append, h2, hmall]; rfl
              have lhm : (hb ++ mb).data.toList = hd ++ mo := by simp [lhb, lmb]
              have shm : (hb ++ mb).size = hd.length + mo.length := by simp [shb, smb]
              have hrd : ∀ W, Hid (Calls Tryz.prog 119 #[.string (hb ++ mb)] W (Post9 (dval (hd ++ mo)) W)) := fun W => hiD (by rw [← lhm]; exact natRead_any (hb ++ mb) W (by rw [shm]; omega) (by rw [lhm]; exact hboth))
              exact plain_ng_C3 s (cntD l) _ _ (dval (hd ++ mo)) (10 ^ mo.length) w hmx hz hm s1 hs1 (by omega) hrun hk0 hks0 hkl c.toNat hck mb hb hmb hhb (cntD mo) hrun2 hcm2 e1 e2 e3 (by rw [h46]; rfl) (hiD (by rw [lmb]; exact hmall)) (by omega) (by omega) (hiD (by rw [smb])) hrd (hiD rfl) (hmk _ _ _ _ (hmk0 _ hboth (by rw [List.length_append]; omega)) (ten_lt9 (K := 2000) (by omega)) rfl rfl)
            · rw [if_neg h46, if_neg h47] at hsp
              rw [hsp]
              have n46 : ((c.toNat : Int) != 46) = true := by
                have : c.toNat ≠ 46 := fun h => h46 (UInt8.toNat_inj.1 h)
                simp; omega
              have n47 : ((c.toNat : Int) != 47) = true := by
                have : c.toNat ≠ 47 := fun h => h47 (UInt8.toNat_inj.1 h)
                simp; omega
              exact (plain_ng_C1c s (cntD l) 0 false 0 0 w hmx hz hm s1 hs1 (by omega) hrun hk0 hks0 hkl c.toNat hck mb hb hmb hhb (cntD mo) hrun2 hcm2 e1 e2 e3 n46 n47).mono fun e w' h => ⟨_, h⟩
      · have hmd : allDig mo = false := by
          cases h : allDig mo with
          | false => rfl
          | true => exact absurd ((cnt_all mo).2 (allDig_all h)) hcm
        have hoo : o = none := by
          rw [hsp, hmd]; simp
        rw [hoo]
        exact (plain_ng_C1 s (cntD l) 0 false 0 0 w hmx hz hm s1 hs1 (by omega) hrun hk0 hks0 hkl c.toNat hck mb hb hmb hhb (cntD mo) hrun2 (by rw [smb]; simp; omega)).mono fun e w' h => ⟨_, h⟩
theorem plain_any (s : ByteArray) (w : World) (hmax : (s.size : Int) ≤ 1000) : Calls Tryz.prog 65 #[.string s] w (PlainPost (readL s.data.toList) w) := by
  by_cases hz : s.size = 0
  · have hl : s.data.toList = [] := List.eq_nil_of_length_eq_zero (by simpa using hz)
    have : readL s.data.toList = none := by rw [hl]; rfl
    rw [this]
    have hc : cntD s.data.toList = 0 := by rw [hl]; rfl
    exact (plain_n0_A s 0 0 false 0 0 w (by omega) hz (fun W => hiD (by have h := run_any s W (by omega); rw [hc] at h; exact h)) rfl).mono fun e w' h => ⟨_, h⟩
  · have hz0 : 0 < s.size := by omega
    have hl0 : 0 < s.data.toList.length := by simpa using hz0
    obtain ⟨x, t, hl⟩ : ∃ x t, s.data.toList = x :: t := by
      cases h : s.data.toList with
      | nil => rw [h] at hl0; simp at hl0
      | cons x t => exact ⟨x, t, rfl⟩
    have hx : s[0]'hz0 = x := by
      have h1 : s.data.toList[0]'hl0 = s[0]'hz0 := rfl
      rw [← h1]; simp only [hl]; rfl
    by_cases h45 : x = 45
    · have hr : readL s.data.toList = (readAbs (s.extract 1 s.size).data.toList).map fun p => (true, p.1, p.2) := by
        rw [extract_to_end]
        unfold readL Lib.trimPrefix
        have : Lib.hasPrefix s.data.toList [45] = true := by rw [hl, h45]; simp [Lib.hasPrefix, List.isPrefixOf]
        rw [this]; rfl
      rw [hr]
      exact plain_core_ng s w hmax hz0 (by rw [hx, h45]; rfl) _ rfl (by
        have : (s.extract 1 s.size).size = s.size - 1 := by
          simp
        omega) _ rfl
    · have hp : Lib.hasPrefix s.data.toList [45] = false := by
        rw [hl]
        have : ((45 : UInt8) == x) = false := by rw [beq_eq_false_iff_ne]; exact fun h => h45 h.symm
        simp [Lib.hasPrefix, List.isPrefixOf, this]
      have hr : readL s.data.toList = (readAbs s.data.toList).map fun p => (false, p.1, p.2) := by
        unfold readL Lib.trimPrefix
        rw [hp]; rfl
      rw [hr]
      exact plain_core_n1 s w hmax hz0 (by
        rw [hx]
        have : x.toNat ≠ 45 := fun h => h45 (UInt8.toNat_inj.1 h)
        simp; omega) _ rfl
end Go.Proofs.YtoegbjmoecbjdaaGreatDoor
