/- Texts of units: scanExponent. Texts of units: scanExponent at every text. Texts of units: scanSymbol. Texts of units: scanSymbol at every text; Parse. -/
import Derived.Test.YtoegbjmoecbjdaaGreatDoorPart14
set_option maxHeartbeats 1600000
set_option maxRecDepth 100000
namespace Go.Proofs.YtoegbjmoecbjdaaGreatDoor
open Go.RowKit Go.Lib Big
theorem satT_snoc (l : List UInt8) (c : UInt8) : satT (l ++ [c]) = if satT l ≤ 12 then satT l * 10 + ((c.toNat : Int) - 48) else satT l := by
  unfold satT; rw [List.foldl_append]; rfl
theorem sat_stop (l m : List UInt8) (h : 12 < satT l) : satT (l ++ m) = satT l := by
  induction m generalizing l with
  | nil => rw [List.append_nil]
  | cons c m ih =>
    have e : satT (l ++ [c]) = satT l := by rw [satT_snoc, if_neg (by omega)]
    rw [show l ++ c :: m = (l ++ [c]) ++ m from by simp, ih _ (by rw [e]; exact h), e]
theorem sat_bd (l : List UInt8) (h : l.all isDig = true) : 0 ≤ satT l ∧ satT l ≤ 129 := by
  suffices ∀ (n : Nat) (l : List UInt8), l.length = n → l.all isDig = true → 0 ≤ satT l ∧ satT l ≤ 129 from this l.length l rfl h
  intro n
  induction n with
  | zero => intro l hl _; rw [List.eq_nil_of_length_eq_zero hl]; exact ⟨by decide, by decide⟩
  | succ n ih =>
    intro l hl hd
    obtain ⟨m, c, rfl⟩ : ∃ m c, l = m ++ [c] := ⟨l.dropLast, l.getLast (by intro h; rw [h] at hl; simp at hl), (List.dropLast_concat_getLast _).symm⟩
    rw [List.all_append, Bool.and_eq_true] at hd
    obtain ⟨h1, h2⟩ := ih m (by simpa using hl) hd.1
    have hc : isDig c = true := by simpa using hd.2
    unfold isDig at hc
    simp at hc
    rw [satT_snoc]
    split <;> omega
theorem tw_take (p : UInt8 → Bool) (l : List UInt8) (j : Nat) (hj : j ≤ (l.takeWhile p).length) : (l.take j).all p = true := by
  induction l generalizing j with
  | nil => simp
  | cons x l ih =>
    cases j with
    | zero => simp
    | succ j =>
      rw [List.takeWhile_cons] at hj
      by_cases hx : p x = true
      · rw [if_pos hx, List.length_cons] at hj
        rw [List.take_succ_cons, List.all_cons, hx, ih j (by omega)]; rfl
      · rw [if_neg hx] at hj; simp at hj
theorem cntD_le (l : List UInt8) : cntD l ≤ l.length := by
  unfold cntD
  exact (List.takeWhile_sublist _).length_le
structure ExpoAt (s : ByteArray) (st D : Nat) : Prop where
  size : st + D ≤ s.size
  cnt : cntD (s.data.toList.drop st) = D
theorem ExpoAt.step {s : ByteArray} {st D k : Nat} (h : ExpoAt s st D) (h1 : st ≤ k) (h2 : k < st + D) : 48 ≤ (s[k]'(by have := h.size; omega)).toNat ∧ (s[k]'(by have := h.size; omega)).toNat ≤ 57 ∧
    satT ((s.data.toList.drop st).take (k + 1 - st)) = if satT ((s.data.toList.drop st).take (k - st)) ≤ 12 then satT ((s.data.toList.drop st).take (k - st)) * 10 + (((s[k]'(by have := h.size; omega)).toNat : Int) - 48) else satT ((s.data.toList.drop st).take (k - st)) := by
  have hs := h.size
  have hk : k - st < (s.data.toList.drop st).length := by simp; omega
  have hc := h.cnt
  have hall := tw_take isDig (s.data.toList.drop st) (k - st + 1) (by unfold cntD at hc; omega)
  rw [List.take_succ_eq_append_getElem hk, List.all_append, Bool.and_eq_true] at hall
  have hd : isDig ((s.data.toList.drop st)[k - st]) = true := by simpa using hall.2
  have he : (s.data.toList.drop st)[k - st] = s[k]'(by omega) := by
    rw [List.getElem_drop]
    have : st + (k - st) = k := by omega
    simp only [this]
    rfl
  rw [he] at hd
  unfold isDig at hd
  simp at hd
  refine ⟨hd.1, hd.2, ?_⟩
  rw [show k + 1 - st = k - st + 1 from by omega, List.take_succ_eq_append_getElem hk, satT_snoc, he]
theorem ExpoAt.bd {s : ByteArray} {st D k : Nat} (h : ExpoAt s st D) (h2 : k ≤ st + D) : 0 ≤ satT ((s.data.toList.drop st).take (k - st)) ∧ satT ((s.data.toList.drop st).take (k - st)) ≤ 129 := by
  apply sat_bd
  have hc := h.cnt
  exact tw_take isDig _ _ (by unfold cntD at hc; omega)
theorem ExpoAt.stop {s : ByteArray} {st D k : Nat} (h1 : st ≤ k) (h2 : k ≤ st + D) (h3 : 12 < satT ((s.data.toList.drop st).take (k - st))) : satT ((s.data.toList.drop st).take D) = satT ((s.data.toList.drop st).take (k - st)) := by
  have e : (s.data.toList.drop st).take D = (s.data.toList.drop st).take (k - st) ++ ((s.data.toList.drop st).drop (k - st)).take (D - (k - st)) := by
    rw [← List.take_add]
    congr 1; omega
  rw [e]; exact sat_stop _ _ h3
theorem expo_minus (s : ByteArray) (D : Nat) (V : Int) (w : World) (hmax : s.size ≤ 100000) (_he : ¬ s.toList = []) (he2 : s.toList.isEmpty = false) (hpos : 0 < s.size) (hm : (((s[0]'hpos).toNat : Int) == 45) = true) (hE : ExpoAt s 1 D) (hD : 0 < D) (hV : satT ((s.data.toList.drop 1).take D) = V) (hcd : ∀ W, Hid (Calls Tryz.prog 193 #[.string (s.extract 1 s.size)] W fun e w' => e = .returned (.int .i64 D) ∧ W = w')) :
    Calls Tryz.prog 230 #[.string s] w fun e w' => e = .returned (.tuple #[.int .i64 (-V), .int .i64 (1 + D)]) ∧ Below w.heap.size w w' := by
  have hsz := hE.size
  have HE := hiD hE
  have hD0 : ((D : Int) == 0) = false := by rw [beq_eq_false_iff_ne]; omega
  have hst : Hid (satT ((s.data.toList.drop 1).take (1 - 1)) = 0) := hiD (by rw [Nat.sub_self, List.take_zero]; rfl)
  have HV := hiD hV
  clear hE hV
  go_enter Tryz.func230, Tryz.ntmps230
  go_wp2_with fail
  refine (hcd _).out.mono ?_
  rintro e w1 ⟨rfl, rfl⟩
  go_wp2_with fail
  go_loop [7, 8] (fun x i => ∃ (k : Nat) (e : Int), 1 ≤ k ∧ k ≤ 1 + D ∧ i = .int .i64 k ∧ x = .int .i64 e ∧ Hid (satT ((s.data.toList.drop 1).take (k - 1)) = e)) (fun _ i => 1 + D - (intOf i).toNat)
  case atStart => exact ⟨1, 0, by omega, by omega, rfl, rfl, hst⟩
  case round =>
    obtain ⟨k, e, hk1, hk2, rfl, rfl, hval⟩ := hrel
    obtain ⟨hb1, hb2⟩ := HE.out.bd hk2
    rw [hval.out] at hb1 hb2
    by_cases hlt : k < 1 + D
    · obtain ⟨hd1, hd2, hnext⟩ := HE.out.step hk1 hlt
      rw [hval.out] at hnext
      have hks : k < s.size := by omega
      have hd1' : (48 : Int) ≤ (s[k].toNat : Int) := by omega
      have hd2' : (s[k].toNat : Int) ≤ 57 := by omega
      by_cases h12 : e ≤ 12
      · rw [if_pos h12] at hnext
        have Hnext := hiD hnext
        have hp : isPow e = true := by unfold isPow; simp; omega
        clear hnext hd1 hd2
        go_wp2_with fail
        refine (isPower_any _ _).mono ?_
        rintro e' w1 ⟨rfl, rfl⟩
        rw [hp]
        clear hp
        go_wp2_with fail
        go_round
        case rel => exact ⟨k + 1, _, by omega, by omega, by go_num, rfl, Hnext⟩
        case measure => simp [intOf]; omega
      · have hp : isPow e = false := by unfold isPow; simp; omega
        have hfin : Hid (satT ((s.data.toList.drop 1).take D) = e) := hiD ((ExpoAt.stop hk1 hk2 (by rw [hval.out]; omega)).trans hval.out)
        clear hnext hd1 hd2
        go_wp2_with fail
        refine (isPower_any _ _).mono ?_
        rintro e' w1 ⟨rfl, rfl⟩
        rw [hp]
        clear hp
        go_wp2_with fail
        go_ret2
        obtain rfl : V = e := HV.out.symm.trans hfin.out
        exact ⟨rfl, Below.refl _ _⟩
    · obtain rfl : k = 1 + D := by omega
      have hfin : Hid (satT ((s.data.toList.drop 1).take D) = e) := hiD (by have := hval.out; rwa [show 1 + D - 1 = D from by omega] at this)
      go_wp2_with fail
      go_ret2
      obtain rfl : V = e := HV.out.symm.trans hfin.out
      exact ⟨rfl, Below.refl _ _⟩
theorem expo_plain (s : ByteArray) (D : Nat) (V : Int) (w : World) (hmax : s.size ≤ 100000) (_he : ¬ s.toList = []) (he2 : s.toList.isEmpty = false) (hpos : 0 < s.size) (hm : (((s[0]'hpos).toNat : Int) == 45) = false) (hE : ExpoAt s 0 D) (hD : 0 < D) (hV : satT ((s.data.toList.drop 0).take D) = V) (hcd : ∀ W, Hid (Calls Tryz.prog 193 #[.string s] W fun e w' => e = .returned (.int .i64 D) ∧ W = w')) :
    Calls Tryz.prog 230 #[.string s] w fun e w' => e = .returned (.tuple #[.int .i64 (V), .int .i64 D]) ∧ Below w.heap.size w w' := by
  have hsz := hE.size
  have HE := hiD hE
  have hD0 : ((D : Int) == 0) = false := by rw [beq_eq_false_iff_ne]; omega
  have hst : Hid (satT ((s.data.toList.drop 0).take (0 - 0)) = 0) := hiD (by rw [Nat.sub_self, List.take_zero]; rfl)
  have HV := hiD hV
  clear hE hV
  go_enter Tryz.func230, Tryz.ntmps230
  go_wp2_with fail
  refine (hcd _).out.mono ?_
  rintro e w1 ⟨rfl, rfl⟩
  go_wp2_with fail
  go_loop [7, 8] (fun x i => ∃ (k : Nat) (e : Int), 0 ≤ k ∧ k ≤ 0 + D ∧ i = .int .i64 k ∧ x = .int .i64 e ∧ Hid (satT ((s.data.toList.drop 0).take (k - 0)) = e)) (fun _ i => 0 + D - (intOf i).toNat)
  case atStart => exact ⟨0, 0, by omega, by omega, rfl, rfl, hst⟩
  case round =>
    obtain ⟨k, e, hk1, hk2, rfl, rfl, hval⟩ := hrel
    obtain ⟨hb1, hb2⟩ := HE.out.bd hk2
    rw [hval.out] at hb1 hb2
    by_cases hlt : k < 0 + D
    · obtain ⟨hd1, hd2, hnext⟩ := HE.out.step hk1 hlt
      rw [hval.out] at hnext
      have hks : k < s.size := by omega
      have hd1' : (48 : Int) ≤ (s[k].toNat : Int) := by omega
      have hd2' : (s[k].toNat : Int) ≤ 57 := by omega
      by_cases h12 : e ≤ 12
      · rw [if_pos h12] at hnext
        have Hnext := hiD hnext
        have hp : isPow e = true := by unfold isPow; simp; omega
        clear hnext hd1 hd2
        go_wp2_with fail
        refine (isPower_any _ _).mono ?_
        rintro e' w1 ⟨rfl, rfl⟩
        rw [hp]
        clear hp
        go_wp2_with fail
        go_round
        case rel => exact ⟨k + 1, _, by omega, by omega, by go_num, rfl, Hnext⟩
        case measure => simp [intOf]; omega
      · have hp : isPow e = false := by unfold isPow; simp; omega
        have hfin : Hid (satT ((s.data.toList.drop 0).take D) = e) := hiD ((ExpoAt.stop hk1 hk2 (by rw [hval.out]; omega)).trans hval.out)
        clear hnext hd1 hd2
        go_wp2_with fail
        refine (isPower_any _ _).mono ?_
        rintro e' w1 ⟨rfl, rfl⟩
        rw [hp]
        clear hp
        go_wp2_with fail
        go_ret2
        obtain rfl : V = e := HV.out.symm.trans hfin.out
        exact ⟨rfl, Below.refl _ _⟩
    · obtain rfl : k = 0 + D := by omega
      have hfin : Hid (satT ((s.data.toList.drop 0).take D) = e) := hiD (by have := hval.out; rwa [show 0 + D - 0 = D from by omega] at this)
      go_wp2_with fail
      go_ret2
      obtain rfl : V = e := HV.out.symm.trans hfin.out
      exact ⟨rfl, Below.refl _ _⟩
theorem expo_empty (s : ByteArray) (w : World) (_hmax : s.size ≤ 100000) (he : s.toList = []) (_he2 : s.toList.isEmpty = true) (hcd : ∀ W, Hid (Calls Tryz.prog 193 #[.string s] W fun e w' => e = .returned (.int .i64 0) ∧ W = w')) :
    Calls Tryz.prog 230 #[.string s] w fun e w' => e = .returned (.tuple #[.int .i64 0, .int .i64 0]) ∧ Below w.heap.size w w' := by
  go_enter Tryz.func230, Tryz.ntmps230
  go_wp2_with fail
  refine (hcd _).out.mono ?_
  rintro e w1 ⟨rfl, rfl⟩
  go_wp2_with fail
  go_ret2
  exact ⟨rfl, Below.refl _ _⟩
theorem expo_minus0 (s : ByteArray) (w : World) (hmax : s.size ≤ 100000) (_he : ¬ s.toList = []) (he2 : s.toList.isEmpty = false) (hpos : 0 < s.size) (hm : (((s[0]'hpos).toNat : Int) == 45) = true) (hcd : ∀ W, Hid (Calls Tryz.prog 193 #[.string (s.extract 1 s.size)] W fun e w' => e = .returned (.int .i64 0) ∧ W = w')) :
    Calls Tryz.prog 230 #[.string s] w fun e w' => e = .returned (.tuple #[.int .i64 0, .int .i64 0]) ∧ Below w.heap.size w w' := by
  go_enter Tryz.func230, Tryz.ntmps230
  go_wp2_with fail
  refine (hcd _).out.mono ?_
  rintro e w1 ⟨rfl, rfl⟩
  go_wp2_with fail
  go_ret2
  exact ⟨rfl, Below.refl _ _⟩
theorem expo_plain0 (s : ByteArray) (w : World) (_hmax : s.size ≤ 100000) (_he : ¬ s.toList = []) (he2 : s.toList.isEmpty = false) (hpos : 0 < s.size) (hm : (((s[0]'hpos).toNat : Int) == 45) = false) (hcd : ∀ W, Hid (Calls Tryz.prog 193 #[.string s] W fun e w' => e = .returned (.int .i64 0) ∧ W = w')) :
    Calls Tryz.prog 230 #[.string s] w fun e w' => e = .returned (.tuple #[.int .i64 0, .int .i64 0]) ∧ Below w.heap.size w w' := by
  go_enter Tryz.func230, Tryz.ntmps230
  go_wp2_with fail
  refine (hcd _).out.mono ?_
  rintro e w1 ⟨rfl, rfl⟩
  go_wp2_with fail
  go_ret2
  exact ⟨rfl, Below.refl _ _⟩
theorem expoT_other {c : UInt8} {t : List UInt8} (h : c ≠ 45) : expoT (c :: t) = if cntD (c :: t) = 0 then (0, 0) else (satT ((c :: t).take (cntD (c :: t))), cntD (c :: t)) := by
  unfold expoT
  split
  · rename_i h2; simp at h2; exact absurd h2.1 h
  · rfl
theorem scanExponent_any (s : ByteArray) (w : World) (hmax : s.size ≤ 100000) : Calls Tryz.prog 230 #[.string s] w fun e w' => e = .returned (.tuple #[.int .i64 (expoT s.data.toList).1, .int .i64 ((expoT s.data.toList).2 : Nat)]) ∧ Below w.heap.size w w' := by
  have hcd : ∀ (t : ByteArray), t.size ≤ 100000 → ∀ W, Calls Tryz.prog 193 #[.string t] W fun e w' => e = .returned (.int .i64 (cntD t.data.toList)) ∧ W = w' := fun t ht W => countDigits_any t W (by omega)
  cases hd : s.data.toList with
  | nil =>
    have he : s.toList = [] := by rw [Lib.toList_data]; exact hd
    have h0 := hcd s hmax
    rw [hd] at h0
    exact expo_empty s w hmax he (by rw [he]; rfl) fun W => hiD (h0 W)
  | cons c t =>
    have hpos : 0 < s.size := by
      have := congrArg List.length hd
      simp at this; omega
    have hc : s[0]'hpos = c := by
      have : s.data.toList[0]'(by rw [hd]; simp) = c := by simp [hd]
      exact this
    have he : ¬ s.toList = [] := by rw [Lib.toList_data, hd]; simp
    have he2 : s.toList.isEmpty = false := by rw [Lib.toList_data, hd]; rfl
    have ht : (s.extract 1 s.size).data.toList = t := by
      rw [Lib.extract_to_end, hd]; rfl
    have hdrop : s.data.toList.drop 1 = t := by rw [hd]; rfl
    have hlen : s.size = t.length + 1 := by
      have := congrArg List.length hd
      simpa using this
    by_cases h45 : c = 45
    · subst h45
      have hm : (((s[0]'hpos).toNat : Int) == 45) = true := by rw [hc]; rfl
      have h1 := hcd (s.extract 1 s.size) (by simp; omega)
      rw [ht] at h1
      show Calls Tryz.prog 230 #[.string s] w fun e w' => e = .returned (.tuple #[.int .i64 (if cntD t = 0 then ((0 : Int), 0) else (-satT (t.take (cntD t)), 1 + cntD t)).1, .int .i64 ((if cntD t = 0 then ((0 : Int), 0) else (-satT (t.take (cntD t)), 1 + cntD t)).2 : Nat)]) ∧ Below w.heap.size w w'
      by_cases h0 : cntD t = 0
      · rw [if_pos h0]
        rw [h0] at h1
        exact expo_minus0 s w hmax he he2 hpos hm fun W => hiD (h1 W)
      · rw [if_neg h0]
        have hle := cntD_le t
        have := expo_minus s (cntD t) (satT (t.take (cntD t))) w hmax he he2 hpos hm ⟨by omega, by rw [hdrop]⟩ (by omega) (by rw [hdrop]) fun W => hiD (h1 W)
        simpa using this
    · have hm : (((s[0]'hpos).toNat : Int) == 45) = false := by
        rw [hc, beq_eq_false_iff_ne]; intro h; apply h45; apply UInt8.toNat_inj.1; have : ((45 : UInt8)).toNat = 45 := rfl; omega
      have h1 := hcd s hmax
      rw [hd] at h1
      rw [expoT_other h45]
      by_cases h0 : cntD (c :: t) = 0
      · rw [if_pos h0]
        rw [h0] at h1
        exact expo_plain0 s w hmax he he2 hpos hm fun W => hiD (h1 W)
      · rw [if_neg h0]
        have hle := cntD_le (c :: t)
        have := expo_plain s (cntD (c :: t)) (satT ((c :: t).take (cntD (c :: t)))) w hmax he he2 hpos hm ⟨by simp at hle; omega, by rw [List.drop_zero, hd]⟩ (by omega) (by rw [List.drop_zero, hd]) fun W => hiD (h1 W)
        simpa using this
theorem ResF.set_far {B : Nat} {w0 W : World} (h : ResF B w0 W) (g k : Nat) (v : Value) (hg : w0.heap.size ≤ g) (hne : B ≠ g) : ResF B w0 (W.setCell ⟨g, k, none⟩ v) := by
  obtain ⟨z0, z1, z2, z3, z4, z5, z6, z7, z8, z9, z10, hz, hn⟩ := h.z
  exact ⟨h.below.setCell hg _, z0, z1, z2, z3, z4, z5, z6, z7, z8, z9, z10, (Below.heap_setCell _ _ _ _ hne).trans hz, hn⟩
def scanLen (o : Option (FacT × Nat)) : Nat := match o with
  | some x => x.2
  | none => 0
def ScanPost (o : Option (FacT × Nat)) (w : World) (e : Ending) (w' : World) : Prop :=
  Below w.heap.size w w' ∧ ∃ b p n c q m d p0 p1 p2 p3 p4 p5 p6 ex, e = .returned (.tuple #[.agg #[.bool b, .slice p n c, .slice q m d, .int .i64 p0, .int .i64 p1, .int .i64 p2, .int .i64 p3, .int .i64 p4, .int .i64 p5, .int .i64 p6, .int .i64 ex], .int .i64 (scanLen o : Nat)]) ∧ ∀ f k, o = some (f, k) → RatIs w' (.agg #[.bool b, .slice p n c, .slice q m d]) f.v 40 ∧ [p0, p1, p2, p3, p4, p5, p6] = f.ps ∧ ex = f.e
theorem scanSym_none (s : ByteArray) (n : Nat) (w : World) (hn : n ≤ s.size) (_hmax : (s.size : Int) ≤ 9223372036854775807) (hcl : ∀ W, Hid (Calls Tryz.prog 228 #[.string s] W fun e w' => e = .returned (.int .i64 n) ∧ W = w')) (hw : ∀ W, Hid (Calls Tryz.prog 229 #[.string (s.extract 0 n)] W (WordPost none W))) : Calls Tryz.prog 195 #[.string s] w (ScanPost none w) := by
  have hrf := hiD (ResF.start w)
  have hle : w.heap.size ≤ w.heap.size := Nat.le_refl _
  go_enter Tryz.func195, Tryz.ntmps195
  go_wp2_with fail
  refine (hcl _).out.mono ?_
  rintro e w1 ⟨rfl, rfl⟩
  go_wp2_with fail
  refine (hw _).out.mono ?_
  rintro e w3 ⟨hb3, b1, q, n1, k1, q2, m1, k2, p0, p1, p2, p3, p4, p5, p6, rfl, hval⟩
  have Hrf := hiD ((hrf.out.next hb3).next (bea w3 (.cells #[.bool b1, .slice q n1 k1, .slice q2 m1 k2, .int .i64 p0, .int .i64 p1, .int .i64 p2, .int .i64 p3, .int .i64 p4, .int .i64 p5, .int .i64 p6, .int .i64 0] 157)))
  obtain ⟨z0, z1, z2, z3, z4, z5, z6, z7, z8, z9, z10, ⟨l0, l1, l2, l3, l4, l5, l6, l7, l8, l9, l10⟩, ⟨f0, f1, f2, f3, f4, f5, f6, f7, f8, f9, f10⟩⟩ := Hrf.out.slots
  have hfin : Hid (∀ W, W = ((((((((((((w3.alloc (.cells #[.bool b1, .slice q n1 k1, .slice q2 m1 k2, .int .i64 p0, .int .i64 p1, .int .i64 p2, .int .i64 p3, .int .i64 p4, .int .i64 p5, .int .i64 p6, .int .i64 0] 157)).setCell ⟨w.heap.size, 0, none⟩ (.bool false)).setCell ⟨w.heap.size, 1, none⟩ (.slice none 0 0)).setCell ⟨w.heap.size, 2, none⟩ (.slice none 0 0)).setCell ⟨w.heap.size, 3, none⟩ (.int .i64 0)).setCell ⟨w.heap.size, 4, none⟩ (.int .i64 0)).setCell ⟨w.heap.size, 5, none⟩ (.int .i64 0)).setCell ⟨w.heap.size, 6, none⟩ (.int .i64 0)).setCell ⟨w.heap.size, 7, none⟩ (.int .i64 0)).setCell ⟨w.heap.size, 8, none⟩ (.int .i64 0)).setCell ⟨w.heap.size, 9, none⟩ (.int .i64 0)).setCell ⟨w.heap.size, 10, none⟩ (.int .i64 0)) → ScanPost none w (.returned (.tuple #[.agg #[.bool false, .slice none 0 0, .slice none 0 0, .int .i64 0, .int .i64 0, .int .i64 0, .int .i64 0, .int .i64 0, .int .i64 0, .int .i64 0, .int .i64 0], .int .i64 0])) W) := hiD (by
    rintro W rfl
    exact ⟨(Hrf.out.put hle (.bool false) (.slice none 0 0) (.slice none 0 0) (.int .i64 0) (.int .i64 0) (.int .i64 0) (.int .i64 0) (.int .i64 0) (.int .i64 0) (.int .i64 0) (.int .i64 0) ⟨nub _, nus _ _ _, nus _ _ _, nui _, nui _, nui _, nui _, nui _, nui _, nui _, nui _⟩).1.below, _, _, _, _, _, _, _, _, _, _, _, _, _, _, _, rfl, by rintro _ _ h; cases h⟩)
  clear hb3 hval
  go_wp2_with fail
  have hcells := (Hrf.out.put hle (.bool false) (.slice none 0 0) (.slice none 0 0) (.int .i64 0) (.int .i64 0) (.int .i64 0) (.int .i64 0) (.int .i64 0) (.int .i64 0) (.int .i64 0) (.int .i64 0) ⟨nub _, nus _ _ _, nus _ _ _, nui _, nui _, nui _, nui _, nui _, nui _, nui _, nui _⟩).2
  generalize (((((((((((w3.alloc (.cells #[.bool b1, .slice q n1 k1, .slice q2 m1 k2, .int .i64 p0, .int .i64 p1, .int .i64 p2, .int .i64 p3, .int .i64 p4, .int .i64 p5, .int .i64 p6, .int .i64 0] 157)).setCell ⟨w.heap.size, 0, none⟩ (.bool false)).setCell ⟨w.heap.size, 1, none⟩ (.slice none 0 0)).setCell ⟨w.heap.size, 2, none⟩ (.slice none 0 0)).setCell ⟨w.heap.size, 3, none⟩ (.int .i64 0)).setCell ⟨w.heap.size, 4, none⟩ (.int .i64 0)).setCell ⟨w.heap.size, 5, none⟩ (.int .i64 0)).setCell ⟨w.heap.size, 6, none⟩ (.int .i64 0)).setCell ⟨w.heap.size, 7, none⟩ (.int .i64 0)).setCell ⟨w.heap.size, 8, none⟩ (.int .i64 0)).setCell ⟨w.heap.size, 9, none⟩ (.int .i64 0)).setCell ⟨w.heap.size, 10, none⟩ (.int .i64 0) = WW at hcells hfin ⊢
  have c0 := ceh hcells 0
  have c1 := ceh hcells 1
  have c2 := ceh hcells 2
  have c3 := ceh hcells 3
  have c4 := ceh hcells 4
  have c5 := ceh hcells 5
  have c6 := ceh hcells 6
  have c7 := ceh hcells 7
  have c8 := ceh hcells 8
  have c9 := ceh hcells 9
  have c10 := ceh hcells 10
  refine bodyPost_ret (v := .tuple #[.agg #[.bool false, .slice none 0 0, .slice none 0 0, .int .i64 0, .int .i64 0, .int .i64 0, .int .i64 0, .int .i64 0, .int .i64 0, .int .i64 0, .int .i64 0], .int .i64 0]) (by simp [results, Tryz.results195, go_sem, c0, c1, c2, c3, c4, c5, c6, c7, c8, c9, c10]) rfl ?_
  exact hfin.out _ rfl
theorem scanSym_end (s : ByteArray) (n : Nat) (v : Rat) (ps : List Int) (w : World) (hn : n ≤ s.size) (_hmax : (s.size : Int) ≤ 9223372036854775807) (hend : ¬ (n : Int) < s.size) (hcl : ∀ W, Hid (Calls Tryz.prog 228 #[.string s] W fun e w' => e = .returned (.int .i64 n) ∧ W = w')) (hw : ∀ W, Hid (Calls Tryz.prog 229 #[.string (s.extract 0 n)] W (WordPost (some (v, ps)) W))) : Calls Tryz.prog 195 #[.string s] w (ScanPost (some (⟨v, ps, 1⟩, n)) w) := by
  have hrf := hiD (ResF.start w)
  have hle : w.heap.size ≤ w.heap.size := Nat.le_refl _
  go_enter Tryz.func195, Tryz.ntmps195
  go_wp2_with fail
  refine (hcl _).out.mono ?_
  rintro e w1 ⟨rfl, rfl⟩
  go_wp2_with fail
  refine (hw _).out.mono ?_
  rintro e w3 ⟨hb3, b1, q, n1, k1, q2, m1, k2, p0, p1, p2, p3, p4, p5, p6, rfl, hval⟩
  obtain ⟨hR, hps⟩ := hval _ _ rfl
  have HR := hiD (hR.below (bea w3 (.cells #[.bool b1, .slice q n1 k1, .slice q2 m1 k2, .int .i64 p0, .int .i64 p1, .int .i64 p2, .int .i64 p3, .int .i64 p4, .int .i64 p5, .int .i64 p6, .int .i64 1] 157)))
  have Hps := hiD hps
  have Hrf := hiD ((hrf.out.next hb3).next (bea w3 (.cells #[.bool b1, .slice q n1 k1, .slice q2 m1 k2, .int .i64 p0, .int .i64 p1, .int .i64 p2, .int .i64 p3, .int .i64 p4, .int .i64 p5, .int .i64 p6, .int .i64 1] 157)))
  obtain ⟨z0, z1, z2, z3, z4, z5, z6, z7, z8, z9, z10, ⟨l0, l1, l2, l3, l4, l5, l6, l7, l8, l9, l10⟩, ⟨f0, f1, f2, f3, f4, f5, f6, f7, f8, f9, f10⟩⟩ := Hrf.out.slots
  have hfin : Hid (∀ W, W = ((((((((((((w3.alloc (.cells #[.bool b1, .slice q n1 k1, .slice q2 m1 k2, .int .i64 p0, .int .i64 p1, .int .i64 p2, .int .i64 p3, .int .i64 p4, .int .i64 p5, .int .i64 p6, .int .i64 1] 157)).setCell ⟨w.heap.size, 0, none⟩ (.bool b1)).setCell ⟨w.heap.size, 1, none⟩ (.slice q n1 k1)).setCell ⟨w.heap.size, 2, none⟩ (.slice q2 m1 k2)).setCell ⟨w.heap.size, 3, none⟩ (.int .i64 p0)).setCell ⟨w.heap.size, 4, none⟩ (.int .i64 p1)).setCell ⟨w.heap.size, 5, none⟩ (.int .i64 p2)).setCell ⟨w.heap.size, 6, none⟩ (.int .i64 p3)).setCell ⟨w.heap.size, 7, none⟩ (.int .i64 p4)).setCell ⟨w.heap.size, 8, none⟩ (.int .i64 p5)).setCell ⟨w.heap.size, 9, none⟩ (.int .i64 p6)).setCell ⟨w.heap.size, 10, none⟩ (.int .i64 1)) → ScanPost (some (⟨v, ps, 1⟩, n)) w (.returned (.tuple #[.agg #[.bool b1, .slice q n1 k1, .slice q2 m1 k2, .int .i64 p0, .int .i64 p1, .int .i64 p2, .int .i64 p3, .int .i64 p4, .int .i64 p5, .int .i64 p6, .int .i64 1], .int .i64 n])) W) := hiD (by
    rintro W rfl
    refine ⟨(Hrf.out.put hle (.bool b1) (.slice q n1 k1) (.slice q2 m1 k2) (.int .i64 p0) (.int .i64 p1) (.int .i64 p2) (.int .i64 p3) (.int .i64 p4) (.int .i64 p5) (.int .i64 p6) (.int .i64 1) ⟨nub _, nus _ _ _, nus _ _ _, nui _, nui _, nui _, nui _, nui _, nui _, nui _, nui _⟩).1.below, _, _, _, _, _, _, _, _, _, _, _, _, _, _, _, rfl, ?_⟩
    rintro _ _ h
    cases h
    exact ⟨Hrf.out.rat HR.out (.bool b1) (.slice q n1 k1) (.slice q2 m1 k2) (.int .i64 p0) (.int .i64 p1) (.int .i64 p2) (.int .i64 p3) (.int .i64 p4) (.int .i64 p5) (.int .i64 p6) (.int .i64 1) ⟨nub _, nus _ _ _, nus _ _ _, nui _, nui _, nui _, nui _, nui _, nui _, nui _, nui _⟩, Hps.out, rfl⟩)
  clear hb3 hval hR hps
  go_wp2_with fail
  have hcells := (Hrf.out.put hle (.bool b1) (.slice q n1 k1) (.slice q2 m1 k2) (.int .i64 p0) (.int .i64 p1) (.int .i64 p2) (.int .i64 p3) (.int .i64 p4) (.int .i64 p5) (.int .i64 p6) (.int .i64 1) ⟨nub _, nus _ _ _, nus _ _ _, nui _, nui _, nui _, nui _, nui _, nui _, nui _, nui _⟩).2
  generalize (((((((((((w3.alloc (.cells #[.bool b1, .slice q n1 k1, .slice q2 m1 k2, .int .i64 p0, .int .i64 p1, .int .i64 p2, .int .i64 p3, .int .i64 p4, .int .i64 p5, .int .i64 p6, .int .i64 1] 157)).setCell ⟨w.heap.size, 0, none⟩ (.bool b1)).setCell ⟨w.heap.size, 1, none⟩ (.slice q n1 k1)).setCell ⟨w.heap.size, 2, none⟩ (.slice q2 m1 k2)).setCell ⟨w.heap.size, 3, none⟩ (.int .i64 p0)).setCell ⟨w.heap.size, 4, none⟩ (.int .i64 p1)).setCell ⟨w.heap.size, 5, none⟩ (.int .i64 p2)).setCell ⟨w.heap.size, 6, none⟩ (.int .i64 p3)).setCell ⟨w.heap.size, 7, none⟩ (.int .i64 p4)).setCell ⟨w.heap.size, 8, none⟩ (.int .i64 p5)).setCell ⟨w.heap.size, 9, none⟩ (.int .i64 p6)).setCell ⟨w.heap.size, 10, none⟩ (.int .i64 1) = WW at hcells hfin ⊢
  have c0 := ceh hcells 0
  have c1 := ceh hcells 1
  have c2 := ceh hcells 2
  have c3 := ceh hcells 3
  have c4 := ceh hcells 4
  have c5 := ceh hcells 5
  have c6 := ceh hcells 6
  have c7 := ceh hcells 7
  have c8 := ceh hcells 8
  have c9 := ceh hcells 9
  have c10 := ceh hcells 10
  refine bodyPost_ret (v := .tuple #[.agg #[.bool b1, .slice q n1 k1, .slice q2 m1 k2, .int .i64 p0, .int .i64 p1, .int .i64 p2, .int .i64 p3, .int .i64 p4, .int .i64 p5, .int .i64 p6, .int .i64 1], .int .i64 n]) (by simp [results, Tryz.results195, go_sem, c0, c1, c2, c3, c4, c5, c6, c7, c8, c9, c10]) rfl ?_
  exact hfin.out _ rfl
theorem scanSym_other (s : ByteArray) (n : Nat) (v : Rat) (ps : List Int) (w : World) (hn : n ≤ s.size) (_hmax : (s.size : Int) ≤ 9223372036854775807) (hlt : n < s.size) (hc : (((s[n]'hlt).toNat : Int) == 94) = false) (hcl : ∀ W, Hid (Calls Tryz.prog 228 #[.string s] W fun e w' => e = .returned (.int .i64 n) ∧ W = w')) (hw : ∀ W, Hid (Calls Tryz.prog 229 #[.string (s.extract 0 n)] W (WordPost (some (v, ps)) W))) : Calls Tryz.prog 195 #[.string s] w (ScanPost (some (⟨v, ps, 1⟩, n)) w) := by
  have hrf := hiD (ResF.start w)
  have hle : w.heap.size ≤ w.heap.size := Nat.le_refl _
  go_enter Tryz.func195, Tryz.ntmps195
  go_wp2_with fail
  refine (hcl _).out.mono ?_
  rintro e w1 ⟨rfl, rfl⟩
  go_wp2_with fail
  refine (hw _).out.mono ?_
  rintro e w3 ⟨hb3, b1, q, n1, k1, q2, m1, k2, p0, p1, p2, p3, p4, p5, p6, rfl, hval⟩
  obtain ⟨hR, hps⟩ := hval _ _ rfl
  have HR := hiD (hR.below (bea w3 (.cells #[.bool b1, .slice q n1 k1, .slice q2 m1 k2, .int .i64 p0, .int .i64 p1, .int .i64 p2, .int .i64 p3, .int .i64 p4, .int .i64 p5, .int .i64 p6, .int .i64 1] 157)))
  have Hps := hiD hps
  have Hrf := hiD ((hrf.out.next hb3).next (bea w3 (.cells #[.bool b1, .slice q n1 k1, .slice q2 m1 k2, .int .i64 p0, .int .i64 p1, .int .i64 p2, .int .i64 p3, .int .i64 p4, .int .i64 p5, .int .i64 p6, .int .i64 1] 157)))
  obtain ⟨z0, z1, z2, z3, z4, z5, z6, z7, z8, z9, z10, ⟨l0, l1, l2, l3, l4, l5, l6, l7, l8, l9, l10⟩, ⟨f0, f1, f2, f3, f4, f5, f6, f7, f8, f9, f10⟩⟩ := Hrf.out.slots
  have hfin : Hid (∀ W, W = ((((((((((((w3.alloc (.cells #[.bool b1, .slice q n1 k1, .slice q2 m1 k2, .int .i64 p0, .int .i64 p1, .int .i64 p2, .int .i64 p3, .int .i64 p4, .int .i64 p5, .int .i64 p6, .int .i64 1] 157)).setCell ⟨w.heap.size, 0, none⟩ (.bool b1)).setCell ⟨w.heap.size, 1, none⟩ (.slice q n1 k1)).setCell ⟨w.heap.size, 2, none⟩ (.slice q2 m1 k2)).setCell ⟨w.heap.size, 3, none⟩ (.int .i64 p0)).setCell ⟨w.heap.size, 4, none⟩ (.int .i64 p1)).setCell ⟨w.heap.size, 5, none⟩ (.int .i64 p2)).setCell ⟨w.heap.size, 6, none⟩ (.int .i64 p3)).setCell ⟨w.heap.size, 7, none⟩ (.int .i64 p4)).setCell ⟨w.heap.size, 8, none⟩ (.int .i64 p5)).setCell ⟨w.heap.size, 9, none⟩ (.int .i64 p6)).setCell ⟨w.heap.size, 10, none⟩ (.int .i64 1)) → ScanPost (some (⟨v, ps, 1⟩, n)) w (.returned (.tuple #[.agg #[.bool b1, .slice q n1 k1, .slice q2 m1 k2, .int .i64 p0, .int .i64 p1, .int .i64 p2, .int .i64 p3, .int .i64 p4, .int .i64 p5, .int .i64 p6, .int .i64 1], .int .i64 n])) W) := hiD (by
    rintro W rfl
    refine ⟨(Hrf.out.put hle (.bool b1) (.slice q n1 k1) (.slice q2 m1 k2) (.int .i64 p0) (.int .i64 p1) (.int .i64 p2) (.int .i64 p3) (.int .i64 p4) (.int .i64 p5) (.int .i64 p6) (.int .i64 1) ⟨nub _, nus _ _ _, nus _ _ _, nui _, nui _, nui _, nui _, nui _, nui _, nui _, nui _⟩).1.below, _, _, _, _, _, _, _, _, _, _, _, _, _, _, _, rfl, ?_⟩
    rintro _ _ h
    cases h
    exact ⟨Hrf.out.rat HR.out (.bool b1) (.slice q n1 k1) (.slice q2 m1 k2) (.int .i64 p0) (.int .i64 p1) (.int .i64 p2) (.int .i64 p3) (.int .i64 p4) (.int .i64 p5) (.int .i64 p6) (.int .i64 1) ⟨nub _, nus _ _ _, nus _ _ _, nui _, nui _, nui _, nui _, nui _, nui _, nui _, nui _⟩, Hps.out, rfl⟩)
  clear hb3 hval hR hps
  go_wp2_with fail
  have hcells := (Hrf.out.put hle (.bool b1) (.slice q n1 k1) (.slice q2 m1 k2) (.int .i64 p0) (.int .i64 p1) (.int .i64 p2) (.int .i64 p3) (.int .i64 p4) (.int .i64 p5) (.int .i64 p6) (.int .i64 1) ⟨nub _, nus _ _ _, nus _ _ _, nui _, nui _, nui _, nui _, nui _, nui _, nui _, nui _⟩).2
  generalize (((((((((((w3.alloc (.cells #[.bool b1, .slice q n1 k1, .slice q2 m1 k2, .int .i64 p0, .int .i64 p1, .int .i64 p2, .int .i64 p3, .int .i64 p4, .int .i64 p5, .int .i64 p6, .int .i64 1] 157)).setCell ⟨w.heap.size, 0, none⟩ (.bool b1)).setCell ⟨w.heap.size, 1, none⟩ (.slice q n1 k1)).setCell ⟨w.heap.size, 2, none⟩ (.slice q2 m1 k2)).setCell ⟨w.heap.size, 3, none⟩ (.int .i64 p0)).setCell ⟨w.heap.size, 4, none⟩ (.int .i64 p1)).setCell ⟨w.heap.size, 5, none⟩ (.int .i64 p2)).setCell ⟨w.heap.size, 6, none⟩ (.int .i64 p3)).setCell ⟨w.heap.size, 7, none⟩ (.int .i64 p4)).setCell ⟨w.heap.size, 8, none⟩ (.int .i64 p5)).setCell ⟨w.heap.size, 9, none⟩ (.int .i64 p6)).setCell ⟨w.heap.size, 10, none⟩ (.int .i64 1) = WW at hcells hfin ⊢
  have c0 := ceh hcells 0
  have c1 := ceh hcells 1
  have c2 := ceh hcells 2
  have c3 := ceh hcells 3
  have c4 := ceh hcells 4
  have c5 := ceh hcells 5
  have c6 := ceh hcells 6
  have c7 := ceh hcells 7
  have c8 := ceh hcells 8
  have c9 := ceh hcells 9
  have c10 := ceh hcells 10
  refine bodyPost_ret (v := .tuple #[.agg #[.bool b1, .slice q n1 k1, .slice q2 m1 k2, .int .i64 p0, .int .i64 p1, .int .i64 p2, .int .i64 p3, .int .i64 p4, .int .i64 p5, .int .i64 p6, .int .i64 1], .int .i64 n]) (by simp [results, Tryz.results195, go_sem, c0, c1, c2, c3, c4, c5, c6, c7, c8, c9, c10]) rfl ?_
  exact hfin.out _ rfl
theorem scanSym_bad (s : ByteArray) (n : Nat) (v : Rat) (ps : List Int) (w : World) (hn : n ≤ s.size) (hmax : (s.size : Int) ≤ 100000) (hlt : n < s.size) (hc : (((s[n]'hlt).toNat : Int) == 94) = true) (hcl : ∀ W, Hid (Calls Tryz.prog 228 #[.string s] W fun e w' => e = .returned (.int .i64 n) ∧ W = w')) (hw : ∀ W, Hid (Calls Tryz.prog 229 #[.string (s.extract 0 n)] W (WordPost (some (v, ps)) W))) (hx : ∀ W, Hid (Calls Tryz.prog 230 #[.string (s.extract (n + 1) s.size)] W fun e w' => e = .returned (.tuple #[.int .i64 0, .int .i64 0]) ∧ Below W.heap.size W w')) : Calls Tryz.prog 195 #[.string s] w (ScanPost none w) := by
  have hrf := hiD (ResF.start w)
  have hle : w.heap.size ≤ w.heap.size := Nat.le_refl _
  go_enter Tryz.func195, Tryz.ntmps195
  go_wp2_with fail
  refine (hcl _).out.mono ?_
  rintro e w1 ⟨rfl, rfl⟩
  go_wp2_with fail
  refine (hw _).out.mono ?_
  rintro e w3 ⟨hb3, b1, q, n1, k1, q2, m1, k2, p0, p1, p2, p3, p4, p5, p6, rfl, hval⟩
  have hbx0 := hiD (heap_new w3 (.cells #[.bool b1, .slice q n1 k1, .slice q2 m1 k2, .int .i64 p0, .int .i64 p1, .int .i64 p2, .int .i64 p3, .int .i64 p4, .int .i64 p5, .int .i64 p6, .int .i64 1] 157))
  have hrf4 := hiD ((hrf.out.next hb3).next (bea w3 (.cells #[.bool b1, .slice q n1 k1, .slice q2 m1 k2, .int .i64 p0, .int .i64 p1, .int .i64 p2, .int .i64 p3, .int .i64 p4, .int .i64 p5, .int .i64 p6, .int .i64 1] 157)))
  have hlt3 : Hid (w.heap.size < w3.heap.size) := hiD (hrf.out.next hb3).lt
  go_wp2_with fail
  refine (hx _).out.mono ?_
  rintro e w4 ⟨rfl, hb4⟩
  have hbx := (hb4.block w3.heap.size (by simp)).trans hbx0.out
  have Hrf := hiD (hrf4.out.next hb4)
  obtain ⟨z0, z1, z2, z3, z4, z5, z6, z7, z8, z9, z10, ⟨l0, l1, l2, l3, l4, l5, l6, l7, l8, l9, l10⟩, ⟨f0, f1, f2, f3, f4, f5, f6, f7, f8, f9, f10⟩⟩ := Hrf.out.slots
  have hfin : Hid (∀ W, W = ((((((((((((w4).setCell ⟨w.heap.size, 0, none⟩ (.bool false)).setCell ⟨w.heap.size, 1, none⟩ (.slice none 0 0)).setCell ⟨w.heap.size, 2, none⟩ (.slice none 0 0)).setCell ⟨w.heap.size, 3, none⟩ (.int .i64 0)).setCell ⟨w.heap.size, 4, none⟩ (.int .i64 0)).setCell ⟨w.heap.size, 5, none⟩ (.int .i64 0)).setCell ⟨w.heap.size, 6, none⟩ (.int .i64 0)).setCell ⟨w.heap.size, 7, none⟩ (.int .i64 0)).setCell ⟨w.heap.size, 8, none⟩ (.int .i64 0)).setCell ⟨w.heap.size, 9, none⟩ (.int .i64 0)).setCell ⟨w.heap.size, 10, none⟩ (.int .i64 0)) → ScanPost none w (.returned (.tuple #[.agg #[.bool false, .slice none 0 0, .slice none 0 0, .int .i64 0, .int .i64 0, .int .i64 0, .int .i64 0, .int .i64 0, .int .i64 0, .int .i64 0, .int .i64 0], .int .i64 0])) W) := hiD (by
    rintro W rfl
    exact ⟨(Hrf.out.put hle (.bool false) (.slice none 0 0) (.slice none 0 0) (.int .i64 0) (.int .i64 0) (.int .i64 0) (.int .i64 0) (.int .i64 0) (.int .i64 0) (.int .i64 0) (.int .i64 0) ⟨nub _, nus _ _ _, nus _ _ _, nui _, nui _, nui _, nui _, nui _, nui _, nui _, nui _⟩).1.below, _, _, _, _, _, _, _, _, _, _, _, _, _, _, _, rfl, by rintro _ _ h; cases h⟩)
  clear hb3 hval hb4 hbx
  go_wp2_with fail
  have hcells := (Hrf.out.put hle (.bool false) (.slice none 0 0) (.slice none 0 0) (.int .i64 0) (.int .i64 0) (.int .i64 0) (.int .i64 0) (.int .i64 0) (.int .i64 0) (.int .i64 0) (.int .i64 0) ⟨nub _, nus _ _ _, nus _ _ _, nui _, nui _, nui _, nui _, nui _, nui _, nui _, nui _⟩).2
  generalize (((((((((((w4).setCell ⟨w.heap.size, 0, none⟩ (.bool false)).setCell ⟨w.heap.size, 1, none⟩ (.slice none 0 0)).setCell ⟨w.heap.size, 2, none⟩ (.slice none 0 0)).setCell ⟨w.heap.size, 3, none⟩ (.int .i64 0)).setCell ⟨w.heap.size, 4, none⟩ (.int .i64 0)).setCell ⟨w.heap.size, 5, none⟩ (.int .i64 0)).setCell ⟨w.heap.size, 6, none⟩ (.int .i64 0)).setCell ⟨w.heap.size, 7, none⟩ (.int .i64 0)).setCell ⟨w.heap.size, 8, none⟩ (.int .i64 0)).setCell ⟨w.heap.size, 9, none⟩ (.int .i64 0)).setCell ⟨w.heap.size, 10, none⟩ (.int .i64 0) = WW at hcells hfin ⊢
  have c0 := ceh hcells 0
  have c1 := ceh hcells 1
  have c2 := ceh hcells 2
  have c3 := ceh hcells 3
  have c4 := ceh hcells 4
  have c5 := ceh hcells 5
  have c6 := ceh hcells 6
  have c7 := ceh hcells 7
  have c8 := ceh hcells 8
  have c9 := ceh hcells 9
  have c10 := ceh hcells 10
  refine bodyPost_ret (v := .tuple #[.agg #[.bool false, .slice none 0 0, .slice none 0 0, .int .i64 0, .int .i64 0, .int .i64 0, .int .i64 0, .int .i64 0, .int .i64 0, .int .i64 0, .int .i64 0], .int .i64 0]) (by simp [results, Tryz.results195, go_sem, c0, c1, c2, c3, c4, c5, c6, c7, c8, c9, c10]) rfl ?_
  exact hfin.out _ rfl
theorem scanSym_pow (s : ByteArray) (n k : Nat) (x : Int) (v : Rat) (ps : List Int) (w : World) (hn : n ≤ s.size) (hmax : (s.size : Int) ≤ 100000) (hlt : n < s.size) (hc : (((s[n]'hlt).toNat : Int) == 94) = true) (hk : 0 < k) (hk2 : k ≤ 100000) (hk3 : ((k : Int) == 0) = false) (hcl : ∀ W, Hid (Calls Tryz.prog 228 #[.string s] W fun e w' => e = .returned (.int .i64 n) ∧ W = w')) (hw : ∀ W, Hid (Calls Tryz.prog 229 #[.string (s.extract 0 n)] W (WordPost (some (v, ps)) W))) (hx : ∀ W, Hid (Calls Tryz.prog 230 #[.string (s.extract (n + 1) s.size)] W fun e w' => e = .returned (.tuple #[.int .i64 x, .int .i64 k]) ∧ Below W.heap.size W w')) : Calls Tryz.prog 195 #[.string s] w (ScanPost (some (⟨v, ps, x⟩, n + (1 + k))) w) := by
  have hrf := hiD (ResF.start w)
  have hle : w.heap.size ≤ w.heap.size := Nat.le_refl _
  go_enter Tryz.func195, Tryz.ntmps195
  go_wp2_with fail
  refine (hcl _).out.mono ?_
  rintro e w1 ⟨rfl, rfl⟩
  go_wp2_with fail
  refine (hw _).out.mono ?_
  rintro e w3 ⟨hb3, b1, q, n1, k1, q2, m1, k2, p0, p1, p2, p3, p4, p5, p6, rfl, hval⟩
  obtain ⟨hR, hps⟩ := hval _ _ rfl
  have HR3 := hiD (hR.below (bea w3 (.cells #[.bool b1, .slice q n1 k1, .slice q2 m1 k2, .int .i64 p0, .int .i64 p1, .int .i64 p2, .int .i64 p3, .int .i64 p4, .int .i64 p5, .int .i64 p6, .int .i64 1] 157)))
  have Hps := hiD hps
  have hbx0 := hiD (heap_new w3 (.cells #[.bool b1, .slice q n1 k1, .slice q2 m1 k2, .int .i64 p0, .int .i64 p1, .int .i64 p2, .int .i64 p3, .int .i64 p4, .int .i64 p5, .int .i64 p6, .int .i64 1] 157))
  have hrf4 := hiD ((hrf.out.next hb3).next (bea w3 (.cells #[.bool b1, .slice q n1 k1, .slice q2 m1 k2, .int .i64 p0, .int .i64 p1, .int .i64 p2, .int .i64 p3, .int .i64 p4, .int .i64 p5, .int .i64 p6, .int .i64 1] 157)))
  have hlt3 : Hid (w.heap.size < w3.heap.size) := hiD (hrf.out.next hb3).lt
  go_wp2_with fail
  refine (hx _).out.mono ?_
  rintro e w4 ⟨rfl, hb4⟩
  have hbx := (hb4.block w3.heap.size (by simp)).trans hbx0.out
  have hn1 := noU_all (z0 := .bool b1) (z1 := .slice q n1 k1) (z2 := .slice q2 m1 k2) (z3 := .int .i64 p0) (z4 := .int .i64 p1) (z5 := .int .i64 p2) (z6 := .int .i64 p3) (z7 := .int .i64 p4) (z8 := .int .i64 p5) (z9 := .int .i64 p6) (z10 := .int .i64 1) ⟨nub _, nus _ _ _, nus _ _ _, nui _, nui _, nui _, nui _, nui _, nui _, nui _, nui _⟩
  have HR := hiD (rat_setU hbx hn1 (HR3.out.below hb4) 10 (.int .i64 x))
  have Hrf := hiD ((hrf4.out.next hb4).set_far w3.heap.size 10 (.int .i64 x) (Nat.le_of_lt hlt3.out) (Nat.ne_of_lt hlt3.out))
  have hbx5 : (w4.setCell ⟨w3.heap.size, 10, none⟩ (.int .i64 x)).heap[w3.heap.size]? = some (.cells #[.bool b1, .slice q n1 k1, .slice q2 m1 k2, .int .i64 p0, .int .i64 p1, .int .i64 p2, .int .i64 p3, .int .i64 p4, .int .i64 p5, .int .i64 p6, .int .i64 x] 157 (0, 0)) := heap_set w3.heap.size 10 _ 157 (.int .i64 x) hbx
  have e10 := ceh hbx 10
  have g10 := foh hbx 10
  have d0 := ceh hbx5 0
  have d1 := ceh hbx5 1
  have d2 := ceh hbx5 2
  have d3 := ceh hbx5 3
  have d4 := ceh hbx5 4
  have d5 := ceh hbx5 5
  have d6 := ceh hbx5 6
  have d7 := ceh hbx5 7
  have d8 := ceh hbx5 8
  have d9 := ceh hbx5 9
  have d10 := ceh hbx5 10
  obtain ⟨z0, z1, z2, z3, z4, z5, z6, z7, z8, z9, z10, ⟨l0, l1, l2, l3, l4, l5, l6, l7, l8, l9, l10⟩, ⟨f0, f1, f2, f3, f4, f5, f6, f7, f8, f9, f10⟩⟩ := Hrf.out.slots
  have hfin : Hid (∀ W, W = ((((((((((((w4.setCell ⟨w3.heap.size, 10, none⟩ (.int .i64 x)).setCell ⟨w.heap.size, 0, none⟩ (.bool b1)).setCell ⟨w.heap.size, 1, none⟩ (.slice q n1 k1)).setCell ⟨w.heap.size, 2, none⟩ (.slice q2 m1 k2)).setCell ⟨w.heap.size, 3, none⟩ (.int .i64 p0)).setCell ⟨w.heap.size, 4, none⟩ (.int .i64 p1)).setCell ⟨w.heap.size, 5, none⟩ (.int .i64 p2)).setCell ⟨w.heap.size, 6, none⟩ (.int .i64 p3)).setCell ⟨w.heap.size, 7, none⟩ (.int .i64 p4)).setCell ⟨w.heap.size, 8, none⟩ (.int .i64 p5)).setCell ⟨w.heap.size, 9, none⟩ (.int .i64 p6)).setCell ⟨w.heap.size, 10, none⟩ (.int .i64 x)) → ScanPost (some (⟨v, ps, x⟩, n + (1 + k))) w (.returned (.tuple #[.agg #[.bool b1, .slice q n1 k1, .slice q2 m1 k2, .int .i64 p0, .int .i64 p1, .int .i64 p2, .int .i64 p3, .int .i64 p4, .int .i64 p5, .int .i64 p6, .int .i64 x], .int .i64 (n + (1 + k))])) W) := hiD (by
    rintro W rfl
    refine ⟨(Hrf.out.put hle (.bool b1) (.slice q n1 k1) (.slice q2 m1 k2) (.int .i64 p0) (.int .i64 p1) (.int .i64 p2) (.int .i64 p3) (.int .i64 p4) (.int .i64 p5) (.int .i64 p6) (.int .i64 x) ⟨nub _, nus _ _ _, nus _ _ _, nui _, nui _, nui _, nui _, nui _, nui _, nui _, nui _⟩).1.below, _, _, _, _, _, _, _, _, _, _, _, _, _, _, _, rfl, ?_⟩
    rintro _ _ h
    cases h
    exact ⟨Hrf.out.rat HR.out (.bool b1) (.slice q n1 k1) (.slice q2 m1 k2) (.int .i64 p0) (.int .i64 p1) (.int .i64 p2) (.int .i64 p3) (.int .i64 p4) (.int .i64 p5) (.int .i64 p6) (.int .i64 x) ⟨nub _, nus _ _ _, nus _ _ _, nui _, nui _, nui _, nui _, nui _, nui _, nui _, nui _⟩, Hps.out, rfl⟩)
  clear hb3 hval hb4 hbx hbx5 hR hps hn1
  go_wp2_with fail
  have hcells := (Hrf.out.put hle (.bool b1) (.slice q n1 k1) (.slice q2 m1 k2) (.int .i64 p0) (.int .i64 p1) (.int .i64 p2) (.int .i64 p3) (.int .i64 p4) (.int .i64 p5) (.int .i64 p6) (.int .i64 x) ⟨nub _, nus _ _ _, nus _ _ _, nui _, nui _, nui _, nui _, nui _, nui _, nui _, nui _⟩).2
  generalize (((((((((((w4.setCell ⟨w3.heap.size, 10, none⟩ (.int .i64 x)).setCell ⟨w.heap.size, 0, none⟩ (.bool b1)).setCell ⟨w.heap.size, 1, none⟩ (.slice q n1 k1)).setCell ⟨w.heap.size, 2, none⟩ (.slice q2 m1 k2)).setCell ⟨w.heap.size, 3, none⟩ (.int .i64 p0)).setCell ⟨w.heap.size, 4, none⟩ (.int .i64 p1)).setCell ⟨w.heap.size, 5, none⟩ (.int .i64 p2)).setCell ⟨w.heap.size, 6, none⟩ (.int .i64 p3)).setCell ⟨w.heap.size, 7, none⟩ (.int .i64 p4)).setCell ⟨w.heap.size, 8, none⟩ (.int .i64 p5)).setCell ⟨w.heap.size, 9, none⟩ (.int .i64 p6)).setCell ⟨w.heap.size, 10, none⟩ (.int .i64 x) = WW at hcells hfin ⊢
  have c0 := ceh hcells 0
  have c1 := ceh hcells 1
  have c2 := ceh hcells 2
  have c3 := ceh hcells 3
  have c4 := ceh hcells 4
  have c5 := ceh hcells 5
  have c6 := ceh hcells 6
  have c7 := ceh hcells 7
  have c8 := ceh hcells 8
  have c9 := ceh hcells 9
  have c10 := ceh hcells 10
  refine bodyPost_ret (v := .tuple #[.agg #[.bool b1, .slice q n1 k1, .slice q2 m1 k2, .int .i64 p0, .int .i64 p1, .int .i64 p2, .int .i64 p3, .int .i64 p4, .int .i64 p5, .int .i64 p6, .int .i64 x], .int .i64 (n + (1 + k))]) (by simp [results, Tryz.results195, go_sem, c0, c1, c2, c3, c4, c5, c6, c7, c8, c9, c10]) rfl ?_
  exact hfin.out _ rfl
theorem extract_take (s : ByteArray) (n : Nat) (_h : n ≤ s.size) : (s.extract 0 n).data.toList = s.data.toList.take n := by
  simp
theorem extract_drop (s : ByteArray) (n : Nat) : (s.extract n s.size).data.toList = s.data.toList.drop n := by
  rw [Lib.extract_to_end]
theorem cntL_le (l : List UInt8) : cntL l ≤ l.length := by
  unfold cntL
  exact (List.takeWhile_sublist _).length_le
theorem symbolT_other {l : List UInt8} {v : Rat} {ps : List Int} (hw : wordT (l.take (cntL l)) = some (v, ps)) (h : ∀ t, l.drop (cntL l) ≠ 94 :: t) : symbolT l = some (⟨v, ps, 1⟩, cntL l) := by
  unfold symbolT
  rw [hw]
  cases hd : l.drop (cntL l) with
  | nil => rfl
  | cons c t =>
    by_cases hc : c = 94
    · subst hc; exact absurd hd (h t)
    · simp only
      split
      · rename_i h2; simp only [List.cons.injEq] at h2; exact absurd h2.1 hc
      · rfl
theorem symbolT_pow {l t : List UInt8} {v : Rat} {ps : List Int} (hw : wordT (l.take (cntL l)) = some (v, ps)) (h : l.drop (cntL l) = 94 :: t) : symbolT l = if (expoT t).2 = 0 then none else some (⟨v, ps, (expoT t).1⟩, cntL l + 1 + (expoT t).2) := by
  unfold symbolT
  rw [hw]
  simp only [h]
theorem expoT_le (l : List UInt8) : (expoT l).2 ≤ l.length := by
  unfold expoT
  split
  · rename_i t
    have := cntD_le t
    split <;> simp <;> omega
  · have := cntD_le l
    split <;> simp <;> omega
theorem expoT_zero {l : List UInt8} (h : (expoT l).2 = 0) : (expoT l).1 = 0 := by
  cases l with
  | nil => rfl
  | cons c t =>
    by_cases hc : c = 45
    · subst hc
      have e : expoT (45 :: t) = if cntD t = 0 then (0, 0) else (-satT (t.take (cntD t)), 1 + cntD t) := rfl
      rw [e] at h ⊢
      by_cases h0 : cntD t = 0
      · rw [if_pos h0]
      · rw [if_neg h0] at h; simp at h
    · rw [expoT_other hc] at h ⊢
      by_cases h0 : cntD (c :: t) = 0
      · rw [if_pos h0]
      · rw [if_neg h0] at h; exact absurd h h0
theorem scanSymbol_any (s : ByteArray) (w : World) (hmax : s.size ≤ 90000) : Calls Tryz.prog 195 #[.string s] w (ScanPost (symbolT s.data.toList) w) := by
  have hlen : s.data.toList.length = s.size := by simp
  have hcl : ∀ W, Hid (Calls Tryz.prog 228 #[.string s] W fun e w' => e = .returned (.int .i64 (cntL s.data.toList)) ∧ W = w') := fun W => hiD (countLetters_any s W (by omega))
  have hn : cntL s.data.toList ≤ s.size := by have := cntL_le s.data.toList; omega
  have hw : ∀ W, Calls Tryz.prog 229 #[.string (s.extract 0 (cntL s.data.toList))] W (WordPost (wordT (s.data.toList.take (cntL s.data.toList))) W) := fun W => by
    rw [← extract_take s _ hn]
    exact findWord_any _ W (by simp; omega)
  cases hwt : wordT (s.data.toList.take (cntL s.data.toList)) with
  | none =>
    rw [hwt] at hw
    have : symbolT s.data.toList = none := by unfold symbolT; rw [hwt]
    rw [this]
    exact scanSym_none s _ w hn (by omega) hcl fun W => hiD (hw W)
  | some x =>
    obtain ⟨v, ps⟩ := x
    rw [hwt] at hw
    by_cases hlt : cntL s.data.toList < s.size
    · have hdrop : s.data.toList.drop (cntL s.data.toList) = s[cntL s.data.toList]'hlt :: s.data.toList.drop (cntL s.data.toList + 1) := by
        rw [List.drop_eq_getElem_cons (by omega)]; rfl
      by_cases hc : (((s[cntL s.data.toList]'hlt).toNat : Int) == 94) = true
      · have hc' : s[cntL s.data.toList]'hlt = 94 := by
          rw [beq_iff_eq] at hc
          apply UInt8.toNat_inj.1; have : ((94 : UInt8)).toNat = 94 := rfl; omega
        rw [hc'] at hdrop
        rw [symbolT_pow hwt hdrop]
        have hx : ∀ W, Calls Tryz.prog 230 #[.string (s.extract (cntL s.data.toList + 1) s.size)] W fun e w' => e = .returned (.tuple #[.int .i64 (expoT (s.data.toList.drop (cntL s.data.toList + 1))).1, .int .i64 ((expoT (s.data.toList.drop (cntL s.data.toList + 1))).2 : Nat)]) ∧ Below W.heap.size W w' := fun W => by
          rw [← extract_drop]
          exact scanExponent_any _ W (by simp; omega)
        have hle := expoT_le (s.data.toList.drop (cntL s.data.toList + 1))
        rw [List.length_drop] at hle
        by_cases h0 : (expoT (s.data.toList.drop (cntL s.data.toList + 1))).2 = 0
        · rw [if_pos h0]
          have h00 : (expoT (s.data.toList.drop (cntL s.data.toList + 1))).1 = 0 := expoT_zero h0
          rw [h0, h00] at hx
          exact scanSym_bad s _ v ps w hn (by omega) hlt hc hcl (fun W => hiD (hw W)) fun W => hiD (hx W)
        · rw [if_neg h0, Nat.add_assoc]
          exact scanSym_pow s _ _ _ v ps w hn (by omega) hlt hc (by omega) (by omega) (by rw [beq_eq_false_iff_ne]; omega) hcl (fun W => hiD (hw W)) fun W => hiD (hx W)
      · rw [Bool.not_eq_true] at hc
        rw [symbolT_other hwt (by
          intro t ht
          rw [hdrop] at ht
          simp only [List.cons.injEq] at ht
          rw [ht.1] at hc
          revert hc; decide)]
        exact scanSym_other s _ v ps w hn (by omega) hlt hc hcl fun W => hiD (hw W)
    · rw [symbolT_other hwt (by
        intro t ht
        have := congrArg List.length ht
        rw [List.length_drop, List.length_cons] at this
        omega)]
      exact scanSym_end s _ v ps w hn (by omega) (by omega) hcl fun W => hiD (hw W)
theorem readAbs_ltK {l : List UInt8} {n d L K : Nat} (h : readAbs l = some (n, d)) (hl : l.length ≤ L) (hK : 10 ^ L < B64 ^ K) : n < B64 ^ K ∧ d < B64 ^ K := by
  have hdv : ∀ m : List UInt8, allDig m = true → m.length ≤ L → dval m < B64 ^ K := fun m hm hlm => by
    have h1 := dval_lt m (allDig_all hm)
    have h2 : 10 ^ m.length ≤ 10 ^ L := Nat.pow_le_pow_right (by omega) hlm
    omega
  have h1 : 1 < B64 ^ K := by
    have : 10 ^ 0 ≤ 10 ^ L := Nat.pow_le_pow_right (by omega) (Nat.zero_le _)
    rw [Nat.pow_zero] at this; omega
  unfold readAbs at h
  obtain ⟨k1, k2, k3⟩ := cut_len l 46
  obtain ⟨m1, m2, m3⟩ := cut_len l 47
  split at h
  · split at h
    · rename_i hd
      rw [Bool.and_eq_true] at hd
      simp only [Option.some.injEq, Prod.mk.injEq] at h
      obtain ⟨rfl, rfl⟩ := h
      have e1 : allDig ((Lib.cut l [46]).1 ++ (Lib.cut l [46]).2.1) = true := by
        unfold allDig
        rw [List.all_append, allDig_all hd.1, allDig_all hd.2]
        have := hd.1
        unfold allDig at this
        simp at this ⊢
        intro h; exact absurd h this.2
      refine ⟨hdv _ e1 (by rw [List.length_append]; omega), ?_⟩
      have : 10 ^ (Lib.cut l [46]).2.1.length ≤ 10 ^ L := Nat.pow_le_pow_right (by omega) (by omega)
      omega
    · cases h
  · split at h
    · split at h
      · rename_i hd
        rw [Bool.and_eq_true, Bool.and_eq_true] at hd
        simp only [Option.some.injEq, Prod.mk.injEq] at h
        obtain ⟨rfl, rfl⟩ := h
        exact ⟨hdv _ hd.1.1 (by omega), hdv _ hd.1.2 (by omega)⟩
      · cases h
    · split at h
      · rename_i hd
        simp only [Option.some.injEq, Prod.mk.injEq] at h
        obtain ⟨rfl, rfl⟩ := h
        exact ⟨hdv _ hd hl, h1⟩
      · cases h
theorem readL_pos {l : List UInt8} {s : Bool} {n d : Nat} (h : readL l = some (s, n, d)) : 0 < d := by
  unfold readL at h
  rw [Option.map_eq_some_iff] at h
  obtain ⟨⟨a, b⟩, h1, h2⟩ := h
  cases h2
  exact readAbs_pos h1
theorem readL_ltK {l : List UInt8} {s : Bool} {n d L K : Nat} (h : readL l = some (s, n, d)) (hl : l.length ≤ L) (hK : 10 ^ L < B64 ^ K) : n < B64 ^ K ∧ d < B64 ^ K := by
  unfold readL at h
  rw [Option.map_eq_some_iff] at h
  obtain ⟨⟨n', d'⟩, h1, h2⟩ := h
  cases h2
  exact readAbs_ltK h1 (Nat.le_trans (trim_len l) hl) hK
theorem big_pow {L K : Nat} (h : L < 19 * K) : 10 ^ L < B64 ^ K := by
  have h1 : 10 ^ L < 10 ^ (19 * K) := Nat.pow_lt_pow_right (by omega) h
  have h2 : (10 ^ 19) ^ K ≤ B64 ^ K := Nat.pow_le_pow_left (by rw [B64_eq]; decide) _
  rw [Nat.pow_mul] at h1
  exact Nat.lt_of_lt_of_le h1 h2
theorem readL_lt1000 {l : List UInt8} {s : Bool} {n d L : Nat} (h : readL l = some (s, n, d)) (hl : l.length ≤ L) (hL : L < 1140) : n < B64 ^ 60 ∧ d < B64 ^ 60 :=
  readL_ltK h hl (big_pow (by omega))
def PairPost (r : List UInt8 × Int) (w : World) (e : Ending) (w' : World) : Prop := e = .returned (.tuple #[.string ⟨r.1.toArray⟩, .int .i64 r.2]) ∧ Below w.heap.size w w'
theorem qparse_long (s : ByteArray) (w : World) (h : (1000 : Int) < s.size) : Calls Tryz.prog 15 #[.string s] w (PairPost ([], 4) w) := by
  go_enter Tryz.func15, Tryz.ntmps15
  go_wp2_with fail
  go_ret2
  exact ⟨rfl, Below.refl _ _⟩
theorem qparse_none (s : ByteArray) (w : World) (h : (s.size : Int) ≤ 1000) (hr : ∀ W, Hid (Calls Tryz.prog 63 #[.string s] W (ReadPost none W))) : Calls Tryz.prog 15 #[.string s] w (PairPost ([], 1) w) := by
  go_enter Tryz.func15, Tryz.ntmps15
  go_wp2_with fail
  refine (hr _).out.mono ?_
  rintro e w2 ⟨hb2, rfl⟩
  have hbw := hiD (hb2.trans ((bea w2 (.cells #[.bool false, .slice none 0 0, .slice none 0 0] 66)).mono hb2.size))
  clear hb2
  go_wp2_with fail
  go_ret2
  exact ⟨rfl, hbw.out⟩
theorem qparse_far (s : ByteArray) (q : Rat) (w : World) (h : (s.size : Int) ≤ 1000) (hr : ∀ W, Hid (Calls Tryz.prog 63 #[.string s] W fun e w' => Below W.heap.size W w' ∧ ∃ b p n c r m d, e = .returned (.tuple #[.agg #[.bool b, .slice p n c, .slice r m d], .bool true]) ∧ RatIs w' (.agg #[.bool b, .slice p n c, .slice r m d]) q 60))
    (ht : ∀ W x, Below w.heap.size w W → RatIs W x q 60 → Hid (Calls Tryz.prog 64 #[x] W fun e w' => e = .returned (.string ⟨#[]⟩) ∧ Below W.heap.size W w')) : Calls Tryz.prog 15 #[.string s] w (PairPost ([], 4) w) := by
  go_enter Tryz.func15, Tryz.ntmps15
  go_wp2_with fail
  refine (hr _).out.mono ?_
  rintro e w2 ⟨hb2, b, p, n, c, r, m, d, rfl, hR⟩
  have hbw := hiD (hb2.trans ((bea w2 (.cells #[.bool b, .slice p n c, .slice r m d] 66)).mono hb2.size))
  have ht2 := ht _ _ hbw.out (hR.below (bea w2 (.cells #[.bool b, .slice p n c, .slice r m d] 66)))
  clear hb2 hR ht
  go_wp2_with fail
  refine ht2.out.mono ?_
  rintro e w3 ⟨rfl, hb3⟩
  have hbw3 := hiD (hbw.out.trans (hb3.mono hbw.out.size))
  clear hb3
  go_wp2_with fail
  go_ret2
  exact ⟨rfl, hbw3.out⟩
theorem qparse_ok (s : ByteArray) (q : Rat) (l : List UInt8) (w : World) (h : (s.size : Int) ≤ 1000) (_hl : ¬ l = []) (hl2 : l.isEmpty = false) (hr : ∀ W, Hid (Calls Tryz.prog 63 #[.string s] W fun e w' => Below W.heap.size W w' ∧ ∃ b p n c r m d, e = .returned (.tuple #[.agg #[.bool b, .slice p n c, .slice r m d], .bool true]) ∧ RatIs w' (.agg #[.bool b, .slice p n c, .slice r m d]) q 60))
    (ht : ∀ W x, Below w.heap.size w W → RatIs W x q 60 → Hid (Calls Tryz.prog 64 #[x] W fun e w' => e = .returned (.string ⟨l.toArray⟩) ∧ Below W.heap.size W w')) : Calls Tryz.prog 15 #[.string s] w (PairPost (l, 0) w) := by
  go_enter Tryz.func15, Tryz.ntmps15
  go_wp2_with fail
  refine (hr _).out.mono ?_
  rintro e w2 ⟨hb2, b, p, n, c, r, m, d, rfl, hR⟩
  have hbw := hiD (hb2.trans ((bea w2 (.cells #[.bool b, .slice p n c, .slice r m d] 66)).mono hb2.size))
  have ht2 := ht _ _ hbw.out (hR.below (bea w2 (.cells #[.bool b, .slice p n c, .slice r m d] 66)))
  clear hb2 hR ht
  go_wp2_with fail
  refine ht2.out.mono ?_
  rintro e w3 ⟨rfl, hb3⟩
  have hbw3 := hiD (hbw.out.trans (hb3.mono hbw.out.size))
  clear hb3
  go_wp2_with fail
  go_ret2
  exact ⟨rfl, hbw3.out⟩
theorem qparse_any (s : ByteArray) (w : World) (htab : Tab w) : Calls Tryz.prog 15 #[.string s] w (PairPost (parseT s.data.toList) w) := by
  have hlen : s.data.toList.length = s.size := by simp
  unfold parseT
  by_cases h : 1000 < s.size
  · rw [if_pos (by omega)]
    exact qparse_long s w (by omega)
  · rw [if_neg (by omega)]
    have hrd : ∀ W, Calls Tryz.prog 63 #[.string s] W (ReadPost (readL s.data.toList) W) := fun W => read_any s W (by omega)
    cases hr : readL s.data.toList with
    | none =>
      rw [hr] at hrd
      exact qparse_none s w (by omega) fun W => hiD (hrd W)
    | some x =>
      obtain ⟨sg, n, d⟩ := x
      rw [hr] at hrd
      simp only
      have hb := readL_lt1000 hr (Nat.le_refl _) (by omega)
      have hp := readL_pos hr
      have hr2 : ∀ W, Hid (Calls Tryz.prog 63 #[.string s] W fun e w' => Below W.heap.size W w' ∧ ∃ b p n1 c r m d1, e = .returned (.tuple #[.agg #[.bool b, .slice p n1 c, .slice r m d1], .bool true]) ∧ RatIs w' (.agg #[.bool b, .slice p n1 c, .slice r m d1]) (ratv sg n d) 60) := fun W => hiD ((hrd W).mono fun e w' h => ⟨h.1, by
        have h2 := h.2
        obtain ⟨x, rfl, u, v, rfl, hu, hv, hs⟩ := h2
        obtain ⟨p, n1, c, rfl⟩ := hu.slice
        obtain ⟨q, m1, d1, rfl⟩ := hv.slice
        exact ⟨_, _, _, _, _, _, _, rfl, _, _, _, ⟨_, _, rfl, hu, hv, hs⟩, by rw [ratv_drop], hp, hb.1, hb.2⟩⟩)
      have ht : ∀ W x, Below w.heap.size w W → RatIs W x (ratv sg n d) 60 → Calls Tryz.prog 64 #[x] W fun e w' => e = .returned (.string ⟨(txt (ratv sg n d)).toArray⟩) ∧ Below W.heap.size W w' := fun W x hW hx => qtext_is x _ 60 W (by omega) hx (htab.below hW)
      by_cases hq : txt (ratv sg n d) = []
      · rw [if_pos hq]
        rw [hq] at ht
        exact qparse_far s _ w (by omega) hr2 fun W x hW hx => hiD (ht W x hW hx)
      · rw [if_neg hq]
        exact qparse_ok s _ _ w (by omega) hq (by simpa using hq) hr2 fun W x hW hx => hiD (ht W x hW hx)
end Go.Proofs.YtoegbjmoecbjdaaGreatDoor
