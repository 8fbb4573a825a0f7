/- Texts of units: scanNumber at every text; scanFactor. A slice of factors of the call's own: a row without limbs, appended to. Texts of units: scanFactors, what its rounds keep. Texts of units: scanFactors. -/
import Derived.Test.YtoegbjmoecbjdaaGreatDoorPart16
set_option maxHeartbeats 1600000
set_option maxRecDepth 100000
namespace Go.Proofs.YtoegbjmoecbjdaaGreatDoor
open Go.RowKit Go.Lib Big
theorem num_read {x : List UInt8} {q : Rat} (h : num x = some q) : x.length ≤ 90 ∧ ∃ sg n d, readL x = some (sg, n, d) := by
  unfold num at h
  rw [Option.map_eq_some_iff] at h
  obtain ⟨⟨s, n, d⟩, h1, -⟩ := h
  unfold readQ at h1
  split at h1
  · cases h1
  · rename_i hl
    refine ⟨by omega, ?_⟩
    split at h1
    · rename_i s0 n0 d0 hr; exact ⟨s0, n0, d0, hr⟩
    · cases h1
theorem parseT_num {l : List UInt8} (h : (parseT l).2 = 0) : ∃ q, num (parseT l).1 = some q := by
  unfold parseT at h ⊢
  split
  · rename_i hl; rw [if_pos hl] at h; cases h
  · rename_i hl
    rw [if_neg hl] at h
    split
    · rename_i s n d hr
      rw [hr] at h
      simp only at h
      by_cases hq : txt (ratv s n d) = []
      · rw [if_pos hq] at h; cases h
      · rw [if_neg hq]; exact ⟨_, num_txt hq⟩
    · rename_i hr; rw [hr] at h; cases h
theorem numberT_no {l : List UInt8} (h : ¬ ((parseT (l.take (lenT l))).2 = 0 ∧ (parseT (l.take (lenT l))).1 ≠ [48])) : numberT l = none := by unfold numberT; rw [if_neg h]
theorem numberT_yes {l : List UInt8} (h : (parseT (l.take (lenT l))).2 = 0 ∧ (parseT (l.take (lenT l))).1 ≠ [48]) : numberT l = some (⟨readR (parseT (l.take (lenT l))).1, noPs, 1⟩, lenT l) := by unfold numberT; rw [if_pos h]
theorem scanNumber_any (s : ByteArray) (w : World) (hmax : s.size ≤ 90000) (htab : Tab w) : Calls Tryz.prog 194 #[.string s] w (ScanPost (numberT s.data.toList) w) := by
  have hlen : s.data.toList.length = s.size := by simp
  have hn : cntD s.data.toList ≤ s.size := by have := cntD_le s.data.toList; omega
  have hcd : ∀ W, Hid (Calls Tryz.prog 193 #[.string s] W fun e w' => e = .returned (.int .i64 (cntD s.data.toList)) ∧ W = w') := fun W => hiD (countDigits_any s W (by omega))
  have hpa : ∀ m, m ≤ s.size → ∀ W, Below w.heap.size w W → Calls Tryz.prog 15 #[.string (s.extract 0 m)] W (PairPost (parseT (s.data.toList.take m)) W) := fun m hm W hW => by
    rw [← extract_take s m hm]
    exact qparse_any _ W (htab.below hW)
  have hmo : ∀ W, Calls Tryz.prog 193 #[.string (s.extract (cntD s.data.toList + 1) s.size)] W fun e w' => e = .returned (.int .i64 (cntD (s.data.toList.drop (cntD s.data.toList + 1)))) ∧ W = w' := fun W => by
    rw [← extract_drop]
    exact countDigits_any _ W (by simp; omega)
  -- the three ends, for each of the ways to the length
  have fin : ∀ m, lenT s.data.toList = m → m ≤ s.size →
      (∀ (x : List UInt8) (er : Int), (er != 0) = true → (∀ W, Below w.heap.size w W → Hid (Calls Tryz.prog 15 #[.string (s.extract 0 m)] W (PairPost (x, er) W))) → Calls Tryz.prog 194 #[.string s] w (ScanPost none w)) →
      ((∀ W, Below w.heap.size w W → Hid (Calls Tryz.prog 15 #[.string (s.extract 0 m)] W (PairPost ([48], 0) W))) → Calls Tryz.prog 194 #[.string s] w (ScanPost none w)) →
      (∀ (x : List UInt8) (r : Rat), (x == [48]) = false → ¬ x = [48] → (∀ W, Hid (Calls Tryz.prog 227 #[.string ⟨x.toArray⟩] W (IsPost r 20 W))) → (∀ W, Below w.heap.size w W → Hid (Calls Tryz.prog 15 #[.string (s.extract 0 m)] W (PairPost (x, 0) W))) → Calls Tryz.prog 194 #[.string s] w (ScanPost (some (⟨r, noPs, 1⟩, m)) w)) →
      Calls Tryz.prog 194 #[.string s] w (ScanPost (numberT s.data.toList) w) := by
    intro m hm hms f1 f2 f3
    have hp := hpa m hms
    by_cases he : (parseT (s.data.toList.take m)).2 = 0
    · by_cases h0 : (parseT (s.data.toList.take m)).1 = [48]
      · rw [numberT_no (by rw [hm]; rintro ⟨-, h⟩; exact h h0)]
        have e : parseT (s.data.toList.take m) = ([48], 0) := Prod.ext h0 he
        rw [e] at hp
        exact f2 fun W hW => hiD (hp W hW)
      · rw [numberT_yes (by rw [hm]; exact ⟨he, h0⟩), hm]
        obtain ⟨q, hq⟩ := parseT_num he
        obtain ⟨k1, sg, a, b, k2⟩ := num_read hq
        have e : parseT (s.data.toList.take m) = ((parseT (s.data.toList.take m)).1, 0) := Prod.ext rfl he
        rw [e] at hp
        exact f3 _ _ (beq_eq_false_iff_ne.2 h0) h0 (fun W => hiD (known_any ⟨(parseT (s.data.toList.take m)).1.toArray⟩ sg a b W (by rw [size_toArray]; exact k1) k2)) fun W hW => hiD (hp W hW)
    · rw [numberT_no (by rw [hm]; rintro ⟨h, -⟩; exact he h)]
      exact f1 _ _ (by rw [bne_iff_ne]; exact he) fun W hW => hiD (hp W hW)
  by_cases hlt : cntD s.data.toList < s.size
  · have hdrop : s.data.toList.drop (cntD s.data.toList) = s[cntD s.data.toList]'hlt :: s.data.toList.drop (cntD s.data.toList + 1) := by
      rw [List.drop_eq_getElem_cons (by omega)]; rfl
    have hl : lenT s.data.toList = if ((s[cntD s.data.toList]'hlt) == 46 || (s[cntD s.data.toList]'hlt) == 47) && decide (0 < cntD (s.data.toList.drop (cntD s.data.toList + 1))) then cntD s.data.toList + 1 + cntD (s.data.toList.drop (cntD s.data.toList + 1)) else cntD s.data.toList := by
      unfold lenT; rw [hdrop]
    have hb : ∀ c : UInt8, ((s[cntD s.data.toList]'hlt) == c) = (((s[cntD s.data.toList]'hlt).toNat : Int) == (c.toNat : Int)) := fun c => by
      rw [Bool.eq_iff_iff, beq_iff_eq, beq_iff_eq]
      constructor
      · intro h; rw [h]
      · intro h; apply UInt8.toNat_inj.1; omega
    have hb46 : ((s[cntD s.data.toList]'hlt) == 46) = (((s[cntD s.data.toList]'hlt).toNat : Int) == 46) := hb 46
    have hb47 : ((s[cntD s.data.toList]'hlt) == 47) = (((s[cntD s.data.toList]'hlt).toNat : Int) == 47) := hb 47
    rw [hb46, hb47] at hl
    have hle := cntD_le (s.data.toList.drop (cntD s.data.toList + 1))
    rw [List.length_drop] at hle
    by_cases h46 : (((s[cntD s.data.toList]'hlt).toNat : Int) == 46) = true
    · by_cases h0 : cntD (s.data.toList.drop (cntD s.data.toList + 1)) = 0
      · rw [h46, h0] at hl
        rw [h0] at hmo
        refine fin _ (by rw [hl]; rfl) hn (fun x er h1 h2 => ?_) (fun h2 => ?_) fun x r h1 h2 h3 h4 => ?_
        · exact num_err_dot0 s _ x er h1 w hn (by omega) hlt h46 (fun W => hiD (hmo W)) hcd h2
        · exact num_zero_dot0 s _ w hn (by omega) hlt h46 (fun W => hiD (hmo W)) hcd h2
        · exact num_ok_dot0 s _ x r h1 h2 h3 w hn (by omega) hlt h46 (fun W => hiD (hmo W)) hcd h4
      · rw [h46, decide_eq_true (Nat.pos_of_ne_zero h0)] at hl
        refine fin (cntD s.data.toList + (1 + cntD (s.data.toList.drop (cntD s.data.toList + 1)))) (by rw [hl, ← Nat.add_assoc]; rfl) (by omega) (fun x er h1 h2 => ?_) (fun h2 => ?_) fun x r h1 h2 h3 h4 => ?_
        · exact num_err_dot s _ x er h1 w hn (by omega) _ hlt h46 (by omega) (by omega) (fun W => hiD (hmo W)) hcd h2
        · exact num_zero_dot s _ w hn (by omega) _ hlt h46 (by omega) (by omega) (fun W => hiD (hmo W)) hcd h2
        · exact num_ok_dot s _ x r h1 h2 h3 w hn (by omega) _ hlt h46 (by omega) (by omega) (fun W => hiD (hmo W)) hcd h4
    · rw [Bool.not_eq_true] at h46
      by_cases h47 : (((s[cntD s.data.toList]'hlt).toNat : Int) == 47) = true
      · by_cases h0 : cntD (s.data.toList.drop (cntD s.data.toList + 1)) = 0
        · rw [h46, h47, h0] at hl
          rw [h0] at hmo
          refine fin _ (by rw [hl]; rfl) hn (fun x er h1 h2 => ?_) (fun h2 => ?_) fun x r h1 h2 h3 h4 => ?_
          · exact num_err_sla0 s _ x er h1 w hn (by omega) hlt h46 h47 (fun W => hiD (hmo W)) hcd h2
          · exact num_zero_sla0 s _ w hn (by omega) hlt h46 h47 (fun W => hiD (hmo W)) hcd h2
          · exact num_ok_sla0 s _ x r h1 h2 h3 w hn (by omega) hlt h46 h47 (fun W => hiD (hmo W)) hcd h4
        · rw [h46, h47, decide_eq_true (Nat.pos_of_ne_zero h0)] at hl
          refine fin (cntD s.data.toList + (1 + cntD (s.data.toList.drop (cntD s.data.toList + 1)))) (by rw [hl, ← Nat.add_assoc]; rfl) (by omega) (fun x er h1 h2 => ?_) (fun h2 => ?_) fun x r h1 h2 h3 h4 => ?_
          · exact num_err_sla s _ x er h1 w hn (by omega) _ hlt h46 h47 (by omega) (by omega) (fun W => hiD (hmo W)) hcd h2
          · exact num_zero_sla s _ w hn (by omega) _ hlt h46 h47 (by omega) (by omega) (fun W => hiD (hmo W)) hcd h2
          · exact num_ok_sla s _ x r h1 h2 h3 w hn (by omega) _ hlt h46 h47 (by omega) (by omega) (fun W => hiD (hmo W)) hcd h4
      · rw [Bool.not_eq_true] at h47
        rw [h46, h47] at hl
        refine fin _ (by rw [hl]; rfl) hn (fun x er h1 h2 => ?_) (fun h2 => ?_) fun x r h1 h2 h3 h4 => ?_
        · exact num_err_oth s _ x er h1 w hn (by omega) hlt h46 h47 hcd h2
        · exact num_zero_oth s _ w hn (by omega) hlt h46 h47 hcd h2
        · exact num_ok_oth s _ x r h1 h2 h3 w hn (by omega) hlt h46 h47 hcd h4
  · have hl : lenT s.data.toList = cntD s.data.toList := by
      unfold lenT
      rw [List.drop_eq_nil_of_le (by omega)]
    refine fin _ hl hn (fun x er h1 h2 => ?_) (fun h2 => ?_) fun x r h1 h2 h3 h4 => ?_
    · exact num_err_end s _ x er h1 w hn (by omega) (by omega) hcd h2
    · exact num_zero_end s _ w hn (by omega) (by omega) hcd h2
    · exact num_ok_end s _ x r h1 h2 h3 w hn (by omega) (by omega) hcd h4
theorem scanF_num (s : ByteArray) (D : Nat) (o : Option (FacT × Nat)) (w : World) (hD : 0 < D) (hcd : ∀ W, Hid (Calls Tryz.prog 193 #[.string s] W fun e w' => e = .returned (.int .i64 D) ∧ W = w')) (hs : ∀ W, Below w.heap.size w W → Hid (Calls Tryz.prog 194 #[.string s] W (ScanPost o W))) : Calls Tryz.prog 162 #[.string s] w (ScanPost o w) := by
  have hrf := hiD (ResF.start w)
  have hle : w.heap.size ≤ w.heap.size := Nat.le_refl _
  have hs2 := hs _ hrf.out.below
  obtain ⟨kk, hkk⟩ : ∃ kk : Nat, Hid (scanLen o = kk) := ⟨_, hiD rfl⟩
  clear hs
  go_enter Tryz.func162, Tryz.ntmps162
  go_wp2_with fail
  refine (hcd _).out.mono ?_
  rintro e w1 ⟨rfl, rfl⟩
  go_wp2_with fail
  refine hs2.out.mono ?_
  rintro e w3 ⟨hb3, b1, q, n1, k1, q2, m1, k2, p0, p1, p2, p3, p4, p5, p6, x, rfl, hval⟩
  rw [hkk.out]
  have Hval := hiD hval
  have Hrf := hiD (hrf.out.next hb3)
  obtain ⟨z0, z1, z2, z3, z4, z5, z6, z7, z8, z9, z10, ⟨l0, l1, l2, l3, l4, l5, l6, l7, l8, l9, l10⟩, ⟨f0, f1, f2, f3, f4, f5, f6, f7, f8, f9, f10⟩⟩ := Hrf.out.slots
  have hfin : Hid (∀ W, W = ((((((((((((w3).setCell ⟨w.heap.size, 0, none⟩ (.bool b1)).setCell ⟨w.heap.size, 1, none⟩ (.slice q n1 k1)).setCell ⟨w.heap.size, 2, none⟩ (.slice q2 m1 k2)).setCell ⟨w.heap.size, 3, none⟩ (.int .i64 p0)).setCell ⟨w.heap.size, 4, none⟩ (.int .i64 p1)).setCell ⟨w.heap.size, 5, none⟩ (.int .i64 p2)).setCell ⟨w.heap.size, 6, none⟩ (.int .i64 p3)).setCell ⟨w.heap.size, 7, none⟩ (.int .i64 p4)).setCell ⟨w.heap.size, 8, none⟩ (.int .i64 p5)).setCell ⟨w.heap.size, 9, none⟩ (.int .i64 p6)).setCell ⟨w.heap.size, 10, none⟩ (.int .i64 x)) → ScanPost o w (.returned (.tuple #[.agg #[.bool b1, .slice q n1 k1, .slice q2 m1 k2, .int .i64 p0, .int .i64 p1, .int .i64 p2, .int .i64 p3, .int .i64 p4, .int .i64 p5, .int .i64 p6, .int .i64 x], .int .i64 kk])) W) := hiD (by
    rintro W rfl
    refine ⟨(Hrf.out.put hle (.bool b1) (.slice q n1 k1) (.slice q2 m1 k2) (.int .i64 p0) (.int .i64 p1) (.int .i64 p2) (.int .i64 p3) (.int .i64 p4) (.int .i64 p5) (.int .i64 p6) (.int .i64 x) ⟨nub _, nus _ _ _, nus _ _ _, nui _, nui _, nui _, nui _, nui _, nui _, nui _, nui _⟩).1.below, _, _, _, _, _, _, _, _, _, _, _, _, _, _, _, by rw [hkk.out], ?_⟩
    intro f k h
    obtain ⟨h1, h2, h3⟩ := Hval.out f k h
    exact ⟨Hrf.out.rat h1 (.bool b1) (.slice q n1 k1) (.slice q2 m1 k2) (.int .i64 p0) (.int .i64 p1) (.int .i64 p2) (.int .i64 p3) (.int .i64 p4) (.int .i64 p5) (.int .i64 p6) (.int .i64 x) ⟨nub _, nus _ _ _, nus _ _ _, nui _, nui _, nui _, nui _, nui _, nui _, nui _, nui _⟩, h2, h3⟩)
  clear hb3 hval
  go_wp2_with fail
  have hcells := (Hrf.out.put hle (.bool b1) (.slice q n1 k1) (.slice q2 m1 k2) (.int .i64 p0) (.int .i64 p1) (.int .i64 p2) (.int .i64 p3) (.int .i64 p4) (.int .i64 p5) (.int .i64 p6) (.int .i64 x) ⟨nub _, nus _ _ _, nus _ _ _, nui _, nui _, nui _, nui _, nui _, nui _, nui _, nui _⟩).2
  generalize (((((((((((w3).setCell ⟨w.heap.size, 0, none⟩ (.bool b1)).setCell ⟨w.heap.size, 1, none⟩ (.slice q n1 k1)).setCell ⟨w.heap.size, 2, none⟩ (.slice q2 m1 k2)).setCell ⟨w.heap.size, 3, none⟩ (.int .i64 p0)).setCell ⟨w.heap.size, 4, none⟩ (.int .i64 p1)).setCell ⟨w.heap.size, 5, none⟩ (.int .i64 p2)).setCell ⟨w.heap.size, 6, none⟩ (.int .i64 p3)).setCell ⟨w.heap.size, 7, none⟩ (.int .i64 p4)).setCell ⟨w.heap.size, 8, none⟩ (.int .i64 p5)).setCell ⟨w.heap.size, 9, none⟩ (.int .i64 p6)).setCell ⟨w.heap.size, 10, none⟩ (.int .i64 x) = WW at hcells hfin ⊢
  have c0 := ceh hcells 0
  have c1 := ceh hcells 1
  have c2 := ceh hcells 2
  have c3 := ceh hcells 3
  have c4 := ceh hcells 4
  have c5 := ceh hcells 5
  have c6 := ceh hcells 6
  have c7 := ceh hcells 7
  have c8 := ceh hcells 8
  have c9 := ceh hcells 9
  have c10 := ceh hcells 10
  refine bodyPost_ret (v := .tuple #[.agg #[.bool b1, .slice q n1 k1, .slice q2 m1 k2, .int .i64 p0, .int .i64 p1, .int .i64 p2, .int .i64 p3, .int .i64 p4, .int .i64 p5, .int .i64 p6, .int .i64 x], .int .i64 kk]) (by simp [results, Tryz.results162, go_sem, c0, c1, c2, c3, c4, c5, c6, c7, c8, c9, c10]) rfl ?_
  exact hfin.out _ rfl
theorem scanF_sym (s : ByteArray) (D : Nat) (o : Option (FacT × Nat)) (w : World) (hD : ¬ (0 : Int) < D) (hcd : ∀ W, Hid (Calls Tryz.prog 193 #[.string s] W fun e w' => e = .returned (.int .i64 D) ∧ W = w')) (hs : ∀ W, Below w.heap.size w W → Hid (Calls Tryz.prog 195 #[.string s] W (ScanPost o W))) : Calls Tryz.prog 162 #[.string s] w (ScanPost o w) := by
  have hrf := hiD (ResF.start w)
  have hle : w.heap.size ≤ w.heap.size := Nat.le_refl _
  have hs2 := hs _ hrf.out.below
  obtain ⟨kk, hkk⟩ : ∃ kk : Nat, Hid (scanLen o = kk) := ⟨_, hiD rfl⟩
  clear hs
  go_enter Tryz.func162, Tryz.ntmps162
  go_wp2_with fail
  refine (hcd _).out.mono ?_
  rintro e w1 ⟨rfl, rfl⟩
  go_wp2_with fail
  refine hs2.out.mono ?_
  rintro e w3 ⟨hb3, b1, q, n1, k1, q2, m1, k2, p0, p1, p2, p3, p4, p5, p6, x, rfl, hval⟩
  rw [hkk.out]
  have Hval := hiD hval
  have Hrf := hiD (hrf.out.next hb3)
  obtain ⟨z0, z1, z2, z3, z4, z5, z6, z7, z8, z9, z10, ⟨l0, l1, l2, l3, l4, l5, l6, l7, l8, l9, l10⟩, ⟨f0, f1, f2, f3, f4, f5, f6, f7, f8, f9, f10⟩⟩ := Hrf.out.slots
  have hfin : Hid (∀ W, W = ((((((((((((w3).setCell ⟨w.heap.size, 0, none⟩ (.bool b1)).setCell ⟨w.heap.size, 1, none⟩ (.slice q n1 k1)).setCell ⟨w.heap.size, 2, none⟩ (.slice q2 m1 k2)).setCell ⟨w.heap.size, 3, none⟩ (.int .i64 p0)).setCell ⟨w.heap.size, 4, none⟩ (.int .i64 p1)).setCell ⟨w.heap.size, 5, none⟩ (.int .i64 p2)).setCell ⟨w.heap.size, 6, none⟩ (.int .i64 p3)).setCell ⟨w.heap.size, 7, none⟩ (.int .i64 p4)).setCell ⟨w.heap.size, 8, none⟩ (.int .i64 p5)).setCell ⟨w.heap.size, 9, none⟩ (.int .i64 p6)).setCell ⟨w.heap.size, 10, none⟩ (.int .i64 x)) → ScanPost o w (.returned (.tuple #[.agg #[.bool b1, .slice q n1 k1, .slice q2 m1 k2, .int .i64 p0, .int .i64 p1, .int .i64 p2, .int .i64 p3, .int .i64 p4, .int .i64 p5, .int .i64 p6, .int .i64 x], .int .i64 kk])) W) := hiD (by
    rintro W rfl
    refine ⟨(Hrf.out.put hle (.bool b1) (.slice q n1 k1) (.slice q2 m1 k2) (.int .i64 p0) (.int .i64 p1) (.int .i64 p2) (.int .i64 p3) (.int .i64 p4) (.int .i64 p5) (.int .i64 p6) (.int .i64 x) ⟨nub _, nus _ _ _, nus _ _ _, nui _, nui _, nui _, nui _, nui _, nui _, nui _, nui _⟩).1.below, _, _, _, _, _, _, _, _, _, _, _, _, _, _, _, by rw [hkk.out], ?_⟩
    intro f k h
    obtain ⟨h1, h2, h3⟩ := Hval.out f k h
    exact ⟨Hrf.out.rat h1 (.bool b1) (.slice q n1 k1) (.slice q2 m1 k2) (.int .i64 p0) (.int .i64 p1) (.int .i64 p2) (.int .i64 p3) (.int .i64 p4) (.int .i64 p5) (.int .i64 p6) (.int .i64 x) ⟨nub _, nus _ _ _, nus _ _ _, nui _, nui _, nui _, nui _, nui _, nui _, nui _, nui _⟩, h2, h3⟩)
  clear hb3 hval
  go_wp2_with fail
  have hcells := (Hrf.out.put hle (.bool b1) (.slice q n1 k1) (.slice q2 m1 k2) (.int .i64 p0) (.int .i64 p1) (.int .i64 p2) (.int .i64 p3) (.int .i64 p4) (.int .i64 p5) (.int .i64 p6) (.int .i64 x) ⟨nub _, nus _ _ _, nus _ _ _, nui _, nui _, nui _, nui _, nui _, nui _, nui _, nui _⟩).2
  generalize (((((((((((w3).setCell ⟨w.heap.size, 0, none⟩ (.bool b1)).setCell ⟨w.heap.size, 1, none⟩ (.slice q n1 k1)).setCell ⟨w.heap.size, 2, none⟩ (.slice q2 m1 k2)).setCell ⟨w.heap.size, 3, none⟩ (.int .i64 p0)).setCell ⟨w.heap.size, 4, none⟩ (.int .i64 p1)).setCell ⟨w.heap.size, 5, none⟩ (.int .i64 p2)).setCell ⟨w.heap.size, 6, none⟩ (.int .i64 p3)).setCell ⟨w.heap.size, 7, none⟩ (.int .i64 p4)).setCell ⟨w.heap.size, 8, none⟩ (.int .i64 p5)).setCell ⟨w.heap.size, 9, none⟩ (.int .i64 p6)).setCell ⟨w.heap.size, 10, none⟩ (.int .i64 x) = WW at hcells hfin ⊢
  have c0 := ceh hcells 0
  have c1 := ceh hcells 1
  have c2 := ceh hcells 2
  have c3 := ceh hcells 3
  have c4 := ceh hcells 4
  have c5 := ceh hcells 5
  have c6 := ceh hcells 6
  have c7 := ceh hcells 7
  have c8 := ceh hcells 8
  have c9 := ceh hcells 9
  have c10 := ceh hcells 10
  refine bodyPost_ret (v := .tuple #[.agg #[.bool b1, .slice q n1 k1, .slice q2 m1 k2, .int .i64 p0, .int .i64 p1, .int .i64 p2, .int .i64 p3, .int .i64 p4, .int .i64 p5, .int .i64 p6, .int .i64 x], .int .i64 kk]) (by simp [results, Tryz.results162, go_sem, c0, c1, c2, c3, c4, c5, c6, c7, c8, c9, c10]) rfl ?_
  exact hfin.out _ rfl
theorem scanFactor_any (s : ByteArray) (w : World) (hmax : s.size ≤ 90000) (htab : Tab w) : Calls Tryz.prog 162 #[.string s] w (ScanPost (factorT s.data.toList) w) := by
  have hcd : ∀ W, Hid (Calls Tryz.prog 193 #[.string s] W fun e w' => e = .returned (.int .i64 (cntD s.data.toList)) ∧ W = w') := fun W => hiD (countDigits_any s W (by omega))
  unfold factorT
  by_cases h : 0 < cntD s.data.toList
  · rw [if_pos h]
    exact scanF_num s _ _ w h hcd fun W hW => hiD (scanNumber_any s W hmax (htab.below hW))
  · rw [if_neg h]
    exact scanF_sym s _ _ w (by omega) hcd fun W _ => hiD (scanSymbol_any s W hmax)
def NRow (w : World) (base : Nat) (e : TypeId) (size : Nat) (v : Value) (n : Nat) (xs : List Value) : Prop :=
  w.ownsRow base e size v n xs ∧ ∀ g k cap, v = .slice (some ⟨g, 0, none⟩) k cap → ∀ cur t f, w.heap[g]? = some (.cells cur t f) → ∀ u ∈ cur.toList, NoU u
theorem NRow.nil (w : World) (base : Nat) (e : TypeId) (size : Nat) : NRow w base e size (.slice none 0 0) 0 [] :=
  ⟨World.ownsRow_nil w base e size, fun g k cap h => by cases h⟩
theorem mem_zeroCells {z : Array Value} {k : Nat} {u : Value} (h : u ∈ (Builtin.zeroCells z k).toList) : u ∈ z.toList := by
  unfold Builtin.zeroCells at h
  rw [Array.toList_map, List.mem_map] at h
  obtain ⟨i, hi, rfl⟩ := h
  have hlt : i < k * z.size := by simpa using hi
  have hz : 0 < z.size := by
    apply Nat.pos_of_ne_zero; intro h0; rw [h0, Nat.mul_zero] at hlt; omega
  have hm : i % z.size < z.size := Nat.mod_lt _ hz
  rw [getElem!_pos z (i % z.size) hm]
  simp
section
variable {P : Program}
theorem run_append_N (w : World) (base : Nat) (t ty e : TypeId) (i : TypeInfo) (z : Value) (size bytes : Nat) (ht : P.underlying t = some (.slice e)) (hi : P.info? e = some i) (hz : i.zero = some z)
    (hsize : i.size = size) (hby : i.bytes = bytes) (hzs : z.cells.size = size) (hsz : 0 < size) (hzN : ∀ u ∈ z.cells.toList, NoU u)
    (v : Value) (n : Nat) (xs : List Value) (hown : NRow w base e size v n xs)
    (a : Addr) (m c : Nat) (news : List Value) (hl : news.length = m * size) (hnews : ∀ j u, news[j]? = some u → w.cell? (a.add j) = some u) (h1 : ∀ u ∈ news, u.oneCell' = true) (hN : ∀ u ∈ news, NoU u) (hm : 0 < m)
    (h63 : n + m ≤ maxLen) (hbytes : (n + m) * bytes ≤ 140737488355328) (hbase : base ≤ w.heap.size) :
    ∃ v' w', (Builtin.append_ #[t, t] ty #[v, .slice (some a) m c]).run P w = .ok v' w' ∧ NRow w' base e size v' (n + m) (xs ++ news) ∧ w.grownBy w' v.ownBlock := by
  subst hsize
  subst hby
  obtain ⟨hown, hNo⟩ := hown
  have hsmall : n + m ≤ 9223372036854775807 := by simp only [maxLen] at h63; omega
  have hlen : (xs ++ news).length = (n + m) * i.size := by rw [List.length_append, hown.1, hl, Nat.add_mul]
  have grown : ∀ (old : Nat), old < n + m → (∀ u ∈ xs, NoU u) → ∀ (row : Option Nat),
      NRow (w.drew.alloc (.cells (xs.toArray ++ news.toArray ++ Builtin.zeroCells z.cells (grownCap w (n + m) old e - (n + m))) e)) base e i.size
        (.slice (some ⟨w.heap.size, 0, none⟩) (n + m) (grownCap w (n + m) old e)) (n + m) (xs ++ news) ∧
      w.grownBy (w.drew.alloc (.cells (xs.toArray ++ news.toArray ++ Builtin.zeroCells z.cells (grownCap w (n + m) old e - (n + m))) e)) row := by
    intro old ho hxN row
    have hge := grownCap_ge w (n + m) old e
    have hcm : grownCap w (n + m) old e ≤ maxLen := grownCap_le_maxLen w (n + m) old e h63
    refine ⟨⟨⟨hlen, .inr ⟨w.heap.size, _, _, rfl, hbase, heap_new w.drew _, hge, hcm, ?_, ?_⟩⟩, ?_⟩, ⟨rfl, rfl, rfl, by simp, fun k hk _ => Below.heap_alloc w.drew _ k hk⟩⟩
    · simp only [Array.size_append, List.size_toArray, size_zeroCells, hzs, hown.1, hl, ← Nat.add_mul]
      congr 1
      omega
    · simp only [Array.toList_append, List.append_assoc]
      rw [← List.append_assoc, ← hlen]
      exact List.take_left
    · intro g k cap hv cur t' f hh u hu
      cases hv
      have := heap_new w.drew (.cells (xs.toArray ++ news.toArray ++ Builtin.zeroCells z.cells (grownCap w (n + m) old e - (n + m))) e)
      rw [show w.drew.heap.size = w.heap.size from rfl] at this
      rw [this] at hh
      cases hh
      simp only [Array.toList_append, List.mem_append] at hu
      rcases hu with (hu | hu) | hu
      · exact hxN u (by simpa using hu)
      · exact hN u (by simpa using hu)
      · exact hzN u (mem_zeroCells hu)
  rcases hown.2 with ⟨rfl, rfl⟩ | ⟨g, cap, cur, rfl, hbg, hg, hnc, hcm, hcs, htake⟩
  · have hx : xs = [] := List.eq_nil_of_length_eq_zero (by simpa using hown.1)
    subst hx
    have hr := run_append_nil (P := P) w t ty e i z ht hi hz a m c news hl hnews (by omega) (by omega) (by have hb := hbytes; simp only [Nat.zero_add] at hb; omega)
    have hgr := grown 0 (by omega) (fun u hu => by cases hu) (Value.ownBlock (.slice none 0 0))
    simp only [Nat.zero_add, List.nil_append, Array.empty_append] at hgr ⊢
    exact ⟨_, _, hr, hgr.1, hgr.2⟩
  · have hcN := hNo g n cap rfl cur e _ hg
    by_cases hroom : n + m ≤ cap
    · have hfit : n * i.size + news.length ≤ cur.size := by rw [hl, hcs, ← Nat.add_mul]; exact Nat.mul_le_mul_right _ hroom
      have hr := run_append_room (P := P) w t ty e i ht hi g n cap cur hg a m c news hl hnews h1 hroom hfit
      have hset := setRow_heap w g cur (cur.toList.take (n * i.size) ++ news ++ cur.toList.drop (n * i.size + news.length)).toArray e _ hg
      refine ⟨_, _, hr, ⟨⟨hlen, .inr ⟨g, cap, _, rfl, hbg, hset, hroom, hcm, ?_, ?_⟩⟩, ?_⟩, ⟨rfl, rfl, rfl, by simp, fun k _ hk => setRow_other w g k _ (fun e => hk (by simp [Value.ownBlock, e]))⟩⟩
      · simp only [List.size_toArray, List.length_append, List.length_take, List.length_drop, Array.length_toList]
        omega
      · rw [htake, ← hlen]
        exact List.take_left
      · intro g' k' cap' hv cur' t' f hh u hu
        cases hv
        rw [hset] at hh
        cases hh
        simp only [List.mem_append] at hu
        rcases hu with (hu | hu) | hu
        · exact hcN u (List.mem_of_mem_take hu)
        · exact hN u hu
        · exact hcN u (List.mem_of_mem_drop hu)
    · have holds : ∀ j u, xs[j]? = some u → w.cell? ((⟨g, 0, none⟩ : Addr).add j) = some u := hown.cells (g := g) rfl
      have hr := run_append_grow (P := P) w t ty e i z ht hi hz ⟨g, 0, none⟩ n cap xs hown.1 holds a m c news hl hnews (by omega) (by omega) (growslice_fits (by omega) hbytes)
      have hgr := grown cap (by omega) (fun u hu => hcN u (by rw [← htake] at hu; exact List.mem_of_mem_take hu)) (Value.ownBlock (.slice (some ⟨g, 0, none⟩) n cap))
      exact ⟨_, _, hr, hgr.1, hgr.2⟩
theorem wpList_append_N {w : World} {ops : Array Oper} {rest : List Oper} {o : Oper} {a : Act} {Q : Exit → Act → World → Prop} (hgd : o.guard = none) (s x : Operand) (t : TypeId)
    (ho : o.op = .call { callee := .builtin .append, args := #[s, x], argTypes := #[t, t] })
    (base : Nat) (e : TypeId) (i : TypeInfo) (z : Value) (size bytes : Nat) (ht : P.underlying t = some (.slice e)) (hi : P.info? e = some i) (hz : i.zero = some z)
    (hsize : i.size = size) (hby : i.bytes = bytes) (hzs : z.cells.size = size) (hsz : 0 < size) (hzN : ∀ u ∈ z.cells.toList, NoU u)
    (v : Value) (n : Nat) (xs : List Value) (hs : a.eval s = v) (hown : NRow w base e size v n xs)
    (ad : Addr) (m c : Nat) (news : List Value) (hx : a.eval x = .slice (some ad) m c) (hl : news.length = m * size) (hnews : ∀ j u, news[j]? = some u → w.cell? (ad.add j) = some u) (h1 : ∀ u ∈ news, u.oneCell' = true) (hN : ∀ u ∈ news, NoU u) (hm : 0 < m)
    (h63 : n + m ≤ maxLen) (hbytes : (n + m) * bytes ≤ 140737488355328) (hbase : base ≤ w.heap.size)
    (h : ∀ v' w', NRow w' base e size v' (n + m) (xs ++ news) → w.grownBy w' v.ownBlock → wpList P ops Q rest (a.put o.dst v') w') : wpList P ops Q (o :: rest) a w :=
  wpList_plain hgd fun K hK => by
    obtain ⟨v', w', hr, h2, h3⟩ := run_append_N (P := P) w base t o.type e i z size bytes ht hi hz hsize hby hzs hsz hzN v n xs hown ad m c news hl hnews h1 hN hm h63 hbytes hbase
    unfold Oper.wp execOp
    simp only [ho, resolve, invoke, builtin, Sem.run_bind, Sem.run_pure, Result.andThen_ok, List.map_toArray, List.map_cons, List.map_nil, hs, hx, hr]
    exact hK _ _ (h v' w' h2 h3)
end
theorem info152 : (Tryz.prog.info? 157).map (fun i => (i.zero, i.size, i.bytes)) = some (some (.agg #[.bool false, .slice none 0 0, .slice none 0 0, .int .i64 0, .int .i64 0, .int .i64 0, .int .i64 0, .int .i64 0, .int .i64 0, .int .i64 0, .int .i64 0]), 11, 120) := by kernel_rfl
def FacC (W : World) (cs : List Value) (f : FacT) : Prop := ∃ b p n c q m d p0 p1 p2 p3 p4 p5 p6, cs = [.bool b, .slice p n c, .slice q m d, .int .i64 p0, .int .i64 p1, .int .i64 p2, .int .i64 p3, .int .i64 p4, .int .i64 p5, .int .i64 p6, .int .i64 f.e] ∧ RatIs W (.agg #[.bool b, .slice p n c, .slice q m d]) f.v 40 ∧ [p0, p1, p2, p3, p4, p5, p6] = f.ps
structure FacsIn (W : World) (base : Nat) (v : Value) (css : List (List Value)) (fs : List FacT) : Prop where
  row : NRow W base 157 11 v fs.length css.flatten
  len : css.length = fs.length
  each : ∀ j (h : j < css.length) (h' : j < fs.length), FacC W css[j] fs[j]
theorem NRow.below {W W' : World} {base : Nat} {e : TypeId} {size : Nat} {v : Value} {n : Nat} {xs : List Value} (h : NRow W base e size v n xs) (hb : Below W.heap.size W W') : NRow W' base e size v n xs := by
  obtain ⟨⟨h1, h2⟩, h3⟩ := h
  rcases h2 with h2 | ⟨g, cap, cur, rfl, hbg, hg, hr⟩
  · refine ⟨⟨h1, .inl h2⟩, ?_⟩
    intro g k cap hv
    rw [h2.1] at hv; cases hv
  · have hlt := (Array.getElem?_eq_some_iff.1 hg).1
    have hg' := (hb.block g hlt).trans hg
    refine ⟨⟨h1, .inr ⟨g, cap, cur, rfl, hbg, hg', hr⟩⟩, ?_⟩
    intro g' k cap' hv cur' t f hh u hu
    cases hv
    rw [hg'] at hh; cases hh
    exact h3 _ _ _ rfl _ _ _ hg u hu
theorem nat_grown {W W' : World} {base : Nat} {e : TypeId} {size : Nat} {v : Value} {n : Nat} {xs : List Value} (h : NRow W base e size v n xs) (hg : W.grownBy W' v.ownBlock) {x : Value} {k : Nat} (hx : NatAt W x k) : NatAt W' x k := by
  obtain ⟨p, m, c', l, h1, h2, hr, h4⟩ := hx
  refine ⟨p, m, c', l, h1, h2, ⟨hr.len, ?_⟩, h4⟩
  rcases hr.cell with h0 | ⟨b, off, hp, hlt, hcl⟩
  · exact .inl h0
  · by_cases hm : m = 0
    · exact .inl hm
    refine .inr ⟨b, off, hp, Nat.lt_of_lt_of_le hlt hg.size, fun j hj => ?_⟩
    have hne : some b ≠ v.ownBlock := by
      intro hb
      obtain ⟨⟨-, h5⟩, h6⟩ := h
      rcases h5 with ⟨rfl, -⟩ | ⟨g, cap, cur, rfl, -, hgg, -⟩
      · cases hb
      · simp only [Value.ownBlock, Option.some.injEq] at hb
        subst hb
        have h7 := hcl 0 (by omega)
        rw [ceh hgg] at h7
        have : Value.int .u64 ((l.getD 0 0 : Nat) : Int) ∈ cur.toList := by
          obtain ⟨hi, he⟩ := Array.getElem?_eq_some_iff.1 h7
          rw [← he]; simp
        exact h6 _ _ _ rfl _ _ _ hgg _ this _ rfl
    rw [← hcl j hj]
    exact World.cell?_of_block (w := W) (hg.block b hlt hne)
theorem rat_grown {W W' : World} {base : Nat} {e : TypeId} {size : Nat} {v : Value} {n : Nat} {xs : List Value} (h : NRow W base e size v n xs) (hg : W.grownBy W' v.ownBlock) {x : Value} {q : Rat} {K : Nat} (hx : RatIs W x q K) : RatIs W' x q K := by
  obtain ⟨s, m, n, ⟨u, v, rfl, hu, hv, hs⟩, hr⟩ := hx
  exact ⟨s, m, n, ⟨u, v, rfl, nat_grown h hg hu, nat_grown h hg hv, hs⟩, hr⟩
theorem FacC.below {W W' : World} {cs : List Value} {f : FacT} (h : FacC W cs f) (hb : Below W.heap.size W W') : FacC W' cs f := by
  obtain ⟨b, p, n, c, q, m, d, p0, p1, p2, p3, p4, p5, p6, h1, h2, h3⟩ := h
  exact ⟨b, p, n, c, q, m, d, p0, p1, p2, p3, p4, p5, p6, h1, h2.below hb, h3⟩
theorem FacsIn.below {W W' : World} {base : Nat} {v : Value} {css : List (List Value)} {fs : List FacT} (h : FacsIn W base v css fs) (hb : Below W.heap.size W W') : FacsIn W' base v css fs :=
  ⟨h.row.below hb, h.len, fun j h1 h2 => (h.each j h1 h2).below hb⟩
theorem FacsIn.nil (W : World) (base : Nat) : FacsIn W base (.slice none 0 0) [] [] := ⟨NRow.nil W base 157 11, rfl, fun j h => by simp at h⟩
theorem FacsIn.more {W W' : World} {base : Nat} {v v' : Value} {css : List (List Value)} {fs : List FacT} {cs : List Value} {f : FacT} (h : FacsIn W base v css fs) (hc : FacC W cs f) (hr : NRow W' base 157 11 v' (fs.length + 1) (css.flatten ++ cs)) (hg : W.grownBy W' v.ownBlock) : FacsIn W' base v' (css ++ [cs]) (fs ++ [f]) := by
  have keep : ∀ {cs f}, FacC W cs f → FacC W' cs f := by
    rintro cs f ⟨b, p, n, c, q, m, d, p0, p1, p2, p3, p4, p5, p6, h1, h2, h3⟩
    exact ⟨b, p, n, c, q, m, d, p0, p1, p2, p3, p4, p5, p6, h1, rat_grown h.row hg h2, h3⟩
  refine ⟨?_, by simp [h.len], ?_⟩
  · rw [List.flatten_append, List.length_append]
    simpa using hr
  · intro j h1 h2
    by_cases hj : j < css.length
    · have hj' : j < fs.length := by rw [← h.len]; exact hj
      rw [List.getElem_append_left hj, List.getElem_append_left hj']
      exact keep (h.each j hj hj')
    · have e1 : j = css.length := by simp at h1; omega
      subst e1
      have : (fs ++ [f])[css.length] = f := by simp [h.len]
      rw [this]
      simp only [List.getElem_concat_length]
      exact keep hc
theorem wordT_nil : wordT [] = none := rfl
theorem lenT_pos {l : List UInt8} (h : 0 < cntD l) : 0 < lenT l := by
  unfold lenT
  split
  · split <;> omega
  · exact h
theorem lenT_le (l : List UInt8) : lenT l ≤ l.length := by
  have h1 := cntD_le l
  unfold lenT
  cases hd : l.drop (cntD l) with
  | nil => exact h1
  | cons c t =>
    have h2 := cntD_le t
    have h3 := congrArg List.length hd
    rw [List.length_drop, List.length_cons] at h3
    simp only
    split <;> omega
theorem satT_all (t : List UInt8) : 0 ≤ satT (t.take (cntD t)) ∧ satT (t.take (cntD t)) ≤ 129 := sat_bd _ (tw_take isDig t _ (Nat.le_refl _))
theorem expoT_bd (l : List UInt8) : -129 ≤ (expoT l).1 ∧ (expoT l).1 ≤ 129 := by
  cases l with
  | nil => exact ⟨by decide, by decide⟩
  | cons c t =>
    by_cases hc : c = 45
    · subst hc
      have e : expoT (45 :: t) = if cntD t = 0 then (0, 0) else (-satT (t.take (cntD t)), 1 + cntD t) := rfl
      have := satT_all t
      rw [e]
      split
      · simp
      · simp only; omega
    · have := satT_all (c :: t)
      rw [expoT_other hc]
      split
      · simp
      · simp only; omega
theorem symbolT_spec {l : List UInt8} {f : FacT} {n : Nat} (h : symbolT l = some (f, n)) : 0 < n ∧ n ≤ l.length ∧ -129 ≤ f.e ∧ f.e ≤ 129 := by
  have hle := cntL_le l
  cases hw : wordT (l.take (cntL l)) with
  | none => unfold symbolT at h; rw [hw] at h; cases h
  | some x =>
    obtain ⟨v, ps⟩ := x
    have hpos : 0 < cntL l := by
      apply Nat.pos_of_ne_zero
      intro h0
      rw [h0, List.take_zero, wordT_nil] at hw; cases hw
    cases hd : l.drop (cntL l) with
    | nil =>
      rw [symbolT_other hw (by intro t ht; rw [hd] at ht; cases ht)] at h
      cases h
      exact ⟨hpos, hle, (by decide : (-129 : Int) ≤ 1), (by decide : (1 : Int) ≤ 129)⟩
    | cons c t =>
      have h3 := congrArg List.length hd
      rw [List.length_drop, List.length_cons] at h3
      by_cases hc : c = 94
      · subst hc
        have h4 := expoT_le t
        have h5 := expoT_bd t
        rw [symbolT_pow hw hd] at h
        split at h
        · cases h
        · cases h
          exact ⟨by omega, by omega, h5.1, h5.2⟩
      · rw [symbolT_other hw (by intro t' ht; rw [hd] at ht; simp only [List.cons.injEq] at ht; exact hc ht.1)] at h
        cases h
        exact ⟨hpos, hle, (by decide : (-129 : Int) ≤ 1), (by decide : (1 : Int) ≤ 129)⟩
theorem factorT_spec {l : List UInt8} {f : FacT} {n : Nat} (h : factorT l = some (f, n)) : 0 < n ∧ n ≤ l.length ∧ -129 ≤ f.e ∧ f.e ≤ 129 := by
  unfold factorT at h
  split at h
  · rename_i hc
    unfold numberT at h
    split at h
    · cases h
      exact ⟨lenT_pos hc, lenT_le l, (by decide : (-129 : Int) ≤ 1), (by decide : (1 : Int) ≤ 129)⟩
    · cases h
  · exact symbolT_spec h
theorem factorsT_none {l : List UInt8} {dir : Int} {acc : List FacT} {F : Nat} (h : factorT l = none) : factorsT l dir acc (F + 1) = none := by
  unfold factorsT; rw [h]
theorem factorsT_end {l : List UInt8} {dir : Int} {acc : List FacT} {F n : Nat} {f : FacT} (h : factorT l = some (f, n)) (hn : n = l.length) : factorsT l dir acc (F + 1) = some (acc ++ [{ f with e := f.e * dir }]) := by
  unfold factorsT; rw [h]; simp only; rw [if_pos hn]
theorem factorsT_space {l t : List UInt8} {dir : Int} {acc : List FacT} {F n : Nat} {f : FacT} (h : factorT l = some (f, n)) (hn : n ≠ l.length) (hd : l.drop n = 32 :: t) : factorsT l dir acc (F + 1) = factorsT t 1 (acc ++ [{ f with e := f.e * dir }]) F := by
  rw [factorsT, h]; simp only; rw [if_neg hn]; simp only [hd]
theorem factorsT_slash {l t : List UInt8} {dir : Int} {acc : List FacT} {F n : Nat} {f : FacT} (h : factorT l = some (f, n)) (hn : n ≠ l.length) (hd : l.drop n = 47 :: t) : factorsT l dir acc (F + 1) = factorsT t (-1) (acc ++ [{ f with e := f.e * dir }]) F := by
  rw [factorsT, h]; simp only; rw [if_neg hn]; simp only [hd]
theorem factorsT_other {l t : List UInt8} {c : UInt8} {dir : Int} {acc : List FacT} {F n : Nat} {f : FacT} (h : factorT l = some (f, n)) (hn : n ≠ l.length) (hd : l.drop n = c :: t) (h1 : c ≠ 32) (h2 : c ≠ 47) : factorsT l dir acc (F + 1) = none := by
  rw [factorsT, h]; simp only; rw [if_neg hn]; simp only [hd]
  split
  · rename_i he; simp only [List.cons.injEq] at he; exact absurd he.1 h1
  · rename_i he; simp only [List.cons.injEq] at he; exact absurd he.1 h2
  · rfl
def FacsPost (o : Option (List FacT)) (w : World) (e : Ending) (w' : World) : Prop :=
  Below w.heap.size w w' ∧ match o with
  | none => e = .returned (.tuple #[.slice none 0 0, .bool false])
  | some fs => ∃ v css, e = .returned (.tuple #[v, .bool true]) ∧ FacsIn w' w.heap.size v css fs
structure ScanInv (s t : ByteArray) (w wr : World) (v : Value) (dir : Int) (fs : List FacT) (css : List (List Value)) (F : Nat) : Prop where
  facs : FacsIn wr w.heap.size v css fs
  below : Below w.heap.size w wr
  size : fs.length + t.size ≤ s.size
  fuel : t.size < F
  eq : factorsT s.data.toList 1 [] (s.size + 1) = factorsT t.data.toList dir fs F
theorem zeroFac_noU : ∀ u ∈ (Value.agg #[.bool false, .slice none 0 0, .slice none 0 0, .int .i64 0, .int .i64 0, .int .i64 0, .int .i64 0, .int .i64 0, .int .i64 0, .int .i64 0, .int .i64 0]).cells.toList, NoU u := by
  intro u hu
  have h : u ∈ ([.bool false, .slice none 0 0, .slice none 0 0, .int .i64 0, .int .i64 0, .int .i64 0, .int .i64 0, .int .i64 0, .int .i64 0, .int .i64 0, .int .i64 0] : List Value) := hu
  simp only [List.mem_cons, List.not_mem_nil, or_false] at h
  rcases h with rfl | rfl | rfl | rfl | rfl | rfl | rfl | rfl | rfl | rfl | rfl
  · exact nub _
  · exact nus _ _ _
  · exact nus _ _ _
  all_goals exact nui _
theorem facCells_noU (b1 : Bool) (q : Option Addr) (n1 k1 : Nat) (q2 : Option Addr) (m1 k2 : Nat) (p0 p1 p2 p3 p4 p5 p6 x : Int) : ∀ u ∈ ([.bool b1, .slice q n1 k1, .slice q2 m1 k2, .int .i64 p0, .int .i64 p1, .int .i64 p2, .int .i64 p3, .int .i64 p4, .int .i64 p5, .int .i64 p6, .int .i64 x] : List Value), NoU u := by
  intro u h
  simp only [List.mem_cons, List.not_mem_nil, or_false] at h
  rcases h with rfl | rfl | rfl | rfl | rfl | rfl | rfl | rfl | rfl | rfl | rfl
  · exact nub _
  · exact nus _ _ _
  · exact nus _ _ _
  all_goals exact nui _
theorem facCells_one (b1 : Bool) (q : Option Addr) (n1 k1 : Nat) (q2 : Option Addr) (m1 k2 : Nat) (p0 p1 p2 p3 p4 p5 p6 x : Int) : ∀ u ∈ ([.bool b1, .slice q n1 k1, .slice q2 m1 k2, .int .i64 p0, .int .i64 p1, .int .i64 p2, .int .i64 p3, .int .i64 p4, .int .i64 p5, .int .i64 p6, .int .i64 x] : List Value), u.oneCell' = true := by
  intro u h
  simp only [List.mem_cons, List.not_mem_nil, or_false] at h
  rcases h with rfl | rfl | rfl | rfl | rfl | rfl | rfl | rfl | rfl | rfl | rfl <;> rfl
theorem new_cells (W : World) (c : List Value) (T : TypeId) (B : Nat) (hB : B = W.heap.size) : ∀ j u, c[j]? = some u → (W.alloc (.cells c.toArray T)).cell? ((⟨B, 0, none⟩ : Addr).add j) = some u := by
  intro j u hu
  subst hB
  have e : (⟨W.heap.size, 0, none⟩ : Addr).add j = ⟨W.heap.size, j, none⟩ := by
    simp only [Addr.add]; split
    · rename_i h0; subst h0; rfl
    · simp
  rw [e, ceh (heap_new W _) j]
  simpa using hu
theorem scanFactors_any (s : ByteArray) (w : World) (hmax : s.size ≤ 90000) (htab : Tab w) : Calls Tryz.prog 122 #[.string s] w (FacsPost (factorsT s.data.toList 1 [] (s.size + 1)) w) := by
  obtain ⟨i0, hi, hz0, hz1, hz2⟩ := info_parts info152
  have Htab := hiD htab
  clear htab
  have hst : Hid (∃ fs css F, ScanInv s s w w (.slice none 0 0) 1 fs css F) := hiD ⟨[], [], s.size + 1, FacsIn.nil _ _, Below.refl _ _, by simp, by omega, rfl⟩
  have hms : (s.size : Int) ≤ 90000 := by omega
  go_enter Tryz.func122, Tryz.ntmps122
  go_wp2_with fail
  go_loopw [0, 4, 5] (fun sv fv dv wr => ∃ (t : ByteArray) (dir : Int), sv = .string t ∧ dv = .int .i64 dir ∧ (dir = 1 ∨ dir = -1) ∧ (t.size : Int) ≤ 90000 ∧ Hid (∃ fs css F, ScanInv s t w wr fv dir fs css F)) (fun sv _ _ _ => strLen sv)
  case atStart => exact ⟨s, 1, rfl, rfl, .inl rfl, hms, hst⟩
  case round =>
    obtain ⟨t, dir, rfl, rfl, hdir, hmt, hinv0⟩ := hrel
    obtain ⟨fs, css, F, hinv⟩ := hinv0.out
    have Hinv := hiD hinv
    clear hinv hinv0
    obtain ⟨F', hF'⟩ : ∃ F', F = F' + 1 := ⟨F - 1, by have := Hinv.out.fuel; omega⟩
    subst hF'
    have hlen : t.data.toList.length = t.size := by simp
    have hsc : Hid (Calls Tryz.prog 162 #[.string t] wr (ScanPost (factorT t.data.toList) wr)) := hiD (scanFactor_any t wr (by omega) (Htab.out.below Hinv.out.below))
    cases ho : factorT t.data.toList with
    | none =>
      have hres : Hid (factorsT s.data.toList 1 [] (s.size + 1) = none) := hiD (Hinv.out.eq.trans (factorsT_none ho))
      rw [ho] at hsc
      clear ho hlen
      go_wp2_with fail
      refine hsc.out.mono ?_
      rintro e w2 ⟨hb2, b1, q, n1, k1, q2, m1, k2, p0, p1, p2, p3, p4, p5, p6, x, rfl, -⟩
      have hbw := hiD ((Hinv.out.below.trans (hb2.mono Hinv.out.below.size)).trans ((bea w2 (.cells #[.bool b1, .slice q n1 k1, .slice q2 m1 k2, .int .i64 p0, .int .i64 p1, .int .i64 p2, .int .i64 p3, .int .i64 p4, .int .i64 p5, .int .i64 p6, .int .i64 x] 157)).mono (Hinv.out.below.trans (hb2.mono Hinv.out.below.size)).size))
      clear hb2
      go_wp2_with fail
      go_ret2
      rw [hres.out]
      exact ⟨hbw.out, rfl⟩
    | some fn =>
      obtain ⟨f, n⟩ := fn
      obtain ⟨hn0, hnl, he1, he2⟩ := factorT_spec ho
      rw [hlen] at hnl
      rw [ho] at hsc
      have hn0' : ((n : Int) == 0) = false := by rw [beq_eq_false_iff_ne]; omega
      have Ho := hiD ho
      clear ho
      rcases hdir with rfl | rfl
      · have hmulE : f.e * (1) = f.e := by omega
        have hset : Hid (∀ (w2 w5 : World) (v v' : Value) (T : TypeId) (b1 : Bool) (q : Option Addr) (n1 k1 : Nat) (q2 : Option Addr) (m1 k2 : Nat) (p0 p1 p2 p3 p4 p5 p6 : Int), FacsIn wr w.heap.size v css fs → Below wr.heap.size wr w2 → RatIs w2 (.agg #[.bool b1, .slice q n1 k1, .slice q2 m1 k2]) f.v 40 → [p0, p1, p2, p3, p4, p5, p6] = f.ps →
            NRow w5 w.heap.size 157 11 v' (fs.length + 1) (css.flatten ++ [.bool b1, .slice q n1 k1, .slice q2 m1 k2, .int .i64 p0, .int .i64 p1, .int .i64 p2, .int .i64 p3, .int .i64 p4, .int .i64 p5, .int .i64 p6, .int .i64 (f.e)]) → ((w2.alloc (.cells #[.bool b1, .slice q n1 k1, .slice q2 m1 k2, .int .i64 p0, .int .i64 p1, .int .i64 p2, .int .i64 p3, .int .i64 p4, .int .i64 p5, .int .i64 p6, .int .i64 (f.e)] 157)).alloc (.cells #[.bool b1, .slice q n1 k1, .slice q2 m1 k2, .int .i64 p0, .int .i64 p1, .int .i64 p2, .int .i64 p3, .int .i64 p4, .int .i64 p5, .int .i64 p6, .int .i64 (f.e)] T)).grownBy w5 v.ownBlock →
            FacsIn w5 w.heap.size v' (css ++ [[.bool b1, .slice q n1 k1, .slice q2 m1 k2, .int .i64 p0, .int .i64 p1, .int .i64 p2, .int .i64 p3, .int .i64 p4, .int .i64 p5, .int .i64 p6, .int .i64 (f.e)]]) (fs ++ [{ f with e := f.e * (1) }]) ∧ Below w.heap.size w w5) := hiD (by
          intro w2 w5 v v' T b1 q n1 k1 q2 m1 k2 p0 p1 p2 p3 p4 p5 p6 hf hb2 hR hps hrow hg
          have hb4 := (bea w2 (.cells #[.bool b1, .slice q n1 k1, .slice q2 m1 k2, .int .i64 p0, .int .i64 p1, .int .i64 p2, .int .i64 p3, .int .i64 p4, .int .i64 p5, .int .i64 p6, .int .i64 (f.e)] 157)).trans ((bea (w2.alloc (.cells #[.bool b1, .slice q n1 k1, .slice q2 m1 k2, .int .i64 p0, .int .i64 p1, .int .i64 p2, .int .i64 p3, .int .i64 p4, .int .i64 p5, .int .i64 p6, .int .i64 (f.e)] 157)) (.cells #[.bool b1, .slice q n1 k1, .slice q2 m1 k2, .int .i64 p0, .int .i64 p1, .int .i64 p2, .int .i64 p3, .int .i64 p4, .int .i64 p5, .int .i64 p6, .int .i64 (f.e)] T)).mono (bea w2 (.cells #[.bool b1, .slice q n1 k1, .slice q2 m1 k2, .int .i64 p0, .int .i64 p1, .int .i64 p2, .int .i64 p3, .int .i64 p4, .int .i64 p5, .int .i64 p6, .int .i64 (f.e)] 157)).size)
          have hb := hb2.trans (hb4.mono hb2.size)
          refine ⟨(hf.below hb).more ⟨b1, q, n1, k1, q2, m1, k2, p0, p1, p2, p3, p4, p5, p6, by rw [hmulE], hR.below hb4, hps⟩ hrow hg, ?_⟩
          have hbw := Hinv.out.below.trans (hb.mono Hinv.out.below.size)
          refine Below.grown hbw hg hbw.size ?_
          intro g hgo
          rcases hf.row.1.2 with ⟨rfl, -⟩ | ⟨g', cap, cur, rfl, hbg, -⟩
          · cases hgo
          · simp only [Value.ownBlock, Option.some.injEq] at hgo
            omega)
        clear hmulE
        go_wp2_with fail
        refine hsc.out.mono ?_
        rintro e w2 ⟨hb2, b1, q, n1, k1, q2, m1, k2, p0, p1, p2, p3, p4, p5, p6, x, rfl, hval⟩
        rw [show scanLen (some (f, n)) = n from rfl]
        obtain ⟨hR, hps, hx⟩ := hval _ _ rfl
        subst hx
        have HR := hiD hR
        have Hps := hiD hps
        have Hb2 := hiD hb2
        have hbase : Hid (w.heap.size ≤ w2.heap.size) := hiD (Nat.le_trans Hinv.out.below.size hb2.size)
        clear hval hR hps hb2 hsc
        go_wp2_with (at_builtin; refine wpList_append_N rfl _ _ 119 rfl w.heap.size 157 i0 (Value.agg #[.bool false, .slice none 0 0, .slice none 0 0, .int .i64 0, .int .i64 0, .int .i64 0, .int .i64 0, .int .i64 0, .int .i64 0, .int .i64 0, .int .i64 0]) 11 120 Tryz.underlying119 hi hz0 hz1 hz2 rfl (by decide) zeroFac_noU _ _ _ rfl (((Hinv.out.facs.row.below Hb2.out).below (bea _ _)).below (bea _ _)) ⟨w2.heap.size + 1, 0, none⟩ 1 1 [.bool b1, .slice q n1 k1, .slice q2 m1 k2, .int .i64 p0, .int .i64 p1, .int .i64 p2, .int .i64 p3, .int .i64 p4, .int .i64 p5, .int .i64 p6, .int .i64 (f.e)] rfl rfl (new_cells _ _ _ _ (by simp)) (facCells_one _ _ _ _ _ _ _ _ _ _ _ _ _ _ _) (facCells_noU _ _ _ _ _ _ _ _ _ _ _ _ _ _ _) (by decide) (by have := Hinv.out.size; unfold maxLen; omega) (by have := Hinv.out.size; omega) (by have := hbase.out; simp; omega) ?_)
        intro v' w5 hrow5 hg5
        obtain ⟨hfacs, hbel⟩ := hset.out _ _ _ _ _ _ _ _ _ _ _ _ _ _ _ _ _ _ _ Hinv.out.facs Hb2.out HR.out Hps.out hrow5 hg5
        have Hfacs := hiD hfacs
        have Hbel := hiD hbel
        clear hfacs hbel hrow5 hg5 hset
        by_cases hnl2 : n = t.size
        · have hres : Hid (factorsT s.data.toList 1 [] (s.size + 1) = some (fs ++ [{ f with e := f.e * (1) }])) := hiD (Hinv.out.eq.trans (factorsT_end Ho.out (by omega)))
          have hb : ((n : Int) == t.size) = true := by rw [beq_iff_eq]; omega
          clear hnl2
          go_wp2_with fail
          go_ret2
          rw [hres.out]
          exact ⟨Hbel.out, _, _, rfl, Hfacs.out⟩
        · have hlt : n < t.size := by omega
          have hb : ((n : Int) == t.size) = false := by rw [beq_eq_false_iff_ne]; omega
          have hdrop : Hid (t.data.toList.drop n = t[n]'hlt :: t.data.toList.drop (n + 1)) := hiD (by rw [List.drop_eq_getElem_cons (by omega)]; rfl)
          have hext : Hid ((t.extract (n + 1) t.size).data.toList = t.data.toList.drop (n + 1)) := hiD (extract_drop t (n + 1))
          have hsz : Hid ((t.extract (n + 1) t.size).size = t.size - (n + 1)) := hiD (by simp)
          have hnle : Hid (n ≠ t.data.toList.length) := hiD (by omega)
          by_cases h32 : (((t[n]'hlt).toNat : Int) == 32) = true
          · have hinv2 : Hid (∃ fs' css' F'', ScanInv s (t.extract (n + 1) t.size) w w5 v' 1 fs' css' F'') := hiD ⟨_, _, F', Hfacs.out, Hbel.out, by have := Hinv.out.size; have := hsz.out; simp; omega, by have := Hinv.out.fuel; have := hsz.out; omega, by
              rw [hext.out]
              refine Hinv.out.eq.trans (factorsT_space Ho.out hnle.out ?_)
              rw [hdrop.out]; congr 1; apply UInt8.toNat_inj.1; rw [beq_iff_eq] at h32; have : ((32 : UInt8)).toNat = 32 := rfl; omega⟩
            clear hnl2
            go_wp2_with fail
            go_roundw
            case rel => exact ⟨_, 1, rfl, rfl, .inl rfl, by have := hsz.out; omega, hinv2⟩
            case measure => have := hsz.out; simp [strLen]; omega
          · rw [Bool.not_eq_true] at h32
            by_cases h47 : (((t[n]'hlt).toNat : Int) == 47) = true
            · have hinv2 : Hid (∃ fs' css' F'', ScanInv s (t.extract (n + 1) t.size) w w5 v' (-1) fs' css' F'') := hiD ⟨_, _, F', Hfacs.out, Hbel.out, by have := Hinv.out.size; have := hsz.out; simp; omega, by have := Hinv.out.fuel; have := hsz.out; omega, by
                rw [hext.out]
                refine Hinv.out.eq.trans (factorsT_slash Ho.out hnle.out ?_)
                rw [hdrop.out]; congr 1; apply UInt8.toNat_inj.1; rw [beq_iff_eq] at h47; have : ((47 : UInt8)).toNat = 47 := rfl; omega⟩
              clear hnl2
              go_wp2_with fail
              go_roundw
              case rel => exact ⟨_, -1, rfl, rfl, .inr rfl, by have := hsz.out; omega, hinv2⟩
              case measure => have := hsz.out; simp [strLen]; omega
            · rw [Bool.not_eq_true] at h47
              have hres : Hid (factorsT s.data.toList 1 [] (s.size + 1) = none) := hiD (Hinv.out.eq.trans (factorsT_other Ho.out hnle.out hdrop.out (by intro h; rw [h] at h32; revert h32; decide) (by intro h; rw [h] at h47; revert h47; decide)))
              clear hnl2
              go_wp2_with fail
              go_ret2
              rw [hres.out]
              exact ⟨Hbel.out, rfl⟩
      · have hmulE : f.e * (-1) = -f.e := by omega
        have hset : Hid (∀ (w2 w5 : World) (v v' : Value) (T : TypeId) (b1 : Bool) (q : Option Addr) (n1 k1 : Nat) (q2 : Option Addr) (m1 k2 : Nat) (p0 p1 p2 p3 p4 p5 p6 : Int), FacsIn wr w.heap.size v css fs → Below wr.heap.size wr w2 → RatIs w2 (.agg #[.bool b1, .slice q n1 k1, .slice q2 m1 k2]) f.v 40 → [p0, p1, p2, p3, p4, p5, p6] = f.ps →
            NRow w5 w.heap.size 157 11 v' (fs.length + 1) (css.flatten ++ [.bool b1, .slice q n1 k1, .slice q2 m1 k2, .int .i64 p0, .int .i64 p1, .int .i64 p2, .int .i64 p3, .int .i64 p4, .int .i64 p5, .int .i64 p6, .int .i64 (-f.e)]) → ((w2.alloc (.cells #[.bool b1, .slice q n1 k1, .slice q2 m1 k2, .int .i64 p0, .int .i64 p1, .int .i64 p2, .int .i64 p3, .int .i64 p4, .int .i64 p5, .int .i64 p6, .int .i64 (-f.e)] 157)).alloc (.cells #[.bool b1, .slice q n1 k1, .slice q2 m1 k2, .int .i64 p0, .int .i64 p1, .int .i64 p2, .int .i64 p3, .int .i64 p4, .int .i64 p5, .int .i64 p6, .int .i64 (-f.e)] T)).grownBy w5 v.ownBlock →
            FacsIn w5 w.heap.size v' (css ++ [[.bool b1, .slice q n1 k1, .slice q2 m1 k2, .int .i64 p0, .int .i64 p1, .int .i64 p2, .int .i64 p3, .int .i64 p4, .int .i64 p5, .int .i64 p6, .int .i64 (-f.e)]]) (fs ++ [{ f with e := f.e * (-1) }]) ∧ Below w.heap.size w w5) := hiD (by
          intro w2 w5 v v' T b1 q n1 k1 q2 m1 k2 p0 p1 p2 p3 p4 p5 p6 hf hb2 hR hps hrow hg
          have hb4 := (bea w2 (.cells #[.bool b1, .slice q n1 k1, .slice q2 m1 k2, .int .i64 p0, .int .i64 p1, .int .i64 p2, .int .i64 p3, .int .i64 p4, .int .i64 p5, .int .i64 p6, .int .i64 (-f.e)] 157)).trans ((bea (w2.alloc (.cells #[.bool b1, .slice q n1 k1, .slice q2 m1 k2, .int .i64 p0, .int .i64 p1, .int .i64 p2, .int .i64 p3, .int .i64 p4, .int .i64 p5, .int .i64 p6, .int .i64 (-f.e)] 157)) (.cells #[.bool b1, .slice q n1 k1, .slice q2 m1 k2, .int .i64 p0, .int .i64 p1, .int .i64 p2, .int .i64 p3, .int .i64 p4, .int .i64 p5, .int .i64 p6, .int .i64 (-f.e)] T)).mono (bea w2 (.cells #[.bool b1, .slice q n1 k1, .slice q2 m1 k2, .int .i64 p0, .int .i64 p1, .int .i64 p2, .int .i64 p3, .int .i64 p4, .int .i64 p5, .int .i64 p6, .int .i64 (-f.e)] 157)).size)
          have hb := hb2.trans (hb4.mono hb2.size)
          refine ⟨(hf.below hb).more ⟨b1, q, n1, k1, q2, m1, k2, p0, p1, p2, p3, p4, p5, p6, by rw [hmulE], hR.below hb4, hps⟩ hrow hg, ?_⟩
          have hbw := Hinv.out.below.trans (hb.mono Hinv.out.below.size)
          refine Below.grown hbw hg hbw.size ?_
          intro g hgo
          rcases hf.row.1.2 with ⟨rfl, -⟩ | ⟨g', cap, cur, rfl, hbg, -⟩
          · cases hgo
          · simp only [Value.ownBlock, Option.some.injEq] at hgo
            omega)
        clear hmulE
        go_wp2_with fail
        refine hsc.out.mono ?_
        rintro e w2 ⟨hb2, b1, q, n1, k1, q2, m1, k2, p0, p1, p2, p3, p4, p5, p6, x, rfl, hval⟩
        rw [show scanLen (some (f, n)) = n from rfl]
        obtain ⟨hR, hps, hx⟩ := hval _ _ rfl
        subst hx
        have HR := hiD hR
        have Hps := hiD hps
        have Hb2 := hiD hb2
        have hbase : Hid (w.heap.size ≤ w2.heap.size) := hiD (Nat.le_trans Hinv.out.below.size hb2.size)
        clear hval hR hps hb2 hsc
        go_wp2_with (at_builtin; refine wpList_append_N rfl _ _ 119 rfl w.heap.size 157 i0 (Value.agg #[.bool false, .slice none 0 0, .slice none 0 0, .int .i64 0, .int .i64 0, .int .i64 0, .int .i64 0, .int .i64 0, .int .i64 0, .int .i64 0, .int .i64 0]) 11 120 Tryz.underlying119 hi hz0 hz1 hz2 rfl (by decide) zeroFac_noU _ _ _ rfl (((Hinv.out.facs.row.below Hb2.out).below (bea _ _)).below (bea _ _)) ⟨w2.heap.size + 1, 0, none⟩ 1 1 [.bool b1, .slice q n1 k1, .slice q2 m1 k2, .int .i64 p0, .int .i64 p1, .int .i64 p2, .int .i64 p3, .int .i64 p4, .int .i64 p5, .int .i64 p6, .int .i64 (-f.e)] rfl rfl (new_cells _ _ _ _ (by simp)) (facCells_one _ _ _ _ _ _ _ _ _ _ _ _ _ _ _) (facCells_noU _ _ _ _ _ _ _ _ _ _ _ _ _ _ _) (by decide) (by have := Hinv.out.size; unfold maxLen; omega) (by have := Hinv.out.size; omega) (by have := hbase.out; simp; omega) ?_)
        intro v' w5 hrow5 hg5
        obtain ⟨hfacs, hbel⟩ := hset.out _ _ _ _ _ _ _ _ _ _ _ _ _ _ _ _ _ _ _ Hinv.out.facs Hb2.out HR.out Hps.out hrow5 hg5
        have Hfacs := hiD hfacs
        have Hbel := hiD hbel
        clear hfacs hbel hrow5 hg5 hset
        by_cases hnl2 : n = t.size
        · have hres : Hid (factorsT s.data.toList 1 [] (s.size + 1) = some (fs ++ [{ f with e := f.e * (-1) }])) := hiD (Hinv.out.eq.trans (factorsT_end Ho.out (by omega)))
          have hb : ((n : Int) == t.size) = true := by rw [beq_iff_eq]; omega
          clear hnl2
          go_wp2_with fail
          go_ret2
          rw [hres.out]
          exact ⟨Hbel.out, _, _, rfl, Hfacs.out⟩
        · have hlt : n < t.size := by omega
          have hb : ((n : Int) == t.size) = false := by rw [beq_eq_false_iff_ne]; omega
          have hdrop : Hid (t.data.toList.drop n = t[n]'hlt :: t.data.toList.drop (n + 1)) := hiD (by rw [List.drop_eq_getElem_cons (by omega)]; rfl)
          have hext : Hid ((t.extract (n + 1) t.size).data.toList = t.data.toList.drop (n + 1)) := hiD (extract_drop t (n + 1))
          have hsz : Hid ((t.extract (n + 1) t.size).size = t.size - (n + 1)) := hiD (by simp)
          have hnle : Hid (n ≠ t.data.toList.length) := hiD (by omega)
          by_cases h32 : (((t[n]'hlt).toNat : Int) == 32) = true
          · have hinv2 : Hid (∃ fs' css' F'', ScanInv s (t.extract (n + 1) t.size) w w5 v' 1 fs' css' F'') := hiD ⟨_, _, F', Hfacs.out, Hbel.out, by have := Hinv.out.size; have := hsz.out; simp; omega, by have := Hinv.out.fuel; have := hsz.out; omega, by
              rw [hext.out]
              refine Hinv.out.eq.trans (factorsT_space Ho.out hnle.out ?_)
              rw [hdrop.out]; congr 1; apply UInt8.toNat_inj.1; rw [beq_iff_eq] at h32; have : ((32 : UInt8)).toNat = 32 := rfl; omega⟩
            clear hnl2
            go_wp2_with fail
            go_roundw
            case rel => exact ⟨_, 1, rfl, rfl, .inl rfl, by have := hsz.out; omega, hinv2⟩
            case measure => have := hsz.out; simp [strLen]; omega
          · rw [Bool.not_eq_true] at h32
            by_cases h47 : (((t[n]'hlt).toNat : Int) == 47) = true
            · have hinv2 : Hid (∃ fs' css' F'', ScanInv s (t.extract (n + 1) t.size) w w5 v' (-1) fs' css' F'') := hiD ⟨_, _, F', Hfacs.out, Hbel.out, by have := Hinv.out.size; have := hsz.out; simp; omega, by have := Hinv.out.fuel; have := hsz.out; omega, by
                rw [hext.out]
                refine Hinv.out.eq.trans (factorsT_slash Ho.out hnle.out ?_)
                rw [hdrop.out]; congr 1; apply UInt8.toNat_inj.1; rw [beq_iff_eq] at h47; have : ((47 : UInt8)).toNat = 47 := rfl; omega⟩
              clear hnl2
              go_wp2_with fail
              go_roundw
              case rel => exact ⟨_, -1, rfl, rfl, .inr rfl, by have := hsz.out; omega, hinv2⟩
              case measure => have := hsz.out; simp [strLen]; omega
            · rw [Bool.not_eq_true] at h47
              have hres : Hid (factorsT s.data.toList 1 [] (s.size + 1) = none) := hiD (Hinv.out.eq.trans (factorsT_other Ho.out hnle.out hdrop.out (by intro h; rw [h] at h32; revert h32; decide) (by intro h; rw [h] at h47; revert h47; decide)))
              clear hnl2
              go_wp2_with fail
              go_ret2
              rw [hres.out]
              exact ⟨Hbel.out, rfl⟩
end Go.Proofs.YtoegbjmoecbjdaaGreatDoor
