/- FormatUnit of the document. -/
import Derived.Test.YtfjnipkpfbkegaaGreatDoorFC
import Derived.Test.YtfjnipkpfbkegaaGreatDoorXUK
set_option maxHeartbeats 4000000
set_option maxRecDepth 100000
namespace Go.Proofs.YtfjnipkpfbkegaaGreatDoor
open Go.RowKit Big
open Go.Lib
theorem cell_name {W : World} {g : Nat} (k : Nat) (hk : k < 7) (h : W.heap[g]? = some (.cells #[.string ⟨#[109]⟩, .string ⟨#[107, 103]⟩, .string ⟨#[115]⟩, .string ⟨#[75]⟩, .string ⟨#[109, 111, 108]⟩, .string ⟨#[65]⟩, .string ⟨#[99, 100]⟩] 57 (0, 0))) : W.cell? ⟨g, k, none⟩ = some (.string ⟨(nameT k).toArray⟩) := by
  match k, hk with
  | 0, _ => exact ceh h 0
  | 1, _ => exact ceh h 1
  | 2, _ => exact ceh h 2
  | 3, _ => exact ceh h 3
  | 4, _ => exact ceh h 4
  | 5, _ => exact ceh h 5
  | 6, _ => exact ceh h 6
theorem join_snoc {X : List (List UInt8)} (x : List UInt8) (h : X ≠ []) : join (X ++ [x]) [32] = join X [32] ++ 32 :: x := by
  cases X with
  | nil => exact absurd rfl h
  | cons y r => rw [List.cons_append, join_cons, join_cons]; simp [Go.Lib.joinTail]
theorem join_pre {X Z : List (List UInt8)} : (join X [32]).length ≤ (join (X ++ Z) [32]).length := by
  cases X with
  | nil => rw [Go.Lib.join_nil]; exact Nat.zero_le _
  | cons y r =>
    rw [List.cons_append, join_length, join_length]
    simp [lens]; omega
theorem join_ne {X : List (List UInt8)} (h : X ≠ []) (hn : ∀ x ∈ X, x ≠ []) : join X [32] ≠ [] := by
  cases X with
  | nil => exact absurd rfl h
  | cons y r =>
    rw [join_cons]
    intro e
    rw [List.append_eq_nil_iff] at e
    exact hn y (by simp) e.1
theorem rformat_no (f o : ByteArray) (p0 p1 p2 p3 p4 p5 p6 : Int) (w : World) (h : Hid (∀ W, Below w.heap.size w W → Calls Tryz.prog 26 #[.agg #[.string f, .string o, .int .i64 p0, .int .i64 p1, .int .i64 p2, .int .i64 p3, .int .i64 p4, .int .i64 p5, .int .i64 p6]] W fun e w' => e = .returned (.bool false) ∧ Below W.heap.size W w')) : Calls Tryz.prog 10 #[.agg #[.string f, .string o, .int .i64 p0, .int .i64 p1, .int .i64 p2, .int .i64 p3, .int .i64 p4, .int .i64 p5, .int .i64 p6]] w (FmtPost ([], 10) w) := by
  have HB0 := hiD (bea w (.cells #[.string f, .string o, .int .i64 p0, .int .i64 p1, .int .i64 p2, .int .i64 p3, .int .i64 p4, .int .i64 p5, .int .i64 p6] 24))
  unfold FmtPost
  go_enter Tryz.func10, Tryz.ntmps10
  go_wp2_with fail
  refine (h.out _ HB0.out).mono ?_
  rintro e w1 ⟨rfl, hb1⟩
  have HB := hiD (HB0.out.trans (hb1.mono HB0.out.size))
  clear hb1
  go_wp2_with fail
  go_ret2
  exact ⟨rfl, HB.out⟩
theorem rformat_yes (f o : ByteArray) (p0 p1 p2 p3 p4 p5 p6 : Int) (w : World) (hpl : Hid (plainT (tU f o p0 p1 p2 p3 p4 p5 p6) = true)) (h : Hid (∀ W, Below w.heap.size w W → Calls Tryz.prog 26 #[.agg #[.string f, .string o, .int .i64 p0, .int .i64 p1, .int .i64 p2, .int .i64 p3, .int .i64 p4, .int .i64 p5, .int .i64 p6]] W fun e w' => e = .returned (.bool true) ∧ Below W.heap.size W w')) : Calls Tryz.prog 10 #[.agg #[.string f, .string o, .int .i64 p0, .int .i64 p1, .int .i64 p2, .int .i64 p3, .int .i64 p4, .int .i64 p5, .int .i64 p6]] w (FmtPost (join (wordsT (tU f o p0 p1 p2 p3 p4 p5 p6)) [32], 0) w) := by
  have HB0 := hiD (bea w (.cells #[.string f, .string o, .int .i64 p0, .int .i64 p1, .int .i64 p2, .int .i64 p3, .int .i64 p4, .int .i64 p5, .int .i64 p6] 24))
  have HIN : Hid (inR [p0, p1, p2, p3, p4, p5, p6] = true) := hiD (plainT_iff.1 hpl.out).2.2.1
  have HX := hiD (index7 p0 p1 p2 p3 p4 p5 p6)
  have HQ := powers_eq10 p0 p1 p2 p3 p4 p5 p6 0 0 0 0 0 0 0
  obtain ⟨Y, HY⟩ : ∃ Y, Hid (wordsT (tU f o p0 p1 p2 p3 p4 p5 p6) = Y) := ⟨_, hiD rfl⟩
  have HYL : Hid ((join Y [32]).length ≤ 138) := hiD (by
    rw [← HY.out]
    have h1 := plainT_iff.1 hpl.out
    have h2 := fmt_len (f := f.data.toList) (ps := [p0, p1, p2, p3, p4, p5, p6]) (num_len h1.1) h1.2.2.1 rfl
    have h3 : o.data.toList = [48] := h1.2.2.2
    unfold tU
    rw [h3]; exact h2)
  obtain ⟨fl, HFL⟩ : ∃ fl, Hid (f.data.toList = fl) := ⟨_, hiD rfl⟩
  have HFN : Hid (∀ y ∈ [fl], y ≠ []) := hiD (by
    intro y hy
    rw [List.mem_singleton.1 hy]
    have h1 := (plainT_iff.1 hpl.out).1
    have h2 : num fl = some (valT fl) := by rw [← HFL.out]; exact h1
    rintro rfl
    rw [num_nil] at h2; cases h2)
  have HFT : Hid (f = ⟨fl.toArray⟩) := hiD (by rw [← HFL.out])
  have HYE : Hid (headT fl [p0, p1, p2, p3, p4, p5, p6] ++ wordsP 0 ([p0, p1, p2, p3, p4, p5, p6].drop 0) = Y) := hiD (by rw [← HFL.out]; exact HY.out)
  have HFD : Hid (f.toList = fl) := hiD (by rw [← HFL.out]; exact Lib.toList_data f)
  rw [HY.out]
  unfold FmtPost
  clear HY HFL hpl
  have hcase : (f.toList == [49]) = false ∨ ((f.toList == [49]) = true ∧ decide ([p0, p1, p2, p3, p4, p5, p6] = [0, 0, 0, 0, 0, 0, 0]) = true) ∨ ((f.toList == [49]) = true ∧ decide ([p0, p1, p2, p3, p4, p5, p6] = [0, 0, 0, 0, 0, 0, 0]) = false) := by
    cases (f.toList == [49]) <;> cases decide ([p0, p1, p2, p3, p4, p5, p6] = [0, 0, 0, 0, 0, 0, 0]) <;> simp
  refine hcase.elim (fun hf => ?ca) (fun hcase => hcase.elim (fun hf => ?cb) (fun hf => ?cc))
  case' ca =>
    have HHD : Hid ([fl] ++ wordsP 0 ([p0, p1, p2, p3, p4, p5, p6].drop 0) = Y) := hiD (by
      have e := HYE.out
      unfold headT at e
      rw [← HFD.out, hf, Bool.false_and, if_neg (by decide), HFD.out] at e
      exact e)
    have HHN := HFN
    have HSE : Hid (f = ⟨(join [fl] [32]).toArray⟩) := hiD (by rw [join_one]; exact HFT.out)
    clear HQ hcase HFD HFN
    go_enter Tryz.func10, Tryz.ntmps10
    go_wp2_with fail
    refine (h.out _ HB0.out).mono ?_
    rintro e w1 ⟨rfl, hb1⟩
    have HK1 : Hid (Keep w w1 [(w.heap.size, #[.string f, .string o, .int .i64 p0, .int .i64 p1, .int .i64 p2, .int .i64 p3, .int .i64 p4, .int .i64 p5, .int .i64 p6], 24)]) := hiD (((Keep.nil w).more #[.string f, .string o, .int .i64 p0, .int .i64 p1, .int .i64 p2, .int .i64 p3, .int .i64 p4, .int .i64 p5, .int .i64 p6] 24).next hb1)
    obtain ⟨gN, HGN⟩ : ∃ gN, Hid (w1.heap.size = gN) := ⟨_, hiD rfl⟩
    obtain ⟨WN, HWN⟩ : ∃ WN, Hid (w1.alloc (.cells #[.string ⟨#[109]⟩, .string ⟨#[107, 103]⟩, .string ⟨#[115]⟩, .string ⟨#[75]⟩, .string ⟨#[109, 111, 108]⟩, .string ⟨#[65]⟩, .string ⟨#[99, 100]⟩] 57) = WN) := ⟨_, hiD rfl⟩
    have HK2 : Hid (Keep w WN [(gN, #[.string ⟨#[109]⟩, .string ⟨#[107, 103]⟩, .string ⟨#[115]⟩, .string ⟨#[75]⟩, .string ⟨#[109, 111, 108]⟩, .string ⟨#[65]⟩, .string ⟨#[99, 100]⟩], 57), (w.heap.size, #[.string f, .string o, .int .i64 p0, .int .i64 p1, .int .i64 p2, .int .i64 p3, .int .i64 p4, .int .i64 p5, .int .i64 p6], 24)]) := hiD (by rw [← HWN.out, ← HGN.out]; exact HK1.out.more #[.string ⟨#[109]⟩, .string ⟨#[107, 103]⟩, .string ⟨#[115]⟩, .string ⟨#[75]⟩, .string ⟨#[109, 111, 108]⟩, .string ⟨#[65]⟩, .string ⟨#[99, 100]⟩] 57)
    clear hb1
    go_upto_region 4 with fail
    rw [HWN.out, HGN.out]
    have hc := HK2.out.one _ (List.mem_cons_of_mem _ (List.mem_cons_self ..))
    have k0 := ceh hc 0
    have k1 := ceh hc 1
    have k2 := ceh hc 2
    have k3 := ceh hc 3
    have k4 := ceh hc 4
    have k5 := ceh hc 5
    have k6 := ceh hc 6
    have k7 := ceh hc 7
    have k8 := ceh hc 8
    clear hc HWN HGN HK1
    go_wp2_with fail
    
  case' cb =>
    clear hcase
    have HHD : Hid ([fl] ++ wordsP 0 ([p0, p1, p2, p3, p4, p5, p6].drop 0) = Y) := hiD (by
      have e := HYE.out
      unfold headT at e
      rw [show ([p0, p1, p2, p3, p4, p5, p6] == noPs) = true from beq_iff_eq.2 (of_decide_eq_true hf.2), Bool.not_true, Bool.and_false, if_neg (by decide)] at e
      exact e)
    have HHN := HFN
    have HSE : Hid (f = ⟨(join [fl] [32]).toArray⟩) := hiD (by rw [join_one]; exact HFT.out)
    rw [hf.2] at HQ
    have hf := hf.1
    clear HFD HFN
    go_enter Tryz.func10, Tryz.ntmps10
    go_wp2_with fail
    refine (h.out _ HB0.out).mono ?_
    rintro e w1 ⟨rfl, hb1⟩
    have HK1 : Hid (Keep w w1 [(w.heap.size, #[.string f, .string o, .int .i64 p0, .int .i64 p1, .int .i64 p2, .int .i64 p3, .int .i64 p4, .int .i64 p5, .int .i64 p6], 24)]) := hiD (((Keep.nil w).more #[.string f, .string o, .int .i64 p0, .int .i64 p1, .int .i64 p2, .int .i64 p3, .int .i64 p4, .int .i64 p5, .int .i64 p6] 24).next hb1)
    obtain ⟨gN, HGN⟩ : ∃ gN, Hid (w1.heap.size = gN) := ⟨_, hiD rfl⟩
    obtain ⟨WN, HWN⟩ : ∃ WN, Hid (w1.alloc (.cells #[.string ⟨#[109]⟩, .string ⟨#[107, 103]⟩, .string ⟨#[115]⟩, .string ⟨#[75]⟩, .string ⟨#[109, 111, 108]⟩, .string ⟨#[65]⟩, .string ⟨#[99, 100]⟩] 57) = WN) := ⟨_, hiD rfl⟩
    have HK2 : Hid (Keep w WN [(gN, #[.string ⟨#[109]⟩, .string ⟨#[107, 103]⟩, .string ⟨#[115]⟩, .string ⟨#[75]⟩, .string ⟨#[109, 111, 108]⟩, .string ⟨#[65]⟩, .string ⟨#[99, 100]⟩], 57), (w.heap.size, #[.string f, .string o, .int .i64 p0, .int .i64 p1, .int .i64 p2, .int .i64 p3, .int .i64 p4, .int .i64 p5, .int .i64 p6], 24)]) := hiD (by rw [← HWN.out, ← HGN.out]; exact HK1.out.more #[.string ⟨#[109]⟩, .string ⟨#[107, 103]⟩, .string ⟨#[115]⟩, .string ⟨#[75]⟩, .string ⟨#[109, 111, 108]⟩, .string ⟨#[65]⟩, .string ⟨#[99, 100]⟩] 57)
    clear hb1
    go_upto_region 4 with fail
    rw [HWN.out, HGN.out]
    have hc := HK2.out.one _ (List.mem_cons_of_mem _ (List.mem_cons_self ..))
    have k0 := ceh hc 0
    have k1 := ceh hc 1
    have k2 := ceh hc 2
    have k3 := ceh hc 3
    have k4 := ceh hc 4
    have k5 := ceh hc 5
    have k6 := ceh hc 6
    have k7 := ceh hc 7
    have k8 := ceh hc 8
    clear hc HWN HGN HK1
    go_wp2_with fail
    
  case' cc =>
    clear hcase
    have HHD : Hid ([] ++ wordsP 0 ([p0, p1, p2, p3, p4, p5, p6].drop 0) = Y) := hiD (by
      have e := HYE.out
      unfold headT at e
      rw [← HFD.out, hf.1, show ([p0, p1, p2, p3, p4, p5, p6] == noPs) = false from beq_eq_false_iff_ne.2 (of_decide_eq_false hf.2), if_pos (by decide)] at e
      exact e)
    have HHN : Hid (∀ y ∈ ([] : List (List UInt8)), y ≠ []) := hiD (fun y hy => by cases hy)
    have HSE : Hid ((⟨#[]⟩ : ByteArray) = ⟨(join [] [32]).toArray⟩) := hiD rfl
    rw [hf.2] at HQ
    have hf := hf.1
    clear HFD HFN
    go_enter Tryz.func10, Tryz.ntmps10
    go_wp2_with fail
    refine (h.out _ HB0.out).mono ?_
    rintro e w1 ⟨rfl, hb1⟩
    have HK1 : Hid (Keep w w1 [(w.heap.size, #[.string f, .string o, .int .i64 p0, .int .i64 p1, .int .i64 p2, .int .i64 p3, .int .i64 p4, .int .i64 p5, .int .i64 p6], 24)]) := hiD (((Keep.nil w).more #[.string f, .string o, .int .i64 p0, .int .i64 p1, .int .i64 p2, .int .i64 p3, .int .i64 p4, .int .i64 p5, .int .i64 p6] 24).next hb1)
    obtain ⟨gN, HGN⟩ : ∃ gN, Hid (w1.heap.size = gN) := ⟨_, hiD rfl⟩
    obtain ⟨WN, HWN⟩ : ∃ WN, Hid (w1.alloc (.cells #[.string ⟨#[109]⟩, .string ⟨#[107, 103]⟩, .string ⟨#[115]⟩, .string ⟨#[75]⟩, .string ⟨#[109, 111, 108]⟩, .string ⟨#[65]⟩, .string ⟨#[99, 100]⟩] 57) = WN) := ⟨_, hiD rfl⟩
    have HK2 : Hid (Keep w WN [(gN, #[.string ⟨#[109]⟩, .string ⟨#[107, 103]⟩, .string ⟨#[115]⟩, .string ⟨#[75]⟩, .string ⟨#[109, 111, 108]⟩, .string ⟨#[65]⟩, .string ⟨#[99, 100]⟩], 57), (w.heap.size, #[.string f, .string o, .int .i64 p0, .int .i64 p1, .int .i64 p2, .int .i64 p3, .int .i64 p4, .int .i64 p5, .int .i64 p6], 24)]) := hiD (by rw [← HWN.out, ← HGN.out]; exact HK1.out.more #[.string ⟨#[109]⟩, .string ⟨#[107, 103]⟩, .string ⟨#[115]⟩, .string ⟨#[75]⟩, .string ⟨#[109, 111, 108]⟩, .string ⟨#[65]⟩, .string ⟨#[99, 100]⟩] 57)
    clear hb1
    go_upto_region 4 with fail
    rw [HWN.out, HGN.out]
    have hc := HK2.out.one _ (List.mem_cons_of_mem _ (List.mem_cons_self ..))
    have k0 := ceh hc 0
    have k1 := ceh hc 1
    have k2 := ceh hc 2
    have k3 := ceh hc 3
    have k4 := ceh hc 4
    have k5 := ceh hc 5
    have k6 := ceh hc 6
    have k7 := ceh hc 7
    have k8 := ceh hc 8
    clear hc HWN HGN HK1
    go_wp2_with fail
    
  all_goals
    clear HB0 h HYE HFT k0 k1 k2 k3 k4 k5 k6 k7 k8 hf
    go_loopw [5, 25] (fun ov iv wr => ∃ (k : Nat) (X : List (List UInt8)) (S : ByteArray), k ≤ 7 ∧ iv = .int .i64 (k : Int) ∧ ov = .string S ∧ Hid (S = ⟨(join X [32]).toArray⟩) ∧ Hid (X ++ wordsP k ([p0, p1, p2, p3, p4, p5, p6].drop k) = Y) ∧ Hid (∀ y ∈ X, y ≠ []) ∧ Hid (Keep w wr [(gN, #[.string ⟨#[109]⟩, .string ⟨#[107, 103]⟩, .string ⟨#[115]⟩, .string ⟨#[75]⟩, .string ⟨#[109, 111, 108]⟩, .string ⟨#[65]⟩, .string ⟨#[99, 100]⟩], 57), (w.heap.size, #[.string f, .string o, .int .i64 p0, .int .i64 p1, .int .i64 p2, .int .i64 p3, .int .i64 p4, .int .i64 p5, .int .i64 p6], 24)])) (fun _ iv _ => 7 - (intOf iv).toNat)
    case atStart => exact ⟨0, _, _, by omega, rfl, rfl, HSE, HHD, HHN, HK2⟩
    case round =>
      clear HSE HHD HHN HK2
      obtain ⟨k, X, S, hk, rfl, rfl, HS, HXE, HXN, HK⟩ := hrel
      by_cases hlt : k < 7
      · have hltI : (k : Int) < 7 := by omega
        obtain ⟨pk, HPK⟩ : ∃ pk, Hid ([p0, p1, p2, p3, p4, p5, p6].getD k 0 = pk) := ⟨_, hiD rfl⟩
        have hix := HX.out k hlt
        rw [HPK.out] at hix
        obtain ⟨NM, HNM⟩ : ∃ NM : ByteArray, Hid ((⟨(nameT k).toArray⟩ : ByteArray) = NM) := ⟨_, hiD rfl⟩
        have hN : wr.cell? ⟨gN, k, none⟩ = some (.string NM) := by rw [← HNM.out]; exact cell_name k hlt (HK.out.one _ (List.mem_cons_self ..))
        have hNS : (NM.size : Int) ≤ 3 := by rw [← HNM.out]; have := name_len k; show ((nameT k).toArray.size : Int) ≤ 3; simp; omega
        have HPI : Hid (isPow pk = true) := hiD (by
          have h1 := HIN.out
          unfold inR at h1
          refine List.all_eq_true.1 h1 pk ?_
          rw [← HPK.out, List.getD_eq_getElem?_getD, List.getElem?_eq_getElem (by simpa using hlt)]
          exact List.getElem_mem _)
        obtain ⟨IT, HIT⟩ : ∃ IT : ByteArray, Hid ((⟨(itoa pk).toArray⟩ : ByteArray) = IT) := ⟨_, hiD rfl⟩
        have hIS : (IT.size : Int) ≤ 3 := by rw [← HIT.out]; have := itoa_len HPI.out; show ((itoa pk).toArray.size : Int) ≤ 3; simp; omega
        have HDR : Hid (wordsP k ([p0, p1, p2, p3, p4, p5, p6].drop k) = wordP k pk ++ wordsP (k + 1) ([p0, p1, p2, p3, p4, p5, p6].drop (k + 1))) := hiD (by
          rw [drop_cons (by simpa using hlt), HPK.out]; rfl)
        have hSS : (S.size : Int) ≤ 138 := by
          rw [HS.out]
          have : (join X [32]).length ≤ 138 := Nat.le_trans (by rw [← HXE.out]; exact join_pre) HYL.out
          show ((join X [32]).toArray.size : Int) ≤ 138
          simp; omega
        have HXP := HXN
        clear HPK
        by_cases hp0 : pk = 0
        · subst hp0
          have HXE9 : Hid (X ++ wordsP (k + 1) ([p0, p1, p2, p3, p4, p5, p6].drop (k + 1)) = Y) := hiD (by
            have e := HDR.out
            rw [show wordP k 0 = [] from rfl, List.nil_append] at e
            rw [← e]; exact HXE.out)
          go_wp2_with fail
          go_roundw
          case rel => exact ⟨k + 1, X, S, by omega, by go_num, rfl, HS, HXE9, HXN, HK⟩
          case measure => simp [intOf]; omega
        · have t0 : (pk == 0) = false := by simpa using hp0
          have HFI : Hid (∀ W, Below wr.heap.size wr W → Calls Tryz.prog 27 #[.int .i64 pk] W fun e w' => e = .returned (.string IT) ∧ Below W.heap.size W w') := hiD (fun W _ => by
            have hb := HPI.out
            unfold isPow at hb
            simp only [Bool.and_eq_true, decide_eq_true_eq] at hb
            have h := rfromInt_any pk (hiD ⟨by omega, by omega⟩) W
            unfold TxtPost at h
            rwa [HIT.out] at h)
          have HW1 : Hid (wordP k pk ≠ [] ∧ ∃ x, wordP k pk = [x] ∧ x ≠ [] ∧ (pk = 1 → x = nameT k) ∧ (pk ≠ 1 → x = nameT k ++ 94 :: itoa pk)) := hiD (by
            obtain ⟨c, t, e, -, -⟩ := name_first k
            unfold wordP
            rw [if_neg hp0]
            split
            · rename_i h1; exact ⟨by simp, _, rfl, by rw [e]; simp, fun _ => rfl, fun h => absurd h1 h⟩
            · rename_i h1; exact ⟨by simp, _, rfl, by rw [e]; simp, fun h => absurd h h1, fun _ => rfl⟩)
          obtain ⟨-, x, hx1, hx2, hx3, hx4⟩ := HW1.out
          have HXE9 : Hid ((X ++ [x]) ++ wordsP (k + 1) ([p0, p1, p2, p3, p4, p5, p6].drop (k + 1)) = Y) := hiD (by
            have e := HDR.out
            rw [hx1] at e
            rw [List.append_assoc, ← e]; exact HXE.out)
          have HXN9 : Hid (∀ y ∈ X ++ [x], y ≠ []) := hiD (by
            intro y hy
            rw [List.mem_append] at hy
            rcases hy with hy | hy
            · exact HXN.out y hy
            · rw [List.mem_singleton.1 hy]; exact hx2)
          have HLB : Hid ((join (X ++ [x]) [32]).length ≤ 138) := hiD (by
            refine Nat.le_trans ?_ HYL.out
            rw [← HXE9.out]; exact join_pre)
          have hcase2 : (X = [] ∧ pk = 1) ∨ (X = [] ∧ pk ≠ 1) ∨ (X ≠ [] ∧ pk = 1) ∨ (X ≠ [] ∧ pk ≠ 1) := by
            by_cases h1 : X = [] <;> by_cases h2 : pk = 1 <;> simp [h1, h2]
          have HX3 := hiD hx3
          have HX4 := hiD hx4
          clear hx1 hx2 hx3 hx4 HW1 hp0 HDR HXE HXN
          rcases hcase2 with ⟨hX, h1⟩ | ⟨hX, h1⟩ | ⟨hX, h1⟩ | ⟨hX, h1⟩
          · subst hX
            obtain rfl : S = ⟨#[]⟩ := by rw [HS.out]; rfl
            have t1 : (pk != 1) = false := by simpa using h1
            have t1' : (pk == 1) = true := by simpa using h1
            have HS9 : Hid (⟨#[]⟩ ++ NM = ⟨(join ([] ++ [x]) [32]).toArray⟩) := hiD (by
              rw [← HNM.out, HX3.out h1]
              rw [show (⟨#[]⟩ : ByteArray) = ⟨([] : List UInt8).toArray⟩ from rfl]
              
              simp only [bytes_cat, List.nil_append, join_one] <;> rfl)
            clear h1
            go_wp2_with fail
            go_roundw
            case rel => exact ⟨k + 1, [] ++ [x], _, by omega, by go_num, rfl, HS9, HXE9, HXN9, HK⟩
            case measure => simp [intOf]; omega
          · subst hX
            obtain rfl : S = ⟨#[]⟩ := by rw [HS.out]; rfl
            have t1 : (pk != 1) = true := by simpa using h1
            have t1' : (pk == 1) = false := by simpa using h1
            have HS9 : Hid (⟨#[]⟩ ++ NM ++ (⟨#[94]⟩ ++ IT) = ⟨(join ([] ++ [x]) [32]).toArray⟩) := hiD (by
              rw [← HNM.out, ← HIT.out, HX4.out h1]
              rw [show (⟨#[]⟩ : ByteArray) = ⟨([] : List UInt8).toArray⟩ from rfl]
              rw [show (⟨#[94]⟩ : ByteArray) = ⟨[94].toArray⟩ from rfl]
              simp only [bytes_cat, List.nil_append, join_one] <;> rfl)
            clear h1
            go_wp2_with fail
            refine (HFI.out _ (Below.refl _ _)).mono ?_
            rintro e w3 ⟨rfl, hb3⟩
            have HK9 := hiD (HK.out.next hb3)
            clear hb3
            go_wp2_with fail
            go_roundw
            case rel => exact ⟨k + 1, [] ++ [x], _, by omega, by go_num, rfl, HS9, HXE9, HXN9, HK9⟩
            case measure => simp [intOf]; omega
          · have he : ¬ S.toList = [] := by rw [HS.out, Lib.toList_data]; exact join_ne hX HXP.out
            have he2 : S.toList.isEmpty = false := by simpa using he
            have t1 : (pk != 1) = false := by simpa using h1
            have t1' : (pk == 1) = true := by simpa using h1
            have HS9 : Hid (S ++ ⟨#[32]⟩ ++ NM = ⟨(join (X ++ [x]) [32]).toArray⟩) := hiD (by
              rw [HS.out, ← HNM.out, HX3.out h1]
              rw [show (⟨#[32]⟩ : ByteArray) = ⟨[32].toArray⟩ from rfl]
              
              simp only [bytes_cat]
              rw [join_snoc _ hX]
              congr 2; simp)
            clear hX h1
            go_wp2_with fail
            go_roundw
            case rel => exact ⟨k + 1, X ++ [x], _, by omega, by go_num, rfl, HS9, HXE9, HXN9, HK⟩
            case measure => simp [intOf]; omega
          · have he : ¬ S.toList = [] := by rw [HS.out, Lib.toList_data]; exact join_ne hX HXP.out
            have he2 : S.toList.isEmpty = false := by simpa using he
            have t1 : (pk != 1) = true := by simpa using h1
            have t1' : (pk == 1) = false := by simpa using h1
            have HS9 : Hid (S ++ ⟨#[32]⟩ ++ NM ++ (⟨#[94]⟩ ++ IT) = ⟨(join (X ++ [x]) [32]).toArray⟩) := hiD (by
              rw [HS.out, ← HNM.out, ← HIT.out, HX4.out h1]
              rw [show (⟨#[32]⟩ : ByteArray) = ⟨[32].toArray⟩ from rfl]
              rw [show (⟨#[94]⟩ : ByteArray) = ⟨[94].toArray⟩ from rfl]
              simp only [bytes_cat]
              rw [join_snoc _ hX]
              congr 2; simp)
            clear hX h1
            go_wp2_with fail
            refine (HFI.out _ (Below.refl _ _)).mono ?_
            rintro e w3 ⟨rfl, hb3⟩
            have HK9 := hiD (HK.out.next hb3)
            clear hb3
            go_wp2_with fail
            go_roundw
            case rel => exact ⟨k + 1, X ++ [x], _, by omega, by go_num, rfl, HS9, HXE9, HXN9, HK9⟩
            case measure => simp [intOf]; omega
      · obtain rfl : k = 7 := by omega
        have HXY : Hid (X = Y) := hiD (by have e := HXE.out; rw [show [p0, p1, p2, p3, p4, p5, p6].drop 7 = [] from rfl, show wordsP 7 [] = [] from rfl, List.append_nil] at e; exact e)
        have HBB := hiD HK.out.below
        go_wp2_with fail
        go_ret2
        exact ⟨by rw [← HXY.out, ← HS.out]; rfl, HBB.out⟩
theorem rformat_any (f o : ByteArray) (p0 p1 p2 p3 p4 p5 p6 : Int) (w : World) : Calls Tryz.prog 10 #[.agg #[.string f, .string o, .int .i64 p0, .int .i64 p1, .int .i64 p2, .int .i64 p3, .int .i64 p4, .int .i64 p5, .int .i64 p6]] w (FmtPost (fmtT (tU f o p0 p1 p2 p3 p4 p5 p6)) w) := by
  have h : Hid (∀ W, Below w.heap.size w W → Calls Tryz.prog 26 #[.agg #[.string f, .string o, .int .i64 p0, .int .i64 p1, .int .i64 p2, .int .i64 p3, .int .i64 p4, .int .i64 p5, .int .i64 p6]] W fun e w' => e = .returned (.bool (plainT (tU f o p0 p1 p2 p3 p4 p5 p6))) ∧ Below W.heap.size W w') := hiD (fun W hW => rpl_any f o p0 p1 p2 p3 p4 p5 p6 W)
  unfold fmtT
  cases hp : plainT (tU f o p0 p1 p2 p3 p4 p5 p6) with
  | false => rw [hp] at h; exact rformat_no f o p0 p1 p2 p3 p4 p5 p6 w h
  | true => rw [hp] at h; exact rformat_yes f o p0 p1 p2 p3 p4 p5 p6 w (hiD hp) h
end Go.Proofs.YtfjnipkpfbkegaaGreatDoor
