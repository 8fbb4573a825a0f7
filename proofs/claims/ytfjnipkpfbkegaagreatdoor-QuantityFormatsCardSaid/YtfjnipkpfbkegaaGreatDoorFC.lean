/- FormatUnit of the program, where the unit is plain. -/
import Derived.Test.YtfjnipkpfbkegaaGreatDoorFB
set_option maxHeartbeats 2000000
set_option maxRecDepth 100000
namespace Go.Proofs.YtfjnipkpfbkegaaGreatDoor
open Go.RowKit Big
open Go.Lib
theorem index_name (k : Nat) (hk : k < 7) : ∀ W, (Instr.index 57 (.agg #[.string ⟨#[109]⟩, .string ⟨#[107, 103]⟩, .string ⟨#[115]⟩, .string ⟨#[75]⟩, .string ⟨#[109, 111, 108]⟩, .string ⟨#[65]⟩, .string ⟨#[99, 100]⟩]) (.int .i64 (k : Int))).run Tryz.prog W = .ok (.string ⟨(nameT k).toArray⟩) W := by
  match k, hk with
  | 0, _ => exact fun _ => by kernel_rfl
  | 1, _ => exact fun _ => by kernel_rfl
  | 2, _ => exact fun _ => by kernel_rfl
  | 3, _ => exact fun _ => by kernel_rfl
  | 4, _ => exact fun _ => by kernel_rfl
  | 5, _ => exact fun _ => by kernel_rfl
  | 6, _ => exact fun _ => by kernel_rfl
theorem Keep.grown9 {w U w9 : World} {c : Array Value} {pv : Option Addr} {cv n : Nat} {vals : List Value} (h : Keep w U [(w.heap.size, c, 24)]) (ho : U.ownsRow (w.heap.size + 1) 9 1 (.slice pv n cv) n vals) (hg : U.grownBy w9 (Value.slice pv n cv).ownBlock) : Keep w w9 [(w.heap.size, c, 24)] := by
  have hr : ∀ k, (Value.slice pv n cv).ownBlock = some k → w.heap.size + 1 ≤ k := fun k e => by
    obtain ⟨-, ⟨hv, -⟩ | ⟨g, cap, cur, hv, hg, -⟩⟩ := ho
    · rw [hv] at e; cases e
    · rw [hv] at e; cases e; exact hg
  refine ⟨h.below.grown hg h.below.size (fun k e => by have := hr k e; omega), fun x hx => ?_⟩
  have hx0 := h.all x hx
  rw [List.mem_singleton] at hx
  subst hx
  simp only at hx0 ⊢
  rw [hg.block w.heap.size (Array.getElem?_eq_some_iff.1 hx0).1 (fun e => by have := hr _ e.symm; omega)]
  exact hx0
theorem cell_pow (f o : ByteArray) (p0 p1 p2 p3 p4 p5 p6 : Int) (k : Nat) (hk : k < 7) {w W : World} (h : Keep w W [(w.heap.size, #[.string f, .string o, .int .i64 p0, .int .i64 p1, .int .i64 p2, .int .i64 p3, .int .i64 p4, .int .i64 p5, .int .i64 p6], 24)]) : W.cell? ⟨w.heap.size, 2 + k, none⟩ = some (.int .i64 ([p0, p1, p2, p3, p4, p5, p6].getD k 0)) := by
  have hc := h.one _ (List.mem_cons_self ..)
  match k, hk with
  | 0, _ => exact ceh hc 2
  | 1, _ => exact ceh hc 3
  | 2, _ => exact ceh hc 4
  | 3, _ => exact ceh hc 5
  | 4, _ => exact ceh hc 6
  | 5, _ => exact ceh hc 7
  | 6, _ => exact ceh hc 8
theorem drop_cons {l : List Int} {k : Nat} (h : k < l.length) : l.drop k = l.getD k 0 :: l.drop (k + 1) := by
  rw [List.drop_eq_getElem_cons h, List.getD_eq_getElem?_getD, List.getElem?_eq_getElem h]; rfl
theorem words_ne {u : UnitT} (hp : u.ps.length = 7) : wordsT u ≠ [] := by
  intro he
  unfold wordsT at he
  rw [List.append_eq_nil_iff] at he
  obtain ⟨h1, h2⟩ := he
  unfold headT at h1
  split at h1
  · rename_i hc
    simp only [Bool.and_eq_true, Bool.not_eq_true', beq_eq_false_iff_ne] at hc
    refine pairs_ne hp hc.2 ?_
    have := congrArg List.length h2
    rw [← pairs_words, List.length_map] at this
    exact List.eq_nil_of_length_eq_zero this
  · cases h1
theorem bytes_cat (a b : List UInt8) : (⟨a.toArray⟩ : ByteArray) ++ ⟨b.toArray⟩ = ⟨(a ++ b).toArray⟩ := by
  apply ByteArray.ext
  simp [ByteArray.data_append]
theorem format_yes (f o : ByteArray) (p0 p1 p2 p3 p4 p5 p6 : Int) (w : World) (htab : Tab w) (hpl : Hid (plainT (tU f o p0 p1 p2 p3 p4 p5 p6) = true)) (h : Hid (∀ W, Below w.heap.size w W → Calls Tryz.prog 23 #[.agg #[.string f, .string o, .int .i64 p0, .int .i64 p1, .int .i64 p2, .int .i64 p3, .int .i64 p4, .int .i64 p5, .int .i64 p6]] W fun e w' => e = .returned (.bool true) ∧ Below W.heap.size W w')) : Calls Tryz.prog 9 #[.agg #[.string f, .string o, .int .i64 p0, .int .i64 p1, .int .i64 p2, .int .i64 p3, .int .i64 p4, .int .i64 p5, .int .i64 p6]] w (FmtPost (join (wordsT (tU f o p0 p1 p2 p3 p4 p5 p6)) [32], 0) w) := by
  have HB0 := hiD (bea w (.cells #[.string f, .string o, .int .i64 p0, .int .i64 p1, .int .i64 p2, .int .i64 p3, .int .i64 p4, .int .i64 p5, .int .i64 p6] 24))
  have Htab := hiD htab
  have HIN : Hid (inR [p0, p1, p2, p3, p4, p5, p6] = true) := hiD (plainT_iff.1 hpl.out).2.2.1
  have HX := hiD index_name
  have HQ := powers_eq10 p0 p1 p2 p3 p4 p5 p6 0 0 0 0 0 0 0
  obtain ⟨Y, HY⟩ : ∃ Y, Hid (wordsT (tU f o p0 p1 p2 p3 p4 p5 p6) = Y) := ⟨_, hiD rfl⟩
  have HYN : Hid (Y ≠ []) := hiD (by rw [← HY.out]; exact words_ne rfl)
  have HYL : Hid ((join Y [32]).length ≤ 138) := hiD (by
    rw [← HY.out]
    have h1 := plainT_iff.1 hpl.out
    have h2 := fmt_len (f := f.data.toList) (ps := [p0, p1, p2, p3, p4, p5, p6]) (num_len h1.1) h1.2.2.1 rfl
    have h3 : o.data.toList = [48] := h1.2.2.2
    unfold tU
    rw [h3]; exact h2)
  obtain ⟨fl, HFL⟩ : ∃ fl, Hid (f.data.toList = fl) := ⟨_, hiD rfl⟩
  have HFT : Hid (f = ⟨fl.toArray⟩) := hiD (by rw [← HFL.out])
  have HYE : Hid (headT fl [p0, p1, p2, p3, p4, p5, p6] ++ wordsP 0 ([p0, p1, p2, p3, p4, p5, p6].drop 0) = Y) := hiD (by rw [← HFL.out]; exact HY.out)
  have HFD : Hid (f.toList = fl) := hiD (by rw [← HFL.out]; exact Lib.toList_data f)
  rw [HY.out]
  unfold FmtPost
  clear htab HY HFL hpl
  have hcase : (f.toList == [49]) = false ∨ ((f.toList == [49]) = true ∧ decide ([p0, p1, p2, p3, p4, p5, p6] = [0, 0, 0, 0, 0, 0, 0]) = true) ∨ ((f.toList == [49]) = true ∧ decide ([p0, p1, p2, p3, p4, p5, p6] = [0, 0, 0, 0, 0, 0, 0]) = false) := by
    cases (f.toList == [49]) <;> cases decide ([p0, p1, p2, p3, p4, p5, p6] = [0, 0, 0, 0, 0, 0, 0]) <;> simp
  refine hcase.elim (fun hf => ?ca) (fun hcase => hcase.elim (fun hf => ?cb) (fun hf => ?cc))
  case' ca =>
    have HHD : Hid (headT fl [p0, p1, p2, p3, p4, p5, p6] = [] ++ [fl]) := hiD (by
      unfold headT
      rw [← HFD.out, hf]; rfl)
    clear HQ hcase
    go_enter Tryz.func9, Tryz.ntmps9
    go_wp2_with fail
    refine (h.out _ HB0.out).mono ?_
    rintro e w1 ⟨rfl, hb1⟩
    have HK1 : Hid (Keep w w1 [(w.heap.size, #[.string f, .string o, .int .i64 p0, .int .i64 p1, .int .i64 p2, .int .i64 p3, .int .i64 p4, .int .i64 p5, .int .i64 p6], 24)]) := hiD (((Keep.nil w).more #[.string f, .string o, .int .i64 p0, .int .i64 p1, .int .i64 p2, .int .i64 p3, .int .i64 p4, .int .i64 p5, .int .i64 p6] 24).next hb1)
    have hc := HK1.out.one _ (List.mem_cons_self ..)
    have k0 := ceh hc 0
    have k1 := ceh hc 1
    have k2 := ceh hc 2
    have k3 := ceh hc 3
    have k4 := ceh hc 4
    have k5 := ceh hc 5
    have k6 := ceh hc 6
    have k7 := ceh hc 7
    have k8 := ceh hc 8
    clear hb1 hc
    have HUU : Hid (f = ⟨fl.toArray⟩) := HFT
    obtain ⟨WB, HWB⟩ : ∃ WB, Hid (w1 = WB) := ⟨_, hiD rfl⟩
    rw [HWB.out] at HK1 k0 k1 k2 k3 k4 k5 k6 k7 k8
    have HKB := HK1
    obtain ⟨pv, HPV⟩ : ∃ pv : Option Addr, Hid (none = pv) := ⟨_, hiD rfl⟩
    have HOB : Hid (WB.ownsRow (w.heap.size + 1) 9 1 (.slice pv 0 0) 0 (strs [])) := hiD (by rw [← HPV.out]; exact World.ownsRow_nil WB _ 9 1)
    have HNL : Hid (0 ≤ 100000) := hiD (by omega)
    rw [HWB.out]
    go_upto_region 5 with fail
    rw [show Value.slice none 0 0 = Value.slice pv 0 0 by rw [HPV.out]]
    obtain ⟨gU, HgU⟩ : ∃ g, Hid (WB.heap.size = g) := ⟨_, hiD rfl⟩
    obtain ⟨U1, HU1⟩ : ∃ U1, Hid (WB.alloc (.cells #[.string f] 9) = U1) := ⟨_, hiD rfl⟩
    have hbU : Below WB.heap.size WB U1 := by rw [← HU1.out]; exact (Below.refl _ _).alloc (Nat.le_refl _) _
    have HOU : Hid (U1.ownsRow (w.heap.size + 1) 9 1 (.slice pv 0 0) 0 (strs [])) := hiD (own_below' HOB.out hbU)
    have HUC : Hid (U1.cell? ⟨gU, 0, none⟩ = some (.string ⟨(fl).toArray⟩)) := hiD (by
      have h : U1.heap[gU]? = some (.cells #[.string f] 9 (0, 0)) := by rw [← HU1.out, ← HgU.out]; exact heap_new WB _
      have e : U1.cell? ⟨gU, 0, none⟩ = some (.string f) := by simp [World.cell?, h]
      rw [e]; exact congrArg (fun x => some (Value.string x)) HUU.out)
    have HKU := hiD (HKB.out.next hbU)
    have HUS : Hid (w.heap.size + 1 ≤ U1.heap.size) := hiD (HKU.out.lt (List.mem_cons_self ..))
    clear hbU
    go_wp2_with (first | (rw [HU1.out, HgU.out]; at_builtin; refine wpList_append_1s rfl (.tmp 20) (.tmp 23) rfl (w.heap.size + 1) pv 0 0 [] rfl HOU.out gU (fl) rfl HUC.out HNL.out HUS.out ?_) | (at_builtin; rw [HU1.out, HgU.out]; refine wpList_append_1s rfl (.tmp 20) (.tmp 23) rfl (w.heap.size + 1) pv 0 0 [] rfl HOU.out gU (fl) rfl HUC.out HNL.out HUS.out ?_))
    intro gv cv' w9 hown9 hg9
    have HO9 := hiD hown9
    have HK9 := hiD (HKU.out.grown9 HOU.out hg9)
    clear hown9 hg9
    have HXL : Hid (([] ++ [fl]).length = 0 + 1) := hiD rfl
    have HN1 : Hid (0 + 1 ≤ 1) := hiD (by omega)
    have HXE : Hid (([] ++ [fl]) ++ wordsP 0 ([p0, p1, p2, p3, p4, p5, p6].drop 0) = Y) := hiD (by rw [← HHD.out]; exact HYE.out)
    clear HOU HUC HKU HUS HKB HOB HU1 HgU HWB HNL HUU
    go_wp2_with fail
  case' cb =>
    clear hcase
    have HHD : Hid (headT fl [p0, p1, p2, p3, p4, p5, p6] = [] ++ [fl]) := hiD (by
      unfold headT
      rw [show ([p0, p1, p2, p3, p4, p5, p6] == noPs) = true from beq_iff_eq.2 (of_decide_eq_true hf.2), Bool.not_true, Bool.and_false]; rfl)
    rw [hf.2] at HQ
    have hf := hf.1
    go_enter Tryz.func9, Tryz.ntmps9
    go_wp2_with fail
    refine (h.out _ HB0.out).mono ?_
    rintro e w1 ⟨rfl, hb1⟩
    have HK1 : Hid (Keep w w1 [(w.heap.size, #[.string f, .string o, .int .i64 p0, .int .i64 p1, .int .i64 p2, .int .i64 p3, .int .i64 p4, .int .i64 p5, .int .i64 p6], 24)]) := hiD (((Keep.nil w).more #[.string f, .string o, .int .i64 p0, .int .i64 p1, .int .i64 p2, .int .i64 p3, .int .i64 p4, .int .i64 p5, .int .i64 p6] 24).next hb1)
    have hc := HK1.out.one _ (List.mem_cons_self ..)
    have k0 := ceh hc 0
    have k1 := ceh hc 1
    have k2 := ceh hc 2
    have k3 := ceh hc 3
    have k4 := ceh hc 4
    have k5 := ceh hc 5
    have k6 := ceh hc 6
    have k7 := ceh hc 7
    have k8 := ceh hc 8
    clear hb1 hc
    have HUU : Hid (f = ⟨fl.toArray⟩) := HFT
    obtain ⟨WB, HWB⟩ : ∃ WB, Hid (w1 = WB) := ⟨_, hiD rfl⟩
    rw [HWB.out] at HK1 k0 k1 k2 k3 k4 k5 k6 k7 k8
    have HKB := HK1
    obtain ⟨pv, HPV⟩ : ∃ pv : Option Addr, Hid (none = pv) := ⟨_, hiD rfl⟩
    have HOB : Hid (WB.ownsRow (w.heap.size + 1) 9 1 (.slice pv 0 0) 0 (strs [])) := hiD (by rw [← HPV.out]; exact World.ownsRow_nil WB _ 9 1)
    have HNL : Hid (0 ≤ 100000) := hiD (by omega)
    rw [HWB.out]
    go_upto_region 5 with fail
    rw [show Value.slice none 0 0 = Value.slice pv 0 0 by rw [HPV.out]]
    obtain ⟨gU, HgU⟩ : ∃ g, Hid (WB.heap.size = g) := ⟨_, hiD rfl⟩
    obtain ⟨U1, HU1⟩ : ∃ U1, Hid (WB.alloc (.cells #[.string f] 9) = U1) := ⟨_, hiD rfl⟩
    have hbU : Below WB.heap.size WB U1 := by rw [← HU1.out]; exact (Below.refl _ _).alloc (Nat.le_refl _) _
    have HOU : Hid (U1.ownsRow (w.heap.size + 1) 9 1 (.slice pv 0 0) 0 (strs [])) := hiD (own_below' HOB.out hbU)
    have HUC : Hid (U1.cell? ⟨gU, 0, none⟩ = some (.string ⟨(fl).toArray⟩)) := hiD (by
      have h : U1.heap[gU]? = some (.cells #[.string f] 9 (0, 0)) := by rw [← HU1.out, ← HgU.out]; exact heap_new WB _
      have e : U1.cell? ⟨gU, 0, none⟩ = some (.string f) := by simp [World.cell?, h]
      rw [e]; exact congrArg (fun x => some (Value.string x)) HUU.out)
    have HKU := hiD (HKB.out.next hbU)
    have HUS : Hid (w.heap.size + 1 ≤ U1.heap.size) := hiD (HKU.out.lt (List.mem_cons_self ..))
    clear hbU
    go_wp2_with (first | (rw [HU1.out, HgU.out]; at_builtin; refine wpList_append_1s rfl (.tmp 20) (.tmp 23) rfl (w.heap.size + 1) pv 0 0 [] rfl HOU.out gU (fl) rfl HUC.out HNL.out HUS.out ?_) | (at_builtin; rw [HU1.out, HgU.out]; refine wpList_append_1s rfl (.tmp 20) (.tmp 23) rfl (w.heap.size + 1) pv 0 0 [] rfl HOU.out gU (fl) rfl HUC.out HNL.out HUS.out ?_))
    intro gv cv' w9 hown9 hg9
    have HO9 := hiD hown9
    have HK9 := hiD (HKU.out.grown9 HOU.out hg9)
    clear hown9 hg9
    have HXL : Hid (([] ++ [fl]).length = 0 + 1) := hiD rfl
    have HN1 : Hid (0 + 1 ≤ 1) := hiD (by omega)
    have HXE : Hid (([] ++ [fl]) ++ wordsP 0 ([p0, p1, p2, p3, p4, p5, p6].drop 0) = Y) := hiD (by rw [← HHD.out]; exact HYE.out)
    clear HOU HUC HKU HUS HKB HOB HU1 HgU HWB HNL HUU
    go_wp2_with fail
  case' cc =>
    clear hcase
    have HHD : Hid (headT fl [p0, p1, p2, p3, p4, p5, p6] = []) := hiD (by
      unfold headT
      rw [← HFD.out, hf.1, show ([p0, p1, p2, p3, p4, p5, p6] == noPs) = false from beq_eq_false_iff_ne.2 (of_decide_eq_false hf.2)]; rfl)
    rw [hf.2] at HQ
    have hf := hf.1
    go_enter Tryz.func9, Tryz.ntmps9
    go_wp2_with fail
    refine (h.out _ HB0.out).mono ?_
    rintro e w1 ⟨rfl, hb1⟩
    have HK1 : Hid (Keep w w1 [(w.heap.size, #[.string f, .string o, .int .i64 p0, .int .i64 p1, .int .i64 p2, .int .i64 p3, .int .i64 p4, .int .i64 p5, .int .i64 p6], 24)]) := hiD (((Keep.nil w).more #[.string f, .string o, .int .i64 p0, .int .i64 p1, .int .i64 p2, .int .i64 p3, .int .i64 p4, .int .i64 p5, .int .i64 p6] 24).next hb1)
    have hc := HK1.out.one _ (List.mem_cons_self ..)
    have k0 := ceh hc 0
    have k1 := ceh hc 1
    have k2 := ceh hc 2
    have k3 := ceh hc 3
    have k4 := ceh hc 4
    have k5 := ceh hc 5
    have k6 := ceh hc 6
    have k7 := ceh hc 7
    have k8 := ceh hc 8
    clear hb1 hc
    go_wp2_with fail
    have HO9 : Hid (w1.ownsRow (w.heap.size + 1) 9 1 (.slice none 0 0) 0 (strs [])) := hiD (World.ownsRow_nil w1 _ 9 1)
    have HK9 := HK1
    have HXL : Hid (([] : List (List UInt8)).length = 0) := hiD rfl
    have HN1 : Hid (0 ≤ 1) := hiD (by omega)
    have HXE : Hid ([] ++ wordsP 0 ([p0, p1, p2, p3, p4, p5, p6].drop 0) = Y) := hiD (by rw [← HHD.out]; exact HYE.out)
  all_goals
    clear HK1 HHD HB0 h HYE HFD HFT k0 k1 k2 k3 k4 k5 k6 k7 k8 hf
    go_loopw [4, 26] (fun wv iv wr => ∃ (k n cv : Nat) (pv : Option Addr) (X : List (List UInt8)), k ≤ 7 ∧ n ≤ k + 1 ∧ wv = .slice pv n cv ∧ iv = .int .i64 (k : Int) ∧ Hid (X.length = n) ∧ Hid (X ++ wordsP k ([p0, p1, p2, p3, p4, p5, p6].drop k) = Y) ∧ Hid (wr.ownsRow (w.heap.size + 1) 9 1 (.slice pv n cv) n (strs X)) ∧ Hid (Keep w wr [(w.heap.size, #[.string f, .string o, .int .i64 p0, .int .i64 p1, .int .i64 p2, .int .i64 p3, .int .i64 p4, .int .i64 p5, .int .i64 p6], 24)])) (fun _ iv _ => 7 - (intOf iv).toNat)
    case atStart => exact ⟨0, _, _, _, _, by omega, HN1.out, rfl, rfl, HXL, HXE, HO9, HK9⟩
    case round =>
      clear HO9 HK9 HXL HN1 HXE
      obtain ⟨k, n, cv, pv, X, hk, hn, rfl, rfl, HXL, HXE, HO, HK⟩ := hrel
      by_cases hlt : k < 7
      · have hltI : (k : Int) < 7 := by omega
        obtain ⟨pk, HPK⟩ : ∃ pk, Hid ([p0, p1, p2, p3, p4, p5, p6].getD k 0 = pk) := ⟨_, hiD rfl⟩
        have hC : wr.cell? ⟨w.heap.size, 2 + k, none⟩ = some (.int .i64 pk) := by rw [← HPK.out]; exact cell_pow f o p0 p1 p2 p3 p4 p5 p6 k hlt HK.out
        have hix := HX.out k hlt
        obtain ⟨NM, HNM⟩ : ∃ NM : ByteArray, Hid ((⟨(nameT k).toArray⟩ : ByteArray) = NM) := ⟨_, hiD rfl⟩
        rw [HNM.out] at hix
        have hNS : (NM.size : Int) ≤ 3 := by rw [← HNM.out]; have := name_len k; show ((nameT k).toArray.size : Int) ≤ 3; simp; omega
        have HPI : Hid (isPow pk = true) := hiD (by
          have h1 := HIN.out
          unfold inR at h1
          refine List.all_eq_true.1 h1 pk ?_
          rw [← HPK.out, List.getD_eq_getElem?_getD, List.getElem?_eq_getElem (by simpa using hlt)]
          exact List.getElem_mem _)
        have HDR : Hid (wordsP k ([p0, p1, p2, p3, p4, p5, p6].drop k) = wordP k pk ++ wordsP (k + 1) ([p0, p1, p2, p3, p4, p5, p6].drop (k + 1))) := hiD (by
          rw [drop_cons (by simpa using hlt), HPK.out]; rfl)
        have HNL : Hid (n ≤ 100000) := hiD (by omega)
        by_cases hp0 : pk = 0
        · subst hp0
          have HXE9 : Hid (X ++ wordsP (k + 1) ([p0, p1, p2, p3, p4, p5, p6].drop (k + 1)) = Y) := hiD (by
            have e := HDR.out
            rw [show wordP k 0 = [] from rfl, List.nil_append] at e
            rw [← e]; exact HXE.out)
          go_wp2_with fail
          go_roundw
          case rel => exact ⟨k + 1, n, cv, pv, X, by omega, by omega, by first | rfl | go_num, by go_num, HXL, HXE9, HO, HK⟩
          case measure => simp [intOf]; omega
        · by_cases hp1 : pk = 1
          · subst hp1
            have HXE9 : Hid ((X ++ [nameT k]) ++ wordsP (k + 1) ([p0, p1, p2, p3, p4, p5, p6].drop (k + 1)) = Y) := hiD (by
              have e := HDR.out
              rw [show wordP k 1 = [nameT k] from rfl] at e
              rw [List.append_assoc, ← e]; exact HXE.out)
            have HXL9 : Hid ((X ++ [nameT k]).length = n + 1) := hiD (by rw [List.length_append, HXL.out]; rfl)
            have HUU : Hid (NM = ⟨(nameT k).toArray⟩) := hiD HNM.out.symm
            obtain ⟨WB, HWB⟩ : ∃ WB, Hid (wr = WB) := ⟨_, hiD rfl⟩
            have HKB : Hid (Keep w WB [(w.heap.size, #[.string f, .string o, .int .i64 p0, .int .i64 p1, .int .i64 p2, .int .i64 p3, .int .i64 p4, .int .i64 p5, .int .i64 p6], 24)]) := hiD (by rw [← HWB.out]; exact HK.out)
            have HOB : Hid (WB.ownsRow (w.heap.size + 1) 9 1 (.slice pv n cv) n (strs X)) := hiD (by rw [← HWB.out]; exact HO.out)
            rw [HWB.out] at hC
            rw [HWB.out]
            obtain ⟨gU, HgU⟩ : ∃ g, Hid (WB.heap.size = g) := ⟨_, hiD rfl⟩
            obtain ⟨U1, HU1⟩ : ∃ U1, Hid (WB.alloc (.cells #[.string NM] 9) = U1) := ⟨_, hiD rfl⟩
            have hbU : Below WB.heap.size WB U1 := by rw [← HU1.out]; exact (Below.refl _ _).alloc (Nat.le_refl _) _
            have HOU : Hid (U1.ownsRow (w.heap.size + 1) 9 1 (.slice pv n cv) n (strs X)) := hiD (own_below' HOB.out hbU)
            have HUC : Hid (U1.cell? ⟨gU, 0, none⟩ = some (.string ⟨(nameT k).toArray⟩)) := hiD (by
              have h : U1.heap[gU]? = some (.cells #[.string NM] 9 (0, 0)) := by rw [← HU1.out, ← HgU.out]; exact heap_new WB _
              have e : U1.cell? ⟨gU, 0, none⟩ = some (.string NM) := by simp [World.cell?, h]
              rw [e]; exact congrArg (fun x => some (Value.string x)) HUU.out)
            have HKU := hiD (HKB.out.next hbU)
            have HUS : Hid (w.heap.size + 1 ≤ U1.heap.size) := hiD (HKU.out.lt (List.mem_cons_self ..))
            clear hbU
            go_wp2_with (first | (rw [HU1.out, HgU.out]; at_builtin; refine wpList_append_1s rfl (.tmp 47) (.tmp 49) rfl (w.heap.size + 1) pv cv n X rfl HOU.out gU (nameT k) rfl HUC.out HNL.out HUS.out ?_) | (at_builtin; rw [HU1.out, HgU.out]; refine wpList_append_1s rfl (.tmp 47) (.tmp 49) rfl (w.heap.size + 1) pv cv n X rfl HOU.out gU (nameT k) rfl HUC.out HNL.out HUS.out ?_))
            intro gv cv' w9 hown9 hg9
            have HO9 := hiD hown9
            have HK9 := hiD (HKU.out.grown9 HOU.out hg9)
            clear hown9 hg9
            go_wp2_with fail
            go_roundw
            case rel => exact ⟨k + 1, n + 1, cv', some ⟨gv, 0, none⟩, X ++ [nameT k], by omega, by omega, by first | rfl | go_num, by go_num, HXL9, HXE9, HO9, HK9⟩
            case measure => simp [intOf]; omega
          · have t0 : (pk == 0) = false := by simpa using hp0
            have t1 : (pk == 1) = false := by simpa using hp1
            have HXE9 : Hid ((X ++ [nameT k ++ 94 :: itoa pk]) ++ wordsP (k + 1) ([p0, p1, p2, p3, p4, p5, p6].drop (k + 1)) = Y) := hiD (by
              have e := HDR.out
              rw [show wordP k pk = [nameT k ++ 94 :: itoa pk] by unfold wordP; rw [if_neg hp0, if_neg hp1]] at e
              rw [List.append_assoc, ← e]; exact HXE.out)
            have HXL9 : Hid ((X ++ [nameT k ++ 94 :: itoa pk]).length = n + 1) := hiD (by rw [List.length_append, HXL.out]; rfl)
            obtain ⟨IT, HIT⟩ : ∃ IT : ByteArray, Hid ((⟨(itoa pk).toArray⟩ : ByteArray) = IT) := ⟨_, hiD rfl⟩
            have hIS : (IT.size : Int) ≤ 3 := by rw [← HIT.out]; have := itoa_len HPI.out; show ((itoa pk).toArray.size : Int) ≤ 3; simp; omega
            have HCI : Hid (∀ W, Below wr.heap.size wr W → Calls Tryz.prog 24 #[.int .i64 pk] W fun e w' => e = .returned (.string IT) ∧ Below W.heap.size W w') := hiD (fun W hW => by
              rw [← HIT.out]
              have hb := HPI.out
              unfold isPow at hb
              simp only [Bool.and_eq_true, decide_eq_true_eq] at hb
              exact itoa_any pk (by omega) (by omega) W ((Htab.out.below HK.out.below).below hW))
            have HUU : Hid (NM ++ ⟨#[94]⟩ ++ IT = ⟨(nameT k ++ 94 :: itoa pk).toArray⟩) := hiD (by
              rw [← HNM.out, ← HIT.out, show (⟨#[94]⟩ : ByteArray) = ⟨[94].toArray⟩ from rfl, bytes_cat, bytes_cat]; simp)
            clear hp0 hp1
            go_wp2_with fail
            refine (HCI.out _ (Below.refl _ _)).mono ?_
            rintro e w3 ⟨rfl, hb3⟩
            obtain ⟨WB, HWB⟩ : ∃ WB, Hid (w3 = WB) := ⟨_, hiD rfl⟩
            rw [HWB.out] at hb3
            have HKB : Hid (Keep w WB [(w.heap.size, #[.string f, .string o, .int .i64 p0, .int .i64 p1, .int .i64 p2, .int .i64 p3, .int .i64 p4, .int .i64 p5, .int .i64 p6], 24)]) := hiD (HK.out.next hb3)
            have HOB : Hid (WB.ownsRow (w.heap.size + 1) 9 1 (.slice pv n cv) n (strs X)) := hiD (own_below' HO.out hb3)
            rw [HWB.out]
            clear hb3
            obtain ⟨gU, HgU⟩ : ∃ g, Hid (WB.heap.size = g) := ⟨_, hiD rfl⟩
            obtain ⟨U1, HU1⟩ : ∃ U1, Hid (WB.alloc (.cells #[.string (NM ++ ⟨#[94]⟩ ++ IT)] 9) = U1) := ⟨_, hiD rfl⟩
            have hbU : Below WB.heap.size WB U1 := by rw [← HU1.out]; exact (Below.refl _ _).alloc (Nat.le_refl _) _
            have HOU : Hid (U1.ownsRow (w.heap.size + 1) 9 1 (.slice pv n cv) n (strs X)) := hiD (own_below' HOB.out hbU)
            have HUC : Hid (U1.cell? ⟨gU, 0, none⟩ = some (.string ⟨(nameT k ++ 94 :: itoa pk).toArray⟩)) := hiD (by
              have h : U1.heap[gU]? = some (.cells #[.string (NM ++ ⟨#[94]⟩ ++ IT)] 9 (0, 0)) := by rw [← HU1.out, ← HgU.out]; exact heap_new WB _
              have e : U1.cell? ⟨gU, 0, none⟩ = some (.string (NM ++ ⟨#[94]⟩ ++ IT)) := by simp [World.cell?, h]
              rw [e]; exact congrArg (fun x => some (Value.string x)) HUU.out)
            have HKU := hiD (HKB.out.next hbU)
            have HUS : Hid (w.heap.size + 1 ≤ U1.heap.size) := hiD (HKU.out.lt (List.mem_cons_self ..))
            clear hbU
            go_wp2_with (first | (rw [HU1.out, HgU.out]; at_builtin; refine wpList_append_1s rfl (.tmp 35) (.tmp 41) rfl (w.heap.size + 1) pv cv n X rfl HOU.out gU (nameT k ++ 94 :: itoa pk) rfl HUC.out HNL.out HUS.out ?_) | (at_builtin; rw [HU1.out, HgU.out]; refine wpList_append_1s rfl (.tmp 35) (.tmp 41) rfl (w.heap.size + 1) pv cv n X rfl HOU.out gU (nameT k ++ 94 :: itoa pk) rfl HUC.out HNL.out HUS.out ?_))
            intro gv cv' w9 hown9 hg9
            have HO9 := hiD hown9
            have HK9 := hiD (HKU.out.grown9 HOU.out hg9)
            clear hown9 hg9
            go_wp2_with fail
            go_roundw
            case rel => exact ⟨k + 1, n + 1, cv', some ⟨gv, 0, none⟩, X ++ [nameT k ++ 94 :: itoa pk], by omega, by omega, by first | rfl | go_num, by go_num, HXL9, HXE9, HO9, HK9⟩
            case measure => simp [intOf]; omega
      · obtain rfl : k = 7 := by omega
        have HXY : Hid (X = Y) := hiD (by have e := HXE.out; rw [show [p0, p1, p2, p3, p4, p5, p6].drop 7 = [] from rfl, show wordsP 7 [] = [] from rfl, List.append_nil] at e; exact e)
        have hnp : 0 < n := by
          rw [← HXL.out, HXY.out]; exact List.length_pos_iff.2 HYN.out
        obtain ⟨g, rfl, hg, hcv, hcells⟩ := strs_cells HO.out HXL.out hnp
        obtain ⟨R, HR⟩ : ∃ R : ByteArray, Hid ((⟨(join Y [32]).toArray⟩ : ByteArray) = R) := ⟨_, hiD rfl⟩
        have HJ : Hid (Calls Tryz.prog 25 #[.slice (some ⟨g, 0, none⟩) n cv, .string ⟨#[32]⟩] wr fun e w' => e = .returned (.string R) ∧ Below wr.heap.size wr w') := hiD (by
          have e1 : (X.map (fun l => (⟨l.toArray⟩ : ByteArray))).map (·.data.toList) = Y := by rw [← HXY.out, List.map_map]; simp [Function.comp_def]
          have hj := Tryz.strings_Join g 0 cv (X.map (fun l => (⟨l.toArray⟩ : ByteArray))) ⟨#[32]⟩ wr hcells hg (by rw [List.length_map, HXL.out]; omega) (by rw [List.length_map, HXL.out]; exact hcv) (by rw [e1]; have := HYL.out; exact Nat.le_trans this (by decide))
          rw [e1, List.length_map, HXL.out] at hj
          rw [← HR.out]; exact hj)
        clear hcells hg hcv hk hlt
        go_wp2_with fail
        refine HJ.out.mono ?_
        rintro e w3 ⟨rfl, hb3⟩
        have HBB := hiD (HK.out.below.trans (hb3.mono HK.out.below.size))
        clear hb3
        go_wp2_with fail
        go_ret2
        exact ⟨by rw [HR.out]; rfl, HBB.out⟩
theorem format_any (f o : ByteArray) (p0 p1 p2 p3 p4 p5 p6 : Int) (w : World) (htab : Tab w) : Calls Tryz.prog 9 #[.agg #[.string f, .string o, .int .i64 p0, .int .i64 p1, .int .i64 p2, .int .i64 p3, .int .i64 p4, .int .i64 p5, .int .i64 p6]] w (FmtPost (fmtT (tU f o p0 p1 p2 p3 p4 p5 p6)) w) := by
  have h : Hid (∀ W, Below w.heap.size w W → Calls Tryz.prog 23 #[.agg #[.string f, .string o, .int .i64 p0, .int .i64 p1, .int .i64 p2, .int .i64 p3, .int .i64 p4, .int .i64 p5, .int .i64 p6]] W fun e w' => e = .returned (.bool (plainT (tU f o p0 p1 p2 p3 p4 p5 p6))) ∧ Below W.heap.size W w') := hiD (fun W hW => isPlain_any f o p0 p1 p2 p3 p4 p5 p6 W (htab.below hW))
  unfold fmtT
  cases hp : plainT (tU f o p0 p1 p2 p3 p4 p5 p6) with
  | false => rw [hp] at h; exact format_no f o p0 p1 p2 p3 p4 p5 p6 w h
  | true => rw [hp] at h; exact format_yes f o p0 p1 p2 p3 p4 p5 p6 w htab (hiD hp) h
end Go.Proofs.YtfjnipkpfbkegaaGreatDoor
