/- The law QuantityInts. -/
import Derived.Test.YtlcpcpmlfegejaaGreatDoorQA
import Derived.Test.YtlcpcpmlfegejaaGreatDoorZ05
import Derived.Test.YtlcpcpmlfegejaaGreatDoorZITO
import Derived.Test.YtlcpcpmlfegejaaGreatDoorZVQ
import Derived.Test.YtlcpcpmlfegejaaGreatDoorZRR
import Derived.Test.YtlcpcpmlfegejaaGreatDoorZRC
set_option maxHeartbeats 3200000
set_option maxRecDepth 100000
namespace Go.Proofs.YtlcpcpmlfegejaaGreatDoor
open Go.RowKit Big
open Go.Lib
theorem nDigits_le40 {u : Nat} (h : u < 18446744073709551616) : nDigits u ≤ 40 := by
  have := nDigits_le20 u h
  omega
theorem txt_int (n : Int) (h0 : -9223372036854775808 ≤ n) (h1 : n ≤ 9223372036854775807) : txt (n : Rat) = itoa n := by
  rw [txt_eq, Rat.num_intCast, Rat.den_intCast, if_pos ⟨nDigits_le40 (by omega), nDigits_le40 (by omega)⟩]
  unfold wrote itoa
  by_cases h : n < 0
  · simp [h]
  · simp [h]; congr 1; omega
theorem fromInt_any (n : Int) (h0 : Hid (-9223372036854775808 ≤ n ∧ n ≤ 9223372036854775807)) (w : World) (htab : Tab w) : Calls Tryz.prog 98 #[.int .i64 n] w (TxtPost (itoa n) w) := by
  have hi : Hid (Calls Tryz.prog 135 #[.int .i64 n] w fun e w' => e = .returned (.string ⟨(itoa n).toArray⟩) ∧ Below w.heap.size w w') := hiD ((Tryz.strconv_Itoa n h0.out.1 h0.out.2 w htab).mono fun e w' ⟨h1, k, os, h2⟩ => ⟨h1, by rw [h2]; exact Lib.below_grow _ _ (Nat.le_refl _) _ _⟩)
  unfold TxtPost
  generalize (⟨(itoa n).toArray⟩ : ByteArray) = y at hi ⊢
  clear htab h0
  go_enter Tryz.func98, Tryz.ntmps98
  go_wp2_with fail
  refine hi.out.mono ?_
  rintro e w1 ⟨rfl, hb1⟩
  have HB := hiD hb1
  clear hb1
  go_wp2_with fail
  go_ret
  exact ⟨rfl, HB.out⟩
theorem rfromInt_any (n : Int) (h0 : Hid (-9223372036854775808 ≤ n ∧ n ≤ 9223372036854775807)) (w : World) : Calls Tryz.prog 75 #[.int .i64 n] w (TxtPost (itoa n) w) := by
  have h1 := hiD (intq_any n w h0.out.1 h0.out.2)
  have hl : QLt 3 (n : Rat) := ⟨by rw [Rat.num_intCast, B9_eq]; have := h0.out; omega, by rw [Rat.den_intCast, B9_eq]; omega⟩
  have h2 : Hid (∀ W x, QAt W x (n : Rat) → Calls Tryz.prog 72 #[x] W fun e w' => e = .returned (.string ⟨(itoa n).toArray⟩) ∧ Below W.heap.size W w') := hiD fun W x hx => by
    rw [← txt_int n h0.out.1 h0.out.2]; exact put_any x _ 3 W (by omega) hl hx
  unfold TxtPost
  generalize (⟨(itoa n).toArray⟩ : ByteArray) = y at h2 ⊢
  clear hl h0
  go_enter Tryz.func75, Tryz.ntmps75
  go_wp2_with fail
  refine h1.out.mono ?_
  rintro e w1 ⟨x, rfl, hx, hb1⟩
  have h3 := h2.out w1 x hx
  obtain ⟨p3, n3, c3, p4, n4, c4, rfl, -, -⟩ := hx.slices
  generalize decide ((n : Rat).num < 0) = sb at h3 ⊢
  have HB := hiD hb1
  have H3 := hiD h3
  clear hb1 hx h3
  go_wp2_with fail
  refine H3.out.mono ?_
  rintro e w2 ⟨rfl, hb2⟩
  have HB2 := hiD (HB.out.trans (hb2.mono HB.out.size))
  clear hb2
  go_wp2_with fail
  go_ret
  exact ⟨rfl, HB2.out⟩
end Go.Proofs.YtlcpcpmlfegejaaGreatDoor
namespace Go.Proofs.YtlcpcpmlfegejaaGreatDoor
open Go.RowKit Big
open Go.Lib Go.Shelf
def beat (red : Int) (a b : Rat) : Bool := if red = 3 then decide (a < b) else decide (b < a)
theorem beat_irr (red : Int) (a : Rat) : beat red a a = false := by
  unfold beat; split <;> simp <;> grind
theorem beat_trans {red : Int} {a b c : Rat} (h : beat red a b = true) (h2 : beat red b c = true) : beat red a c = true := by
  unfold beat at *; split at h <;> simp_all <;> grind
theorem beat_mid {red : Int} {a b c : Rat} (h : beat red b a = false) (h2 : beat red b c = true) : beat red a c = true := by
  unfold beat at *; split at h <;> simp_all <;> grind
theorem beat_anti {red : Int} {a b : Rat} (h : beat red a b = false) (h2 : beat red b a = false) : a = b := by
  unfold beat at *; split at h <;> simp_all <;> grind
def bestQ (red : Int) : List Rat → Rat
  | [] => 0
  | a :: l => l.foldl (fun b x => if beat red x b then x else b) a
theorem best_fold (red : Int) : ∀ (l : List Rat) (a : Rat), (l.foldl (fun b x => if beat red x b then x else b) a ∈ a :: l) ∧ ∀ y ∈ a :: l, beat red y (l.foldl (fun b x => if beat red x b then x else b) a) = false := by
  intro l
  induction l with
  | nil => intro a; exact ⟨by simp, fun y hy => by simp at hy; subst hy; exact beat_irr _ _⟩
  | cons x l ih =>
    intro a
    rw [List.foldl_cons]
    cases hb : beat red x a with
    | true =>
      simp only [if_true]
      obtain ⟨h1, h2⟩ := ih x
      refine ⟨List.mem_cons_of_mem _ h1, fun y hy => ?_⟩
      rcases List.mem_cons.1 hy with rfl | hy
      · cases hc : beat red y (l.foldl (fun b x => if beat red x b then x else b) x) with
        | false => rfl
        | true => have := beat_trans hb hc; rw [h2 x (by simp)] at this; cases this
      · exact h2 y hy
    | false =>
      simp only [Bool.false_eq_true, if_false]
      obtain ⟨h1, h2⟩ := ih a
      refine ⟨?_, fun y hy => ?_⟩
      · rcases List.mem_cons.1 h1 with h | h
        · rw [h]; simp
        · exact List.mem_cons_of_mem _ (List.mem_cons_of_mem _ h)
      · rcases List.mem_cons.1 hy with rfl | hy
        · exact h2 _ (by simp)
        · rcases List.mem_cons.1 hy with rfl | hy
          · cases hc : beat red y (l.foldl (fun b x => if beat red x b then x else b) a) with
            | false => rfl
            | true => have := beat_mid hb hc; rw [h2 a (by simp)] at this; cases this
          · exact h2 y (List.mem_cons_of_mem _ hy)
theorem best_spec (red : Int) {l : List Rat} (h : l ≠ []) : bestQ red l ∈ l ∧ ∀ y ∈ l, beat red y (bestQ red l) = false := by
  cases l with
  | nil => exact absurd rfl h
  | cons a l => exact best_fold red l a
theorem best_snoc (red : Int) (l : List Rat) (x : Rat) : bestQ red (l ++ [x]) = if l = [] then x else if beat red x (bestQ red l) then x else bestQ red l := by
  cases l with
  | nil => rfl
  | cons a l => rw [if_neg (by simp)]; show List.foldl _ a (l ++ [x]) = _; rw [List.foldl_append]; rfl
theorem best_perm (red : Int) {l m : List Rat} (h : l.Perm m) : bestQ red l = bestQ red m := by
  by_cases hl : l = []
  · subst hl; rw [List.nil_perm.1 h]
  · have hm : m ≠ [] := fun e => hl (by subst e; exact List.perm_nil.1 h)
    obtain ⟨h1, h2⟩ := best_spec red hl
    obtain ⟨h3, h4⟩ := best_spec red hm
    exact beat_anti (h4 _ (h.mem_iff.1 h1)) (h2 _ (h.mem_iff.2 h3))
def redT (red : Int) (qs : List Rat) : List UInt8 :=
  if red = 1 then txt (sumQ qs) else if red = 5 then itoa qs.length else if qs = [] then [] else if red = 2 then txt (sumQ qs / (qs.length : Rat)) else txt (bestQ red qs)
theorem redT_perm (red : Int) {l m : List Rat} (h : l.Perm m) : redT red l = redT red m := by
  unfold redT
  rw [sumQ_perm h, best_perm red h, h.length_eq]
  by_cases hl : l = []
  · subst hl; rw [List.nil_perm.1 h]
  · have hm : m ≠ [] := fun e => hl (by subst e; exact List.perm_nil.1 h)
    rw [if_neg hl, if_neg hm]
def bestT (red : Int) (ss : List (List UInt8)) : List UInt8 := if numsL ss = [] then [] else txt (bestQ red (numsL ss))
theorem bestT_num (red : Int) {ss : List (List UInt8)} (h : numsL ss ≠ []) : num (bestT red ss) = some (bestQ red (numsL ss)) := by
  unfold bestT
  rw [if_neg h]
  have hm := (best_spec red h).1
  unfold numsL at hm
  rw [List.mem_filterMap] at hm
  obtain ⟨x, -, hx⟩ := hm
  unfold numsL
  rw [txt_num hx, hx]
theorem bestT_none (red : Int) {ss : List (List UInt8)} (h : numsL ss = []) : bestT red ss = [] := by unfold bestT; rw [if_pos h]
theorem bestT_skip (red : Int) {ss : List (List UInt8)} {i : Nat} (hi : i < ss.length) (h : num (ss.getD i []) = none) : bestT red (ss.take (i + 1)) = bestT red (ss.take i) := by
  unfold bestT
  rw [numsL_take hi, h]
  simp only [Option.toList_none, List.append_nil]
theorem bestT_more (red : Int) {ss : List (List UInt8)} {i : Nat} {q : Rat} (hi : i < ss.length) (h : num (ss.getD i []) = some q) : bestT red (ss.take (i + 1)) = if numsL (ss.take i) = [] then ss.getD i [] else if beat red q (bestQ red (numsL (ss.take i))) then ss.getD i [] else bestT red (ss.take i) := by
  have e : bestT red (ss.take (i + 1)) = txt (bestQ red (numsL (ss.take i) ++ [q])) := by
    have e2 : numsL (ss.take (i + 1)) = numsL (ss.take i) ++ [q] := by rw [numsL_take hi, h]; rfl
    unfold bestT
    rw [e2, if_neg (by simp)]
  rw [e, best_snoc]
  by_cases hn : numsL (ss.take i) = []
  · rw [if_pos hn, if_pos hn, txt_num h]
  · rw [if_neg hn, if_neg hn]
    cases hb : beat red q (bestQ red (numsL (ss.take i))) with
    | true => simp only [if_true]; exact txt_num h
    | false => simp only [Bool.false_eq_true, if_false]; unfold bestT; rw [if_neg hn]
theorem redT_best (red : Int) (h1 : red ≠ 1) (h2 : red ≠ 2) (h5 : red ≠ 5) (ss : List (List UInt8)) : redT red (numsL ss) = bestT red ss := by
  unfold redT bestT
  rw [if_neg h1, if_neg h5, if_neg h2]
theorem cmp_best (red : Int) {x : List UInt8} {q : Rat} {ss : List (List UInt8)} (hx : num x = some q) : (cmpT x (bestT red ss)).2 = decide (numsL ss ≠ []) ∧ (numsL ss ≠ [] → (cmpT x (bestT red ss)).1 = sgnR (q - bestQ red (numsL ss))) := by
  by_cases h : numsL ss = []
  · rw [bestT_none red h]
    refine ⟨?_, fun h' => absurd h h'⟩
    unfold cmpT
    rw [hx, num_nil]
    simp [h]
  · rw [cmpT_some hx (bestT_num red h)]
    exact ⟨by simp [h], fun _ => rfl⟩
theorem sgnR_neg (q r : Rat) : (decide (sgnR (q - r) < 0)) = beat 3 q r := by
  unfold sgnR beat
  rw [if_pos (show (3 : Int) = 3 from rfl)]
  by_cases h1 : q - r < 0
  · rw [if_pos h1]; have : q < r := by grind
    simp [this]
  · rw [if_neg h1]; have : ¬ q < r := by grind
    split <;> simp [this]
theorem sgnR_pos (q r : Rat) : (decide (0 < sgnR (q - r))) = beat 4 q r := by
  unfold sgnR beat
  rw [if_neg (show ¬ (4 : Int) = 3 by omega)]
  by_cases h1 : q - r < 0
  · rw [if_pos h1]; have : ¬ r < q := by grind
    simp [this]
  · rw [if_neg h1]
    by_cases h2 : q - r = 0
    · rw [if_pos h2]; have : ¬ r < q := by grind
      simp [this]
    · rw [if_neg h2]; have : r < q := by grind
      simp [this]
end Go.Proofs.YtlcpcpmlfegejaaGreatDoor
set_option maxHeartbeats 4000000
set_option maxRecDepth 100000
namespace Go.Proofs.YtlcpcpmlfegejaaGreatDoor
open Go.RowKit Big
open Go.Lib Go.Shelf
theorem clone_nilR (W : World) : Calls Tryz.prog 126 #[.slice none 0 0] W fun e w' => W = w' ∧ e = .returned (.slice none 0 0) := by
  have hq : ∀ (w : World), (binOp .eql 57 (.slice none 0 0) (.slice none 0 0)).run Tryz.prog w = .ok (.bool true) w := fun w => Lib.run_eql_slice_nil w 57 (Tryz.prog.elem 57) none 0 0 0 0 elem91
  go_enter Tryz.func126, Tryz.ntmps126
  go_wp2_with fail
  go_ret
  exact ⟨rfl, rfl⟩
theorem ins_nilR (f : Value) (W : World) : Calls Tryz.prog 190 #[.slice none 0 0, .int .i64 0, .int .i64 0, f] W fun e w' => W = w' ∧ e = .returned (.tuple #[]) := by
  go_enter Tryz.func190, Tryz.ntmps190
  go_wp2_with fail
  go_loopw [8] (fun iv wr => iv = .int .i64 1 ∧ wr = W) (fun _ _ => 0)
  case atStart => exact ⟨rfl, rfl⟩
  case round =>
    obtain ⟨rfl, rfl⟩ := hrel
    go_wp2_with fail
    go_end0
    exact ⟨rfl, rfl⟩
theorem pdq_nilR (l : Int) (f : Value) (W : World) : Calls Tryz.prog 157 #[.slice none 0 0, .int .i64 0, .int .i64 0, .int .i64 l, f] W fun e w' => W = w' ∧ e = .returned (.tuple #[]) := by
  go_enter Tryz.func157, Tryz.ntmps157
  go_wp2_with fail
  go_loopw [1, 2] (fun av bv wr => av = .int .i64 0 ∧ bv = .int .i64 0 ∧ wr = W) (fun _ _ _ => 0)
  case atStart => exact ⟨rfl, rfl, rfl⟩
  case round =>
    obtain ⟨rfl, rfl, rfl⟩ := hrel
    go_wp2_with fail
    refine (ins_nilR f wr).mono ?_
    rintro e w' ⟨rfl, rfl⟩
    go_wp2_with fail
    (try simp only [Exit.inBlock, Exit.then])
    refine bodyPost_ret (results_none rfl _ _ _) rfl ?_
    exact ⟨rfl, rfl⟩
theorem len64_zero (w : World) : Calls Tryz.prog 199 #[.int .u64 0] w fun e w' => w = w' ∧ ∃ l, e = .returned (.int .i64 l) := by
  go_enter Tryz.func199, Tryz.ntmps199
  go_wp2_with fail
  go_ret
  exact ⟨rfl, _, rfl⟩
theorem len_zero (w : World) : Calls Tryz.prog 158 #[.int .u64 0] w fun e w' => w = w' ∧ ∃ l, e = .returned (.int .i64 l) := by
  go_enter Tryz.func158, Tryz.ntmps158
  go_wp2_with fail
  refine (len64_zero w).mono ?_
  rintro e w' ⟨rfl, l, rfl⟩
  go_wp2_with fail
  go_ret
  exact ⟨rfl, _, rfl⟩
theorem sort_nilR (w : World) : Calls Tryz.prog 127 #[.slice none 0 0, .func (.func 128) #[] #[]] w fun e w' => w = w' ∧ e = .returned (.tuple #[]) := by
  go_enter Tryz.func127, Tryz.ntmps127
  go_wp2_with fail
  refine (len_zero w).mono ?_
  rintro e w' ⟨rfl, l, rfl⟩
  go_wp2_with fail
  refine (pdq_nilR l _ w).mono ?_
  rintro e w' ⟨rfl, rfl⟩
  go_wp2_with fail
  go_end0
  exact ⟨rfl, rfl⟩
theorem total_nil (w : World) : Calls Tryz.prog 92 #[.slice none 0 0] w (IsPost 0 1 w) := by
  have HRES := hiD (Res.start w)
  have HCL := hiD clone_nilR
  have HSO := hiD sort_nilR
  have HHV := hiD (halves_zero)
  have hs : ∀ W, (Instr.sliceAt 57 (.slice none 0 0) none (some (.int .i64 0)) none).run Tryz.prog W = .ok (.slice none 0 0) W := fun W => by
    rw [run_sliceAt_slice W 57 _ _ _ _ elem91, run_slice_h W 57 _ _ _ elem91 .i64 0 (by omega) (by omega), size91]
    simp [Result.andThen, sliced]
  go_enter Tryz.func92, Tryz.ntmps92
  go_wp2_with fail
  obtain ⟨W1, HW1⟩ : ∃ W1, Hid (w.alloc (.cells #[.bool false, .slice none 0 0, .slice none 0 0] 62) = W1) := ⟨_, hiD rfl⟩
  rw [HW1.out] at HRES ⊢
  refine (HCL.out W1).mono ?_
  rintro e w2 ⟨rfl, rfl⟩
  go_wp2_with fail
  refine (HSO.out W1).mono ?_
  rintro e w3 ⟨rfl, rfl⟩
  go_wp2_with fail
  go_loopw [4, 16] (fun pv iv wr => ∃ p c, pv = .slice p 0 c ∧ iv = .int .i64 0 ∧ wr = W1) (fun _ _ _ => 0)
  case atStart => exact ⟨_, _, rfl, rfl, rfl⟩
  case round =>
    obtain ⟨p, c', rfl, rfl, rfl⟩ := hrel
    go_wp2_with fail
    refine (HHV.out _ _ _).mono ?_
    rintro e wz ⟨z, rfl, hz, hbz⟩
    obtain ⟨bx, px, nx, cx, rx, mx, dx, rfl⟩ := hz.agg
    have HRC := hiD (HRES.out.next hbz)
    obtain ⟨z0, z1, z2, l0, l1, l2, f0, f1, f2⟩ := HRC.out.slots
    have HEN : Hid (∀ W9, W9 = (((wz.setCell ⟨w.heap.size, 0, none⟩ (.bool bx)).setCell ⟨w.heap.size, 1, none⟩ (.slice px nx cx)).setCell ⟨w.heap.size, 2, none⟩ (.slice rx mx dx)) → IsPost 0 1 w (.returned (.agg #[.bool bx, .slice px nx cx, .slice rx mx dx])) W9) := hiD (by
      rintro W9 rfl
      exact ⟨_, rfl, HRC.out.rat3 (Nat.le_refl _) hz _ _ _ _ _ _ _, (HRC.out.put3 (Nat.le_refl _) _ _ _ _ _ _ _).below⟩)
    clear hz hbz
    go_wp2_with fail
    refine bodyPost_ret (v := .agg #[.bool bx, .slice px nx cx, .slice rx mx dx]) (by simp [results, Tryz.results92, go_sem, l0, l1, l2]) rfl ?_
    exact HEN.out _ rfl
def SlQ (W : World) (p : Option Addr) (m c : Nat) (qs : List Rat) : Prop := qs.length = m ∧ m ≤ 1000 ∧ m ≤ c ∧ RdQ W p qs 20 ∧ ((p = none ∧ c = 0) ∨ ∃ b off, p = some ⟨b, off, none⟩)
theorem SlQ.below {W W' : World} {p : Option Addr} {m c : Nat} {qs : List Rat} (h : SlQ W p m c qs) (hb : Below W.heap.size W W') : SlQ W' p m c qs := ⟨h.1, h.2.1, h.2.2.1, h.2.2.2.1.below hb, h.2.2.2.2⟩
theorem total_sl (p : Option Addr) (m c : Nat) (qs : List Rat) (w : World) (h : SlQ w p m c qs) : Calls Tryz.prog 92 #[.slice p m c] w (IsPost (sumQ qs) (KK 21 10) w) := by
  obtain ⟨hl, hm, hc, hr, hp⟩ := h
  rcases Nat.eq_zero_or_pos m with h0 | h0
  · subst h0
    rw [List.length_eq_zero_iff] at hl
    subst hl
    rcases hp with ⟨rfl, rfl⟩ | ⟨b, off, rfl⟩
    · exact (total_nil w).mono fun e w' ⟨x, he, hx, hb⟩ => ⟨x, he, hx.more KK_one, hb⟩
    · exact (total_zero b off c w).mono fun e w' ⟨x, he, hx, hb⟩ => ⟨x, he, hx.more KK_one, hb⟩
  · rcases hp with ⟨rfl, rfl⟩ | ⟨b, off, rfl⟩
    · omega
    · exact total_any b off m c qs w hl h0 hm hr
end Go.Proofs.YtlcpcpmlfegejaaGreatDoor
