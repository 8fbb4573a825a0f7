/- The program's operations on two elements. -/
import Derived.Test.YtigidchicloleaaGreatDoorKA
import Derived.Test.YtigidchicloleaaGreatDoorY10
set_option maxHeartbeats 4000000
set_option maxRecDepth 100000
namespace Go.Proofs.YtigidchicloleaaGreatDoor.Arr
open Go.RowKit Go.Shelf
open Go.Lib
attribute [local go_sem] Oper.semAt_some
theorem ord_100 (c : Int) (W : World) : Calls Tryz.prog 100 #[.int .i64 c] W fun e w' => W = w' ∧ e = .returned (.bool (decide (c < 0))) := by
  go_enter Tryz.func100, Tryz.ntmps100
  go_wp2_with fail
  go_ret
  exact ⟨rfl, by first | rfl | simp⟩
theorem ord_101 (c : Int) (W : World) : Calls Tryz.prog 101 #[.int .i64 c] W fun e w' => W = w' ∧ e = .returned (.bool (decide (0 < c))) := by
  go_enter Tryz.func101, Tryz.ntmps101
  go_wp2_with fail
  go_ret
  exact ⟨rfl, by first | rfl | simp⟩
theorem ord_103 (c : Int) (W : World) : Calls Tryz.prog 103 #[.int .i64 c] W fun e w' => W = w' ∧ e = .returned (.bool ((c == 0))) := by
  go_enter Tryz.func103, Tryz.ntmps103
  go_wp2_with fail
  go_ret
  exact ⟨rfl, by first | rfl | simp⟩
theorem ord_104 (c : Int) (W : World) : Calls Tryz.prog 104 #[.int .i64 c] W fun e w' => W = w' ∧ e = .returned (.bool (decide (c < 0))) := by
  go_enter Tryz.func104, Tryz.ntmps104
  go_wp2_with fail
  go_ret
  exact ⟨rfl, by first | rfl | simp⟩
theorem ord_105 (c : Int) (W : World) : Calls Tryz.prog 105 #[.int .i64 c] W fun e w' => W = w' ∧ e = .returned (.bool (decide (c ≤ 0))) := by
  go_enter Tryz.func105, Tryz.ntmps105
  go_wp2_with fail
  go_ret
  exact ⟨rfl, by first | rfl | simp⟩
theorem clo_100 (x y : List UInt8) (c : Int) (ok : Bool) (g : Nat) (w : World) (hcl : w.cell? ⟨g, 0, none⟩ = some (.func (.func 100) #[] #[])) (hg : g < w.heap.size) (H : Hid (Calls Tryz.prog 124 #[.string ⟨List.toArray x⟩, .string ⟨List.toArray y⟩] w (CmpTPost (c, ok) w))) : Calls Tryz.prog 123 #[.string ⟨List.toArray x⟩, .string ⟨List.toArray y⟩, .pointer (some ⟨g, 0, none⟩)] w (TxtPost (if ok = false then [] else if c < 0 then x else y) w) := by
  have HC : Hid (∀ W, Below w.heap.size w W → W.cell? ⟨g, 0, none⟩ = some (.func (.func 100) #[] #[])) := Lib.hid (fun W hW => (hW.cell (p := ⟨g, 0, none⟩) hg).trans hcl)
  unfold TxtPost
  clear hcl hg
  go_enter Tryz.func123, Tryz.ntmps123
  go_wp2_with fail
  refine H.out.mono ?_
  rintro e w1 ⟨rfl, hb⟩
  have HB := Lib.hid hb
  have hcl := HC.out w1 hb
  clear hb H HC
  cases ok with
  | false =>
    go_wp2_with fail
    go_ret
    exact ⟨rfl, HB.out⟩
  | true =>
    go_wp2_with fail
    refine (ord_100 c _).mono ?_
    rintro e w2 ⟨rfl, rfl⟩
    by_cases hc : c < 0
    case' pos => have hd : decide (c < 0) = true := by simpa using hc
    case' neg => have hd : decide (c < 0) = false := by simpa using hc
    all_goals
      go_wp2_with fail
      go_ret
      exact ⟨rfl, HB.out⟩
theorem clo_101 (x y : List UInt8) (c : Int) (ok : Bool) (g : Nat) (w : World) (hcl : w.cell? ⟨g, 0, none⟩ = some (.func (.func 101) #[] #[])) (hg : g < w.heap.size) (H : Hid (Calls Tryz.prog 124 #[.string ⟨List.toArray x⟩, .string ⟨List.toArray y⟩] w (CmpTPost (c, ok) w))) : Calls Tryz.prog 123 #[.string ⟨List.toArray x⟩, .string ⟨List.toArray y⟩, .pointer (some ⟨g, 0, none⟩)] w (TxtPost (if ok = false then [] else if 0 < c then x else y) w) := by
  have HC : Hid (∀ W, Below w.heap.size w W → W.cell? ⟨g, 0, none⟩ = some (.func (.func 101) #[] #[])) := Lib.hid (fun W hW => (hW.cell (p := ⟨g, 0, none⟩) hg).trans hcl)
  unfold TxtPost
  clear hcl hg
  go_enter Tryz.func123, Tryz.ntmps123
  go_wp2_with fail
  refine H.out.mono ?_
  rintro e w1 ⟨rfl, hb⟩
  have HB := Lib.hid hb
  have hcl := HC.out w1 hb
  clear hb H HC
  cases ok with
  | false =>
    go_wp2_with fail
    go_ret
    exact ⟨rfl, HB.out⟩
  | true =>
    go_wp2_with fail
    refine (ord_101 c _).mono ?_
    rintro e w2 ⟨rfl, rfl⟩
    by_cases hc : 0 < c
    case' pos => have hd : decide (0 < c) = true := by simpa using hc
    case' neg => have hd : decide (0 < c) = false := by simpa using hc
    all_goals
      go_wp2_with fail
      go_ret
      exact ⟨rfl, HB.out⟩
theorem clo_103 (x y : List UInt8) (c : Int) (ok : Bool) (g : Nat) (w : World) (hcl : w.cell? ⟨g, 0, none⟩ = some (.func (.func 103) #[] #[])) (hg : g < w.heap.size) (H : Hid (Calls Tryz.prog 124 #[.string ⟨List.toArray x⟩, .string ⟨List.toArray y⟩] w (CmpTPost (c, ok) w))) : Calls Tryz.prog 125 #[.string ⟨List.toArray x⟩, .string ⟨List.toArray y⟩, .pointer (some ⟨g, 0, none⟩)] w (TxtPost (if ok = false then [] else if c = 0 then [49] else [48]) w) := by
  have HC : Hid (∀ W, Below w.heap.size w W → W.cell? ⟨g, 0, none⟩ = some (.func (.func 103) #[] #[])) := Lib.hid (fun W hW => (hW.cell (p := ⟨g, 0, none⟩) hg).trans hcl)
  unfold TxtPost
  clear hcl hg
  go_enter Tryz.func125, Tryz.ntmps125
  go_wp2_with fail
  refine H.out.mono ?_
  rintro e w1 ⟨rfl, hb⟩
  have HB := Lib.hid hb
  have hcl := HC.out w1 hb
  clear hb H HC
  cases ok with
  | false =>
    go_wp2_with fail
    go_ret
    exact ⟨rfl, HB.out⟩
  | true =>
    go_wp2_with fail
    refine (ord_103 c _).mono ?_
    rintro e w2 ⟨rfl, rfl⟩
    by_cases hc : c = 0
    case' pos => have hd : (c == 0) = true := by simpa using hc
    case' neg => have hd : (c == 0) = false := by simpa using hc
    all_goals
      go_wp2_with fail
      go_ret
      exact ⟨rfl, HB.out⟩
theorem clo_104 (x y : List UInt8) (c : Int) (ok : Bool) (g : Nat) (w : World) (hcl : w.cell? ⟨g, 0, none⟩ = some (.func (.func 104) #[] #[])) (hg : g < w.heap.size) (H : Hid (Calls Tryz.prog 124 #[.string ⟨List.toArray x⟩, .string ⟨List.toArray y⟩] w (CmpTPost (c, ok) w))) : Calls Tryz.prog 125 #[.string ⟨List.toArray x⟩, .string ⟨List.toArray y⟩, .pointer (some ⟨g, 0, none⟩)] w (TxtPost (if ok = false then [] else if c < 0 then [49] else [48]) w) := by
  have HC : Hid (∀ W, Below w.heap.size w W → W.cell? ⟨g, 0, none⟩ = some (.func (.func 104) #[] #[])) := Lib.hid (fun W hW => (hW.cell (p := ⟨g, 0, none⟩) hg).trans hcl)
  unfold TxtPost
  clear hcl hg
  go_enter Tryz.func125, Tryz.ntmps125
  go_wp2_with fail
  refine H.out.mono ?_
  rintro e w1 ⟨rfl, hb⟩
  have HB := Lib.hid hb
  have hcl := HC.out w1 hb
  clear hb H HC
  cases ok with
  | false =>
    go_wp2_with fail
    go_ret
    exact ⟨rfl, HB.out⟩
  | true =>
    go_wp2_with fail
    refine (ord_104 c _).mono ?_
    rintro e w2 ⟨rfl, rfl⟩
    by_cases hc : c < 0
    case' pos => have hd : decide (c < 0) = true := by simpa using hc
    case' neg => have hd : decide (c < 0) = false := by simpa using hc
    all_goals
      go_wp2_with fail
      go_ret
      exact ⟨rfl, HB.out⟩
theorem clo_105 (x y : List UInt8) (c : Int) (ok : Bool) (g : Nat) (w : World) (hcl : w.cell? ⟨g, 0, none⟩ = some (.func (.func 105) #[] #[])) (hg : g < w.heap.size) (H : Hid (Calls Tryz.prog 124 #[.string ⟨List.toArray x⟩, .string ⟨List.toArray y⟩] w (CmpTPost (c, ok) w))) : Calls Tryz.prog 125 #[.string ⟨List.toArray x⟩, .string ⟨List.toArray y⟩, .pointer (some ⟨g, 0, none⟩)] w (TxtPost (if ok = false then [] else if c ≤ 0 then [49] else [48]) w) := by
  have HC : Hid (∀ W, Below w.heap.size w W → W.cell? ⟨g, 0, none⟩ = some (.func (.func 105) #[] #[])) := Lib.hid (fun W hW => (hW.cell (p := ⟨g, 0, none⟩) hg).trans hcl)
  unfold TxtPost
  clear hcl hg
  go_enter Tryz.func125, Tryz.ntmps125
  go_wp2_with fail
  refine H.out.mono ?_
  rintro e w1 ⟨rfl, hb⟩
  have HB := Lib.hid hb
  have hcl := HC.out w1 hb
  clear hb H HC
  cases ok with
  | false =>
    go_wp2_with fail
    go_ret
    exact ⟨rfl, HB.out⟩
  | true =>
    go_wp2_with fail
    refine (ord_105 c _).mono ?_
    rintro e w2 ⟨rfl, rfl⟩
    by_cases hc : c ≤ 0
    case' pos => have hd : decide (c ≤ 0) = true := by simpa using hc
    case' neg => have hd : decide (c ≤ 0) = false := by simpa using hc
    all_goals
      go_wp2_with fail
      go_ret
      exact ⟨rfl, HB.out⟩
theorem eachT_5 (x y : List UInt8) : (if (cmpT x y).2 = false then [] else if (cmpT x y).1 < 0 then x else y) = eachT 5 x y := by
  show _ = if (cmpT x y).2 = false then [] else if (cmpT x y).1 ≤ 0 then x else y
  by_cases ho : (cmpT x y).2 = false
  · rw [if_pos ho, if_pos ho]
  · rw [if_neg ho, if_neg ho]
    by_cases h0 : (cmpT x y).1 = 0
    · rw [← cmpT_same (by simpa using ho) h0]; simp
    · by_cases h1 : (cmpT x y).1 < 0
      · rw [if_pos h1, if_pos (by omega)]
      · rw [if_neg h1, if_neg (by omega)]
theorem eachT_6 (x y : List UInt8) : (if (cmpT x y).2 = false then [] else if 0 < (cmpT x y).1 then x else y) = eachT 6 x y := by
  show _ = if (cmpT x y).2 = false then [] else if 0 ≤ (cmpT x y).1 then x else y
  by_cases ho : (cmpT x y).2 = false
  · rw [if_pos ho, if_pos ho]
  · rw [if_neg ho, if_neg ho]
    by_cases h0 : (cmpT x y).1 = 0
    · rw [← cmpT_same (by simpa using ho) h0]; simp
    · by_cases h1 : 0 < (cmpT x y).1
      · rw [if_pos h1, if_pos (by omega)]
      · rw [if_neg h1, if_neg (by omega)]
def OpIs (W : World) (v : Value) (op : Int) : Prop :=
  (∃ f, v = .func (.func f) #[] #[] ∧ (∀ args W', (callFunc f args).run Tryz.prog W' = .ok (.enter f args) W') ∧ ∀ W', Below W.heap.size W W' → ∀ x y, Calls Tryz.prog f #[.string ⟨List.toArray x⟩, .string ⟨List.toArray y⟩] W' (TxtPost (eachT op x y) W')) ∨
  (∃ f g, v = .func (.func f) #[] #[.pointer (some ⟨g, 0, none⟩)] ∧ (∀ args W', (callFunc f args).run Tryz.prog W' = .ok (.enter f args) W') ∧ ∀ W', Below W.heap.size W W' → ∀ x y, Calls Tryz.prog f #[.string ⟨List.toArray x⟩, .string ⟨List.toArray y⟩, .pointer (some ⟨g, 0, none⟩)] W' (TxtPost (eachT op x y) W'))
def OperPost (op : Int) (w : World) (e : Ending) (w' : World) : Prop := Below w.heap.size w w' ∧ ∃ v, e = .returned v ∧ OpIs w' v op
theorem hent95 : ∀ args W, (callFunc 95 args).run Tryz.prog W = .ok (.enter 95 args) W := by
  intro args W; kernel_rfl
theorem hent96 : ∀ args W, (callFunc 96 args).run Tryz.prog W = .ok (.enter 96 args) W := by
  intro args W; kernel_rfl
theorem hent97 : ∀ args W, (callFunc 97 args).run Tryz.prog W = .ok (.enter 97 args) W := by
  intro args W; kernel_rfl
theorem hent98 : ∀ args W, (callFunc 98 args).run Tryz.prog W = .ok (.enter 98 args) W := by
  intro args W; kernel_rfl
theorem hent106 : ∀ args W, (callFunc 106 args).run Tryz.prog W = .ok (.enter 106 args) W := by
  intro args W; kernel_rfl
theorem hent123 : ∀ args W, (callFunc 123 args).run Tryz.prog W = .ok (.enter 123 args) W := by
  intro args W; kernel_rfl
theorem hent125 : ∀ args W, (callFunc 125 args).run Tryz.prog W = .ok (.enter 125 args) W := by
  intro args W; kernel_rfl
theorem makes_99 (f : FuncId) (w : World) : Calls Tryz.prog 99 #[.func (.func f) #[] #[]] w fun e w' => e = .returned (.func (.func 123) #[] #[.pointer (some ⟨w.heap.size, 0, none⟩)]) ∧ w' = w.alloc (.cells #[.func (.func f) #[] #[]] 102) := by
  go_enter Tryz.func99, Tryz.ntmps99
  go_wp2_with fail
  go_ret
  exact ⟨rfl, rfl⟩
theorem makes_102 (f : FuncId) (w : World) : Calls Tryz.prog 102 #[.func (.func f) #[] #[]] w fun e w' => e = .returned (.func (.func 125) #[] #[.pointer (some ⟨w.heap.size, 0, none⟩)]) ∧ w' = w.alloc (.cells #[.func (.func f) #[] #[]] 102) := by
  go_enter Tryz.func102, Tryz.ntmps102
  go_wp2_with fail
  go_ret
  exact ⟨rfl, rfl⟩
theorem otherwise_any (x y : List UInt8) (w : World) : Calls Tryz.prog 106 #[.string ⟨List.toArray x⟩, .string ⟨List.toArray y⟩] w (TxtPost (if x = [] then y else x) w) := by
  unfold TxtPost
  by_cases hx : x = []
  · subst hx
    go_enter Tryz.func106, Tryz.ntmps106
    go_wp2_with fail
    go_ret
    exact ⟨rfl, Below.refl _ _⟩
  · have hn : (x == []) = false := by simpa using hx
    have hx2 : x.isEmpty = false := by simpa using hx
    go_enter Tryz.func106, Tryz.ntmps106
    go_wp2_with fail
    go_ret
    exact ⟨rfl, Below.refl _ _⟩
theorem oper_1 (w : World) (ht : Tab w) : Calls Tryz.prog 80 #[.int .i64 1] w (OperPost 1 w) := by
  have HT := Lib.hid ht
  clear ht
  unfold OperPost
  go_enter Tryz.func80, Tryz.ntmps80
  go_wp2_with fail
  go_ret
  exact ⟨Below.refl _ _, _, rfl, .inl ⟨95, rfl, hent95, fun W' hW x y => add_q ⟨List.toArray x⟩ ⟨List.toArray y⟩ W' (HT.out.below hW)⟩⟩
theorem oper_2 (w : World) (ht : Tab w) : Calls Tryz.prog 80 #[.int .i64 2] w (OperPost 2 w) := by
  have HT := Lib.hid ht
  clear ht
  unfold OperPost
  go_enter Tryz.func80, Tryz.ntmps80
  go_wp2_with fail
  go_ret
  exact ⟨Below.refl _ _, _, rfl, .inl ⟨96, rfl, hent96, fun W' hW x y => sub_q ⟨List.toArray x⟩ ⟨List.toArray y⟩ W' (HT.out.below hW)⟩⟩
theorem oper_3 (w : World) (ht : Tab w) : Calls Tryz.prog 80 #[.int .i64 3] w (OperPost 3 w) := by
  have HT := Lib.hid ht
  clear ht
  unfold OperPost
  go_enter Tryz.func80, Tryz.ntmps80
  go_wp2_with fail
  go_ret
  exact ⟨Below.refl _ _, _, rfl, .inl ⟨97, rfl, hent97, fun W' hW x y => mul_q ⟨List.toArray x⟩ ⟨List.toArray y⟩ W' (HT.out.below hW)⟩⟩
theorem oper_4 (w : World) (ht : Tab w) : Calls Tryz.prog 80 #[.int .i64 4] w (OperPost 4 w) := by
  have HT := Lib.hid ht
  clear ht
  unfold OperPost
  go_enter Tryz.func80, Tryz.ntmps80
  go_wp2_with fail
  go_ret
  exact ⟨Below.refl _ _, _, rfl, .inl ⟨98, rfl, hent98, fun W' hW x y => div_q ⟨List.toArray x⟩ ⟨List.toArray y⟩ W' (HT.out.below hW)⟩⟩
theorem oper_10 (w : World) (ht : Tab w) : Calls Tryz.prog 80 #[.int .i64 10] w (OperPost 10 w) := by
  have HT := Lib.hid ht
  clear ht
  unfold OperPost
  go_enter Tryz.func80, Tryz.ntmps80
  go_wp2_with fail
  go_ret
  exact ⟨Below.refl _ _, _, rfl, .inl ⟨106, rfl, hent106, fun W' hW x y => otherwise_any x y W'⟩⟩
theorem oper_5 (w : World) (ht : Tab w) : Calls Tryz.prog 80 #[.int .i64 5] w (OperPost 5 w) := by
  have HT := Lib.hid ht
  clear ht
  unfold OperPost
  go_enter Tryz.func80, Tryz.ntmps80
  go_wp2_with fail
  refine (makes_99 _ w).mono ?_
  rintro e w1 ⟨rfl, e1⟩
  have HE1 := Lib.hid e1
  clear e1
  go_wp2_with fail
  go_ret
  have hb : Below w.heap.size w w1 := by rw [HE1.out]; exact (Below.refl _ w).alloc (Nat.le_refl _) _
  refine ⟨hb, _, rfl, .inr ⟨123, w.heap.size, rfl, hent123, fun W' hW x y => ?_⟩⟩
  have h0 : w1.heap[w.heap.size]? = some (.cells #[.func (.func 100) #[] #[]] 102 (0, 0)) := by rw [HE1.out]; exact World.alloc_heap_new _ _
  have h1 := (hW.block w.heap.size (Array.getElem?_eq_some_iff.1 h0).1).trans h0
  have HCELL : W'.cell? ⟨w.heap.size, 0, none⟩ = some (.func (.func 100) #[] #[]) := by simp [World.cell?, h1]
  have HLT : w.heap.size < W'.heap.size := (Array.getElem?_eq_some_iff.1 h1).1
  have HCMP := compare_q ⟨List.toArray x⟩ ⟨List.toArray y⟩ W' (HT.out.below (hb.trans (hW.mono hb.size)))
  exact by
    have h := clo_100 x y (cmpT x y).1 (cmpT x y).2 w.heap.size W' HCELL HLT (Lib.hid HCMP)
    have e := eachT_5 x y
    rwa [e] at h
theorem oper_6 (w : World) (ht : Tab w) : Calls Tryz.prog 80 #[.int .i64 6] w (OperPost 6 w) := by
  have HT := Lib.hid ht
  clear ht
  unfold OperPost
  go_enter Tryz.func80, Tryz.ntmps80
  go_wp2_with fail
  refine (makes_99 _ w).mono ?_
  rintro e w1 ⟨rfl, e1⟩
  have HE1 := Lib.hid e1
  clear e1
  go_wp2_with fail
  go_ret
  have hb : Below w.heap.size w w1 := by rw [HE1.out]; exact (Below.refl _ w).alloc (Nat.le_refl _) _
  refine ⟨hb, _, rfl, .inr ⟨123, w.heap.size, rfl, hent123, fun W' hW x y => ?_⟩⟩
  have h0 : w1.heap[w.heap.size]? = some (.cells #[.func (.func 101) #[] #[]] 102 (0, 0)) := by rw [HE1.out]; exact World.alloc_heap_new _ _
  have h1 := (hW.block w.heap.size (Array.getElem?_eq_some_iff.1 h0).1).trans h0
  have HCELL : W'.cell? ⟨w.heap.size, 0, none⟩ = some (.func (.func 101) #[] #[]) := by simp [World.cell?, h1]
  have HLT : w.heap.size < W'.heap.size := (Array.getElem?_eq_some_iff.1 h1).1
  have HCMP := compare_q ⟨List.toArray x⟩ ⟨List.toArray y⟩ W' (HT.out.below (hb.trans (hW.mono hb.size)))
  exact by
    have h := clo_101 x y (cmpT x y).1 (cmpT x y).2 w.heap.size W' HCELL HLT (Lib.hid HCMP)
    have e := eachT_6 x y
    rwa [e] at h
theorem oper_7 (w : World) (ht : Tab w) : Calls Tryz.prog 80 #[.int .i64 7] w (OperPost 7 w) := by
  have HT := Lib.hid ht
  clear ht
  unfold OperPost
  go_enter Tryz.func80, Tryz.ntmps80
  go_wp2_with fail
  refine (makes_102 _ w).mono ?_
  rintro e w1 ⟨rfl, e1⟩
  have HE1 := Lib.hid e1
  clear e1
  go_wp2_with fail
  go_ret
  have hb : Below w.heap.size w w1 := by rw [HE1.out]; exact (Below.refl _ w).alloc (Nat.le_refl _) _
  refine ⟨hb, _, rfl, .inr ⟨125, w.heap.size, rfl, hent125, fun W' hW x y => ?_⟩⟩
  have h0 : w1.heap[w.heap.size]? = some (.cells #[.func (.func 103) #[] #[]] 102 (0, 0)) := by rw [HE1.out]; exact World.alloc_heap_new _ _
  have h1 := (hW.block w.heap.size (Array.getElem?_eq_some_iff.1 h0).1).trans h0
  have HCELL : W'.cell? ⟨w.heap.size, 0, none⟩ = some (.func (.func 103) #[] #[]) := by simp [World.cell?, h1]
  have HLT : w.heap.size < W'.heap.size := (Array.getElem?_eq_some_iff.1 h1).1
  have HCMP := compare_q ⟨List.toArray x⟩ ⟨List.toArray y⟩ W' (HT.out.below (hb.trans (hW.mono hb.size)))
  exact by exact clo_103 x y (cmpT x y).1 (cmpT x y).2 w.heap.size W' HCELL HLT (Lib.hid HCMP)
theorem oper_8 (w : World) (ht : Tab w) : Calls Tryz.prog 80 #[.int .i64 8] w (OperPost 8 w) := by
  have HT := Lib.hid ht
  clear ht
  unfold OperPost
  go_enter Tryz.func80, Tryz.ntmps80
  go_wp2_with fail
  refine (makes_102 _ w).mono ?_
  rintro e w1 ⟨rfl, e1⟩
  have HE1 := Lib.hid e1
  clear e1
  go_wp2_with fail
  go_ret
  have hb : Below w.heap.size w w1 := by rw [HE1.out]; exact (Below.refl _ w).alloc (Nat.le_refl _) _
  refine ⟨hb, _, rfl, .inr ⟨125, w.heap.size, rfl, hent125, fun W' hW x y => ?_⟩⟩
  have h0 : w1.heap[w.heap.size]? = some (.cells #[.func (.func 104) #[] #[]] 102 (0, 0)) := by rw [HE1.out]; exact World.alloc_heap_new _ _
  have h1 := (hW.block w.heap.size (Array.getElem?_eq_some_iff.1 h0).1).trans h0
  have HCELL : W'.cell? ⟨w.heap.size, 0, none⟩ = some (.func (.func 104) #[] #[]) := by simp [World.cell?, h1]
  have HLT : w.heap.size < W'.heap.size := (Array.getElem?_eq_some_iff.1 h1).1
  have HCMP := compare_q ⟨List.toArray x⟩ ⟨List.toArray y⟩ W' (HT.out.below (hb.trans (hW.mono hb.size)))
  exact by exact clo_104 x y (cmpT x y).1 (cmpT x y).2 w.heap.size W' HCELL HLT (Lib.hid HCMP)
theorem oper_9 (w : World) (ht : Tab w) : Calls Tryz.prog 80 #[.int .i64 9] w (OperPost 9 w) := by
  have HT := Lib.hid ht
  clear ht
  unfold OperPost
  go_enter Tryz.func80, Tryz.ntmps80
  go_wp2_with fail
  refine (makes_102 _ w).mono ?_
  rintro e w1 ⟨rfl, e1⟩
  have HE1 := Lib.hid e1
  clear e1
  go_wp2_with fail
  go_ret
  have hb : Below w.heap.size w w1 := by rw [HE1.out]; exact (Below.refl _ w).alloc (Nat.le_refl _) _
  refine ⟨hb, _, rfl, .inr ⟨125, w.heap.size, rfl, hent125, fun W' hW x y => ?_⟩⟩
  have h0 : w1.heap[w.heap.size]? = some (.cells #[.func (.func 105) #[] #[]] 102 (0, 0)) := by rw [HE1.out]; exact World.alloc_heap_new _ _
  have h1 := (hW.block w.heap.size (Array.getElem?_eq_some_iff.1 h0).1).trans h0
  have HCELL : W'.cell? ⟨w.heap.size, 0, none⟩ = some (.func (.func 105) #[] #[]) := by simp [World.cell?, h1]
  have HLT : w.heap.size < W'.heap.size := (Array.getElem?_eq_some_iff.1 h1).1
  have HCMP := compare_q ⟨List.toArray x⟩ ⟨List.toArray y⟩ W' (HT.out.below (hb.trans (hW.mono hb.size)))
  exact by exact clo_105 x y (cmpT x y).1 (cmpT x y).2 w.heap.size W' HCELL HLT (Lib.hid HCMP)
theorem oper_any (op : Int) (h1 : 1 ≤ op) (h10 : op ≤ 10) (w : World) (ht : Tab w) : Calls Tryz.prog 80 #[.int .i64 op] w (OperPost op w) := by
  rcases (show op = 1 ∨ op = 2 ∨ op = 3 ∨ op = 4 ∨ op = 5 ∨ op = 6 ∨ op = 7 ∨ op = 8 ∨ op = 9 ∨ op = 10 by omega) with rfl | rfl | rfl | rfl | rfl | rfl | rfl | rfl | rfl | rfl
  · exact oper_1 w ht
  · exact oper_2 w ht
  · exact oper_3 w ht
  · exact oper_4 w ht
  · exact oper_5 w ht
  · exact oper_6 w ht
  · exact oper_7 w ht
  · exact oper_8 w ht
  · exact oper_9 w ht
  · exact oper_10 w ht
theorem oper_no (op : Int) (h : op < 1 ∨ 10 < op) (w : World) : Calls Tryz.prog 80 #[.int .i64 op] w fun e w' => w = w' ∧ e = .returned .nilFunc := by
  have d1 : (op == 1) = false := by simpa using (show ¬ op = 1 by omega)
  have d2 : (op == 2) = false := by simpa using (show ¬ op = 2 by omega)
  have d3 : (op == 3) = false := by simpa using (show ¬ op = 3 by omega)
  have d4 : (op == 4) = false := by simpa using (show ¬ op = 4 by omega)
  have d5 : (op == 5) = false := by simpa using (show ¬ op = 5 by omega)
  have d6 : (op == 6) = false := by simpa using (show ¬ op = 6 by omega)
  have d7 : (op == 7) = false := by simpa using (show ¬ op = 7 by omega)
  have d8 : (op == 8) = false := by simpa using (show ¬ op = 8 by omega)
  have d9 : (op == 9) = false := by simpa using (show ¬ op = 9 by omega)
  have d10 : (op == 10) = false := by simpa using (show ¬ op = 10 by omega)
  clear h
  go_enter Tryz.func80, Tryz.ntmps80
  go_wp2_with fail
  go_ret
  exact ⟨rfl, rfl⟩
end Go.Proofs.YtigidchicloleaaGreatDoor.Arr
