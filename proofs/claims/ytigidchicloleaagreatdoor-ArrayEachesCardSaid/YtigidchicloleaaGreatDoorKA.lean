/- At on both sides; the document's copied. -/
import Derived.Test.YtigidchicloleaaGreatDoorHB
import Derived.Laws.ResultCell
import Derived.Test.YtigidchicloleaaGreatDoorGA
set_option maxHeartbeats 1600000
set_option maxRecDepth 100000
namespace Go.Proofs.YtigidchicloleaaGreatDoor.Arr
open Go.RowKit Go.Shelf
open Go.Lib
attribute [local go_sem] Oper.semAt_some
theorem copied_any (p : Option Addr) (n c : Nat) (s : List Nat) (w : World) (hs : Hid (s.length = n)) (hn : n ≤ 4) (hb : Hid (∀ x ∈ s, x ≤ 1024)) (h : RdN w p s) :
    Calls Tryz.prog 52 #[.slice p n c] w (ClonePost n s w) := by
  have H := Lib.hid h
  have HBa : Hid (Below w.heap.size w (w.alloc (.cells #[] 3))) := Lib.hid ((Below.refl _ w).alloc (Nat.le_refl _) _)
  have hown : Hid ((w.alloc (.cells #[] 3)).ownsRow w.heap.size 3 1 (.slice (some ⟨w.heap.size, 0, none⟩) 0 0) 0 (([] : List Nat).map (fun x => Value.int .i64 ((x : Nat) : Int)))) := Lib.hid ⟨rfl, .inr ⟨w.heap.size, 0, #[], rfl, Nat.le_refl _, World.alloc_heap_new w _, Nat.le_refl _, Nat.zero_le _, rfl, rfl⟩⟩
  have hsz : Hid (w.heap.size ≤ (w.alloc (.cells #[] 3)).heap.size) := Lib.hid (by simp)
  clear h
  go_enter Tryz.func52, Tryz.ntmps52
  go_wp2_with (at_builtin; refine wpList_append_ns rfl (.tmp 3) (.tmp 4) rfl w.heap.size _ [] rfl hown.out p n c s rfl hs.out (H.out.below HBa.out) (by simp; omega) hsz.out ?_)
  intro v5 w5 hown5 hg5 hge5
  obtain ⟨q, d, rfl, hq1, hq2, hq3, hq4⟩ := rdn_own (s := s) (n := n) hs.out hb.out (by simpa using hown5)
  have hfin : Hid (ClonePost n s w (.returned (.slice q n d)) w5) := Lib.hid ⟨HBa.out.trans ((Below.refl _ _).grown hg5 hsz.out (fun k e => own_ge' hown.out e)), q, d, rfl, hq1, hq2, hq3, hq4⟩
  clear hown5 hg5 hge5 hq1 hq2 hq3 hq4
  go_wp2_with fail
  go_ret
  exact hfin.out
end Go.Proofs.YtigidchicloleaaGreatDoor.Arr
namespace Go.Proofs.YtigidchicloleaaGreatDoor.Arr
open Go.RowKit Go.Shelf
open Go.Lib
attribute [local go_sem] Oper.semAt_some
def ArrPost (w : World) (z : Int) (s1 : List Nat) (l1 : List (List UInt8)) (e : Ending) (w' : World) : Prop :=
  Below w.heap.size w w' ∧ ∃ (q1 q2 : Option Addr) (n1 d1 m1 d2 : Nat), e = .returned (.tuple #[.agg #[.slice q1 n1 d1, .slice q2 m1 d2], .int .i64 z]) ∧ s1.length = n1 ∧ l1.length = m1 ∧ RdN w' q1 s1 ∧ RdS w' q2 l1
theorem arr_no {w w' : World} {z : Int} (h : Below w.heap.size w w') : ArrPost w z [] [] (.returned (.tuple #[.agg #[.slice none 0 0, .slice none 0 0], .int .i64 z])) w' :=
  ⟨h, none, none, 0, 0, 0, 0, rfl, rfl, rfl, ⟨fun z hz => (by cases hz), .inl rfl⟩, .inl rfl⟩
end Go.Proofs.YtigidchicloleaaGreatDoor.Arr
namespace Go.Proofs.YtigidchicloleaaGreatDoor.Arr
open Go.RowKit Go.Shelf
open Go.Lib
attribute [local go_sem] Oper.semAt_some
def strs (l : List (List UInt8)) : List Value := l.map (fun x => Value.string ⟨List.toArray x⟩)
theorem strs_len (l : List (List UInt8)) : (strs l).length = l.length := by simp [strs]
structure OutI (W5 : World) (G : Nat) (c0 : Value) (l : List (List UInt8)) (W : World) : Prop where
  old : W5.grownBy W (some G)
  lt : G < W5.heap.size
  row : ∃ pv cv, W.heap[G]? = some (.cells #[c0, .slice pv l.length cv] 25 (0, 0)) ∧ W.ownsRow (G + 1) 9 1 (.slice pv l.length cv) l.length (strs l) ∧ (∀ k, (Value.slice pv l.length cv).ownBlock = some k → W5.heap.size ≤ k)
theorem OutI.start {W5 : World} {G : Nat} {c0 : Value} (h : W5.heap[G]? = some (.cells #[c0, .slice none 0 0] 25 (0, 0))) : OutI W5 G c0 [] W5 :=
  ⟨⟨rfl, rfl, rfl, Nat.le_refl _, fun _ _ _ => rfl⟩, (Array.getElem?_eq_some_iff.1 h).1, none, 0, h, ⟨by simp [strs], .inl ⟨rfl, rfl⟩⟩, fun k e => by cases e⟩
theorem OutI.next {W5 W W' : World} {G : Nat} {c0 : Value} {l : List (List UInt8)} (h : OutI W5 G c0 l W) (hb : Below W.heap.size W W') : OutI W5 G c0 l W' := by
  obtain ⟨pv, cv, h1, h2, h3⟩ := h.row
  exact ⟨h.old.trans (gb_of_below hb _), h.lt, pv, cv, (hb.block G (Array.getElem?_eq_some_iff.1 h1).1).trans h1, h2.kept (gb_of_below hb none) (by cases pv <;> simp [Value.ownBlock]), h3⟩
theorem OutI.below {W5 W w : World} {G : Nat} {c0 : Value} {l : List (List UInt8)} (h : OutI W5 G c0 l W) (hb : Below w.heap.size w W5) (hG : w.heap.size ≤ G) : Below w.heap.size w W :=
  ⟨h.old.os.trans hb.os, h.old.tape.trans hb.tape, h.old.output.trans hb.output, Nat.le_trans hb.size h.old.size, fun k hk => (h.old.block k (Nat.lt_of_lt_of_le hk hb.size) (by intro e; injection e with e; omega)).trans (hb.block k hk)⟩
theorem OutI.step {W5 W W1 W2 : World} {G gv cv cv' : Nat} {pv : Option Addr} {c0 : Value} {l : List (List UInt8)} {y : List UInt8} {n : Nat} (h : OutI W5 G c0 l W) (hn : l.length = n) (hb : W.heap[G]? = some (.cells #[c0, .slice pv n cv] 25 (0, 0))) (hw : ∀ k, (Value.slice pv n cv).ownBlock = some k → W5.heap.size ≤ k) (hB : Below W.heap.size W W1)
    (ho : W2.ownsRow W5.heap.size 9 1 (.slice (some ⟨gv, 0, none⟩) (n + 1) cv') (n + 1) (strs (l ++ [y]))) (hg : W1.grownBy W2 (Value.slice pv n cv).ownBlock) :
    OutI W5 G c0 (l ++ [y]) (W2.setCell ⟨G, 1, none⟩ (.slice (some ⟨gv, 0, none⟩) (n + 1) cv')) ∧ W2.heap[G]? = some (.cells #[c0, .slice pv n cv] 25 (0, 0)) := by
  have hGlt := (Array.getElem?_eq_some_iff.1 hb).1
  have hG2 : W2.heap[G]? = some (.cells #[c0, .slice pv n cv] 25 (0, 0)) := (hg.block G (Nat.lt_of_lt_of_le hGlt hB.size) (by intro e; have := hw G e.symm; have := h.lt; omega)).trans ((hB.block G hGlt).trans hb)
  have hgv : W5.heap.size ≤ gv := (ho.lt gv rfl).1
  have hl := h.lt
  have hlen : (l ++ [y]).length = n + 1 := by rw [List.length_append, hn]; rfl
  refine ⟨⟨?_, h.lt, some ⟨gv, 0, none⟩, cv', ?_, ?_, ?_⟩, hG2⟩
  · have o1 := h.old.trans (gb_of_below hB (some G))
    refine ⟨hg.os.trans o1.os, hg.tape.trans o1.tape, hg.output.trans o1.output, Nat.le_trans o1.size (Nat.le_trans hg.size (Nat.le_of_eq (by simp))), fun k hk hne => ?_⟩
    rw [Below.heap_setCell _ _ _ _ (by intro e; exact hne (congrArg some e)), hg.block k (Nat.lt_of_lt_of_le hk o1.size) (by intro e; have := hw k e.symm; omega)]
    exact o1.block k hk hne
  · rw [hlen]
    have := heap_set W2 G 1 (.slice (some ⟨gv, 0, none⟩) (n + 1) cv') _ _ hG2
    rw [this]; rfl
  · rw [hlen]
    exact ownsRow_setCell_other (show W2.ownsRow (G + 1) 9 1 (.slice (some ⟨gv, 0, none⟩) (n + 1) cv') (n + 1) (strs (l ++ [y])) from ⟨ho.1, ho.2.imp id fun ⟨g, cap, cur, e, hg', r⟩ => ⟨g, cap, cur, e, by omega, r⟩⟩) (by simp [Value.ownBlock]; omega) _
  · rw [hlen]
    intro k e; cases e; exact hgv
theorem OutI.reads {W5 W : World} {G n cv : Nat} {pv : Option Addr} {c0 : Value} {l : List (List UInt8)} (h : OutI W5 G c0 l W) (hn : l.length = n) (hb : W.heap[G]? = some (.cells #[c0, .slice pv n cv] 25 (0, 0))) : RdS W pv l ∧ ∀ b off, pv = some ⟨b, off, none⟩ → 0 < l.length → G < b := by
  obtain ⟨pv', cv', h1, h2, h3⟩ := h.row
  rw [hb] at h1
  injection h1 with h1
  injection h1 with h1
  obtain ⟨rfl, rfl⟩ : pv = pv' ∧ cv = cv' := by simpa [hn] using h1
  obtain ⟨-, ⟨e, e2⟩ | ⟨g, cap, cur, e, hg, hh, -⟩⟩ := id h2
  · exact ⟨.inl e2, fun b off _ h0 => by omega⟩
  · injection e with e _ e3
    subst e
    refine ⟨.inr ⟨g, 0, rfl, (Array.getElem?_eq_some_iff.1 hh).1, fun j hj => ?_⟩, fun b off e _ => by cases e; omega⟩
    rw [Nat.zero_add, h2.cellAt j (by omega), strs, List.getElem?_map, List.getElem?_eq_getElem hj, List.getD_eq_getElem?_getD, List.getElem?_eq_getElem hj]
    rfl
end Go.Proofs.YtigidchicloleaaGreatDoor.Arr
set_option maxHeartbeats 4000000
set_option maxRecDepth 100000
namespace Go.Proofs.YtigidchicloleaaGreatDoor.Arr
open Go.RowKit Go.Shelf
open Go.Lib
attribute [local go_sem] Oper.semAt_some
def eachT (op : Int) (x y : List UInt8) : List UInt8 :=
  if op = 1 then opT (· + ·) x y else if op = 2 then opT (· - ·) x y else if op = 3 then opT (· * ·) x y else if op = 4 then divT x y
  else if op = 10 then (if x = [] then y else x)
  else if (cmpT x y).2 = false then []
  else if op = 5 then (if (cmpT x y).1 ≤ 0 then x else y)
  else if op = 6 then (if 0 ≤ (cmpT x y).1 then x else y)
  else if op = 7 then (if (cmpT x y).1 = 0 then [49] else [48])
  else if op = 8 then (if (cmpT x y).1 < 0 then [49] else [48])
  else (if (cmpT x y).1 ≤ 0 then [49] else [48])
theorem sgnR_zero {q : Rat} (h : sgnR q = 0) : q = 0 := by
  unfold sgnR at h
  split at h
  · cases h
  · split at h
    · assumption
    · cases h
theorem cmpT_same {x y : List UInt8} (h : (cmpT x y).2 = true) (h0 : (cmpT x y).1 = 0) : x = y := by
  cases hx : num x with
  | none => unfold cmpT at h; rw [hx] at h; cases h
  | some a =>
    cases hy : num y with
    | none => unfold cmpT at h; rw [hx, hy] at h; cases h
    | some b =>
      rw [cmpT_some hx hy] at h0
      have h1 := sgnR_zero h0
      have h2 : a = b := by
        have := congrArg (· + b) h1
        simpa [Rat.sub_eq_add_neg, Rat.add_assoc, Rat.neg_add_cancel, Rat.add_zero, Rat.zero_add] using this
      subst h2
      exact num_inj hx hy
theorem truth_any (b : Bool) (W : World) : Calls Tryz.prog 112 #[.bool b] W fun e w' => W = w' ∧ e = .returned (.string ⟨List.toArray (if b then [49] else [48])⟩) := by
  cases b
  all_goals
    go_enter Tryz.func112, Tryz.ntmps112
    go_wp2_with fail
    go_ret
    exact ⟨rfl, rfl⟩
theorem rop_1 (x y : List UInt8) (w : World) : Calls Tryz.prog 81 #[.int .i64 1, .string ⟨List.toArray x⟩, .string ⟨List.toArray y⟩] w (TxtPost (opT (· + ·) x y) w) := by
  have H := Lib.hid (radd_q ⟨List.toArray x⟩ ⟨List.toArray y⟩ w)
  unfold TxtPost
  go_enter Tryz.func81, Tryz.ntmps81
  go_wp2_with fail
  refine H.out.mono ?_
  rintro e w' ⟨rfl, hb⟩
  go_wp2_with fail
  go_ret
  exact ⟨rfl, hb⟩
theorem rop_2 (x y : List UInt8) (w : World) : Calls Tryz.prog 81 #[.int .i64 2, .string ⟨List.toArray x⟩, .string ⟨List.toArray y⟩] w (TxtPost (opT (· - ·) x y) w) := by
  have H := Lib.hid (rsub_q ⟨List.toArray x⟩ ⟨List.toArray y⟩ w)
  unfold TxtPost
  go_enter Tryz.func81, Tryz.ntmps81
  go_wp2_with fail
  refine H.out.mono ?_
  rintro e w' ⟨rfl, hb⟩
  go_wp2_with fail
  go_ret
  exact ⟨rfl, hb⟩
theorem rop_3 (x y : List UInt8) (w : World) : Calls Tryz.prog 81 #[.int .i64 3, .string ⟨List.toArray x⟩, .string ⟨List.toArray y⟩] w (TxtPost (opT (· * ·) x y) w) := by
  have H := Lib.hid (rmul_q ⟨List.toArray x⟩ ⟨List.toArray y⟩ w)
  unfold TxtPost
  go_enter Tryz.func81, Tryz.ntmps81
  go_wp2_with fail
  refine H.out.mono ?_
  rintro e w' ⟨rfl, hb⟩
  go_wp2_with fail
  go_ret
  exact ⟨rfl, hb⟩
theorem rop_4 (x y : List UInt8) (w : World) : Calls Tryz.prog 81 #[.int .i64 4, .string ⟨List.toArray x⟩, .string ⟨List.toArray y⟩] w (TxtPost (divT x y) w) := by
  have H := Lib.hid (rdiv_q ⟨List.toArray x⟩ ⟨List.toArray y⟩ w)
  unfold TxtPost
  go_enter Tryz.func81, Tryz.ntmps81
  go_wp2_with fail
  refine H.out.mono ?_
  rintro e w' ⟨rfl, hb⟩
  go_wp2_with fail
  go_ret
  exact ⟨rfl, hb⟩
theorem rop_10 (x y : List UInt8) (w : World) : Calls Tryz.prog 81 #[.int .i64 10, .string ⟨List.toArray x⟩, .string ⟨List.toArray y⟩] w (TxtPost (if x = [] then y else x) w) := by
  unfold TxtPost
  by_cases hx : x = []
  · subst hx
    go_enter Tryz.func81, Tryz.ntmps81
    go_wp2_with fail
    go_ret
    exact ⟨rfl, Below.refl _ _⟩
  · have hn : (x == []) = false := by simpa using hx
    have hx2 : x.isEmpty = false := by simpa using hx
    go_enter Tryz.func81, Tryz.ntmps81
    go_wp2_with fail
    go_ret
    exact ⟨rfl, Below.refl _ _⟩
theorem rop_5 (x y : List UInt8) (c : Int) (ok : Bool) (w : World) (H : Hid (Calls Tryz.prog 111 #[.string ⟨List.toArray x⟩, .string ⟨List.toArray y⟩] w (CmpTPost (c, ok) w))) : Calls Tryz.prog 81 #[.int .i64 5, .string ⟨List.toArray x⟩, .string ⟨List.toArray y⟩] w (TxtPost (if ok = false then [] else if c ≤ 0 then x else y) w) := by
  unfold TxtPost
  go_enter Tryz.func81, Tryz.ntmps81
  go_wp2_with fail
  refine H.out.mono ?_
  rintro e w1 ⟨rfl, hb⟩
  have HB := Lib.hid hb
  clear hb H
  cases ok with
  | false =>
    go_wp2_with fail
    go_ret
    exact ⟨rfl, HB.out⟩
  | true =>
    by_cases hc : c ≤ 0
    case pos =>
      have hd : decide (c ≤ 0) = true := by simpa using hc
      go_wp2_with fail
      go_ret
      exact ⟨rfl, HB.out⟩
    case neg =>
      have hd : decide (c ≤ 0) = false := by simpa using hc
      go_wp2_with fail
      go_ret
      exact ⟨rfl, HB.out⟩
theorem rop_6 (x y : List UInt8) (c : Int) (ok : Bool) (w : World) (H : Hid (Calls Tryz.prog 111 #[.string ⟨List.toArray x⟩, .string ⟨List.toArray y⟩] w (CmpTPost (c, ok) w))) : Calls Tryz.prog 81 #[.int .i64 6, .string ⟨List.toArray x⟩, .string ⟨List.toArray y⟩] w (TxtPost (if ok = false then [] else if 0 ≤ c then x else y) w) := by
  unfold TxtPost
  go_enter Tryz.func81, Tryz.ntmps81
  go_wp2_with fail
  refine H.out.mono ?_
  rintro e w1 ⟨rfl, hb⟩
  have HB := Lib.hid hb
  clear hb H
  cases ok with
  | false =>
    go_wp2_with fail
    go_ret
    exact ⟨rfl, HB.out⟩
  | true =>
    by_cases hc : 0 ≤ c
    case pos =>
      have hd : decide (0 ≤ c) = true := by simpa using hc
      go_wp2_with fail
      go_ret
      exact ⟨rfl, HB.out⟩
    case neg =>
      have hd : decide (0 ≤ c) = false := by simpa using hc
      go_wp2_with fail
      go_ret
      exact ⟨rfl, HB.out⟩
theorem rop_7 (x y : List UInt8) (c : Int) (ok : Bool) (w : World) (H : Hid (Calls Tryz.prog 111 #[.string ⟨List.toArray x⟩, .string ⟨List.toArray y⟩] w (CmpTPost (c, ok) w))) : Calls Tryz.prog 81 #[.int .i64 7, .string ⟨List.toArray x⟩, .string ⟨List.toArray y⟩] w (TxtPost (if ok = false then [] else if c = 0 then [49] else [48]) w) := by
  unfold TxtPost
  go_enter Tryz.func81, Tryz.ntmps81
  go_wp2_with fail
  refine H.out.mono ?_
  rintro e w1 ⟨rfl, hb⟩
  have HB := Lib.hid hb
  clear hb H
  cases ok with
  | false =>
    go_wp2_with fail
    go_ret
    exact ⟨rfl, HB.out⟩
  | true =>
    by_cases hc : c = 0
    case pos =>
      have hd : (c == 0) = true := by simpa using hc
      go_wp2_with fail
      refine (truth_any _ _).mono ?_
      rintro e w2 ⟨rfl, rfl⟩
      go_wp2_with fail
      go_ret
      exact ⟨rfl, HB.out⟩
    case neg =>
      have hd : (c == 0) = false := by simpa using hc
      go_wp2_with fail
      refine (truth_any _ _).mono ?_
      rintro e w2 ⟨rfl, rfl⟩
      go_wp2_with fail
      go_ret
      exact ⟨rfl, HB.out⟩
theorem rop_8 (x y : List UInt8) (c : Int) (ok : Bool) (w : World) (H : Hid (Calls Tryz.prog 111 #[.string ⟨List.toArray x⟩, .string ⟨List.toArray y⟩] w (CmpTPost (c, ok) w))) : Calls Tryz.prog 81 #[.int .i64 8, .string ⟨List.toArray x⟩, .string ⟨List.toArray y⟩] w (TxtPost (if ok = false then [] else if c < 0 then [49] else [48]) w) := by
  unfold TxtPost
  go_enter Tryz.func81, Tryz.ntmps81
  go_wp2_with fail
  refine H.out.mono ?_
  rintro e w1 ⟨rfl, hb⟩
  have HB := Lib.hid hb
  clear hb H
  cases ok with
  | false =>
    go_wp2_with fail
    go_ret
    exact ⟨rfl, HB.out⟩
  | true =>
    by_cases hc : c < 0
    case pos =>
      have hd : decide (c < 0) = true := by simpa using hc
      go_wp2_with fail
      refine (truth_any _ _).mono ?_
      rintro e w2 ⟨rfl, rfl⟩
      go_wp2_with fail
      go_ret
      exact ⟨rfl, HB.out⟩
    case neg =>
      have hd : decide (c < 0) = false := by simpa using hc
      go_wp2_with fail
      refine (truth_any _ _).mono ?_
      rintro e w2 ⟨rfl, rfl⟩
      go_wp2_with fail
      go_ret
      exact ⟨rfl, HB.out⟩
theorem rop_9 (x y : List UInt8) (c : Int) (ok : Bool) (w : World) (H : Hid (Calls Tryz.prog 111 #[.string ⟨List.toArray x⟩, .string ⟨List.toArray y⟩] w (CmpTPost (c, ok) w))) : Calls Tryz.prog 81 #[.int .i64 9, .string ⟨List.toArray x⟩, .string ⟨List.toArray y⟩] w (TxtPost (if ok = false then [] else if c ≤ 0 then [49] else [48]) w) := by
  unfold TxtPost
  go_enter Tryz.func81, Tryz.ntmps81
  go_wp2_with fail
  refine H.out.mono ?_
  rintro e w1 ⟨rfl, hb⟩
  have HB := Lib.hid hb
  clear hb H
  cases ok with
  | false =>
    go_wp2_with fail
    go_ret
    exact ⟨rfl, HB.out⟩
  | true =>
    by_cases hc : c ≤ 0
    case pos =>
      have hd : decide (c ≤ 0) = true := by simpa using hc
      go_wp2_with fail
      refine (truth_any _ _).mono ?_
      rintro e w2 ⟨rfl, rfl⟩
      go_wp2_with fail
      go_ret
      exact ⟨rfl, HB.out⟩
    case neg =>
      have hd : decide (c ≤ 0) = false := by simpa using hc
      go_wp2_with fail
      refine (truth_any _ _).mono ?_
      rintro e w2 ⟨rfl, rfl⟩
      go_wp2_with fail
      go_ret
      exact ⟨rfl, HB.out⟩
theorem rop_any (op : Int) (h1 : 1 ≤ op) (h10 : op ≤ 10) (x y : List UInt8) (w : World) : Calls Tryz.prog 81 #[.int .i64 op, .string ⟨List.toArray x⟩, .string ⟨List.toArray y⟩] w (TxtPost (eachT op x y) w) := by
  have H := rcompare_q ⟨List.toArray x⟩ ⟨List.toArray y⟩ w
  rcases (show op = 1 ∨ op = 2 ∨ op = 3 ∨ op = 4 ∨ op = 5 ∨ op = 6 ∨ op = 7 ∨ op = 8 ∨ op = 9 ∨ op = 10 by omega) with rfl | rfl | rfl | rfl | rfl | rfl | rfl | rfl | rfl | rfl
  · exact rop_1 x y w
  · exact rop_2 x y w
  · exact rop_3 x y w
  · exact rop_4 x y w
  · exact rop_5 x y _ _ w (Lib.hid H)
  · exact rop_6 x y _ _ w (Lib.hid H)
  · exact rop_7 x y _ _ w (Lib.hid H)
  · exact rop_8 x y _ _ w (Lib.hid H)
  · exact rop_9 x y _ _ w (Lib.hid H)
  · exact rop_10 x y w
end Go.Proofs.YtigidchicloleaaGreatDoor.Arr
