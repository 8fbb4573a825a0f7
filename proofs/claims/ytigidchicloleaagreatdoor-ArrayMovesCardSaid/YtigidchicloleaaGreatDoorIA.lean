/- At on both sides; the document's copied. -/
import Derived.Test.YtigidchicloleaaGreatDoorHB
import Derived.Laws.ResultCell
set_option maxHeartbeats 1600000
set_option maxRecDepth 100000
namespace Go.Proofs.YtigidchicloleaaGreatDoor.Arr
open Go.RowKit Go.Shelf
open Go.Lib
attribute [local go_sem] Oper.semAt_some
theorem copied_any (p : Option Addr) (n c : Nat) (s : List Nat) (w : World) (hs : Hid (s.length = n)) (hn : n ≤ 4) (hb : Hid (∀ x ∈ s, x ≤ 1024)) (h : RdN w p s) :
    Calls Tryz.prog 52 #[.slice p n c] w (ClonePost n s w) := by
  have H := Lib.hid h
  have HBa : Hid (Below w.heap.size w (w.alloc (.cells #[] 3))) := Lib.hid ((Below.refl _ w).alloc (Nat.le_refl _) _)
  have hown : Hid ((w.alloc (.cells #[] 3)).ownsRow w.heap.size 3 1 (.slice (some ⟨w.heap.size, 0, none⟩) 0 0) 0 (([] : List Nat).map (fun x => Value.int .i64 ((x : Nat) : Int)))) := Lib.hid ⟨rfl, .inr ⟨w.heap.size, 0, #[], rfl, Nat.le_refl _, World.alloc_heap_new w _, Nat.le_refl _, Nat.zero_le _, rfl, rfl⟩⟩
  have hsz : Hid (w.heap.size ≤ (w.alloc (.cells #[] 3)).heap.size) := Lib.hid (by simp)
  clear h
  go_enter Tryz.func52, Tryz.ntmps52
  go_wp2_with (at_builtin; refine wpList_append_ns rfl (.tmp 3) (.tmp 4) rfl w.heap.size _ [] rfl hown.out p n c s rfl hs.out (H.out.below HBa.out) (by simp; omega) hsz.out ?_)
  intro v5 w5 hown5 hg5 hge5
  obtain ⟨q, d, rfl, hq1, hq2, hq3, hq4⟩ := rdn_own (s := s) (n := n) hs.out hb.out (by simpa using hown5)
  have hfin : Hid (ClonePost n s w (.returned (.slice q n d)) w5) := Lib.hid ⟨HBa.out.trans ((Below.refl _ _).grown hg5 hsz.out (fun k e => own_ge' hown.out e)), q, d, rfl, hq1, hq2, hq3, hq4⟩
  clear hown5 hg5 hge5 hq1 hq2 hq3 hq4
  go_wp2_with fail
  go_ret
  exact hfin.out
end Go.Proofs.YtigidchicloleaaGreatDoor.Arr
namespace Go.Proofs.YtigidchicloleaaGreatDoor.Arr
open Go.RowKit Go.Shelf
open Go.Lib
attribute [local go_sem] Oper.semAt_some
def ArrPost (w : World) (z : Int) (s1 : List Nat) (l1 : List (List UInt8)) (e : Ending) (w' : World) : Prop :=
  Below w.heap.size w w' ∧ ∃ (q1 q2 : Option Addr) (n1 d1 m1 d2 : Nat), e = .returned (.tuple #[.agg #[.slice q1 n1 d1, .slice q2 m1 d2], .int .i64 z]) ∧ s1.length = n1 ∧ l1.length = m1 ∧ RdN w' q1 s1 ∧ RdS w' q2 l1
theorem arr_no {w w' : World} {z : Int} (h : Below w.heap.size w w') : ArrPost w z [] [] (.returned (.tuple #[.agg #[.slice none 0 0, .slice none 0 0], .int .i64 z])) w' :=
  ⟨h, none, none, 0, 0, 0, 0, rfl, rfl, rfl, ⟨fun z hz => (by cases hz), .inl rfl⟩, .inl rfl⟩
end Go.Proofs.YtigidchicloleaaGreatDoor.Arr
namespace Go.Proofs.YtigidchicloleaaGreatDoor.Arr
open Go.RowKit Go.Shelf
open Go.Lib
attribute [local go_sem] Oper.semAt_some
def strs (l : List (List UInt8)) : List Value := l.map (fun x => Value.string ⟨List.toArray x⟩)
structure OutI (W5 : World) (G : Nat) (c0 : Value) (l : List (List UInt8)) (W : World) : Prop where
  old : W5.grownBy W (some G)
  lt : G < W5.heap.size
  row : ∃ pv cv, W.heap[G]? = some (.cells #[c0, .slice pv l.length cv] 25 (0, 0)) ∧ W.ownsRow (G + 1) 9 1 (.slice pv l.length cv) l.length (strs l) ∧ (∀ k, (Value.slice pv l.length cv).ownBlock = some k → W5.heap.size ≤ k)
theorem OutI.start {W5 : World} {G : Nat} {c0 : Value} (h : W5.heap[G]? = some (.cells #[c0, .slice none 0 0] 25 (0, 0))) : OutI W5 G c0 [] W5 :=
  ⟨⟨rfl, rfl, rfl, Nat.le_refl _, fun _ _ _ => rfl⟩, (Array.getElem?_eq_some_iff.1 h).1, none, 0, h, ⟨by simp [strs], .inl ⟨rfl, rfl⟩⟩, fun k e => by cases e⟩
theorem OutI.next {W5 W W' : World} {G : Nat} {c0 : Value} {l : List (List UInt8)} (h : OutI W5 G c0 l W) (hb : Below W.heap.size W W') : OutI W5 G c0 l W' := by
  obtain ⟨pv, cv, h1, h2, h3⟩ := h.row
  exact ⟨h.old.trans (gb_of_below hb _), h.lt, pv, cv, (hb.block G (Array.getElem?_eq_some_iff.1 h1).1).trans h1, h2.kept (gb_of_below hb none) (by cases pv <;> simp [Value.ownBlock]), h3⟩
theorem OutI.below {W5 W w : World} {G : Nat} {c0 : Value} {l : List (List UInt8)} (h : OutI W5 G c0 l W) (hb : Below w.heap.size w W5) (hG : w.heap.size ≤ G) : Below w.heap.size w W :=
  ⟨h.old.os.trans hb.os, h.old.tape.trans hb.tape, h.old.output.trans hb.output, Nat.le_trans hb.size h.old.size, fun k hk => (h.old.block k (Nat.lt_of_lt_of_le hk hb.size) (by intro e; injection e with e; omega)).trans (hb.block k hk)⟩
theorem OutI.step {W5 W W1 W2 : World} {G gv cv cv' : Nat} {pv : Option Addr} {c0 : Value} {l : List (List UInt8)} {y : List UInt8} {n : Nat} (h : OutI W5 G c0 l W) (hn : l.length = n) (hb : W.heap[G]? = some (.cells #[c0, .slice pv n cv] 25 (0, 0))) (hw : ∀ k, (Value.slice pv n cv).ownBlock = some k → W5.heap.size ≤ k) (hB : Below W.heap.size W W1)
    (ho : W2.ownsRow W5.heap.size 9 1 (.slice (some ⟨gv, 0, none⟩) (n + 1) cv') (n + 1) (strs (l ++ [y]))) (hg : W1.grownBy W2 (Value.slice pv n cv).ownBlock) :
    OutI W5 G c0 (l ++ [y]) (W2.setCell ⟨G, 1, none⟩ (.slice (some ⟨gv, 0, none⟩) (n + 1) cv')) ∧ W2.heap[G]? = some (.cells #[c0, .slice pv n cv] 25 (0, 0)) := by
  have hGlt := (Array.getElem?_eq_some_iff.1 hb).1
  have hG2 : W2.heap[G]? = some (.cells #[c0, .slice pv n cv] 25 (0, 0)) := (hg.block G (Nat.lt_of_lt_of_le hGlt hB.size) (by intro e; have := hw G e.symm; have := h.lt; omega)).trans ((hB.block G hGlt).trans hb)
  have hgv : W5.heap.size ≤ gv := (ho.lt gv rfl).1
  have hl := h.lt
  have hlen : (l ++ [y]).length = n + 1 := by rw [List.length_append, hn]; rfl
  refine ⟨⟨?_, h.lt, some ⟨gv, 0, none⟩, cv', ?_, ?_, ?_⟩, hG2⟩
  · have o1 := h.old.trans (gb_of_below hB (some G))
    refine ⟨hg.os.trans o1.os, hg.tape.trans o1.tape, hg.output.trans o1.output, Nat.le_trans o1.size (Nat.le_trans hg.size (Nat.le_of_eq (by simp))), fun k hk hne => ?_⟩
    rw [Below.heap_setCell _ _ _ _ (by intro e; exact hne (congrArg some e)), hg.block k (Nat.lt_of_lt_of_le hk o1.size) (by intro e; have := hw k e.symm; omega)]
    exact o1.block k hk hne
  · rw [hlen]
    have := heap_set W2 G 1 (.slice (some ⟨gv, 0, none⟩) (n + 1) cv') _ _ hG2
    rw [this]; rfl
  · rw [hlen]
    exact ownsRow_setCell_other (show W2.ownsRow (G + 1) 9 1 (.slice (some ⟨gv, 0, none⟩) (n + 1) cv') (n + 1) (strs (l ++ [y])) from ⟨ho.1, ho.2.imp id fun ⟨g, cap, cur, e, hg', r⟩ => ⟨g, cap, cur, e, by omega, r⟩⟩) (by simp [Value.ownBlock]; omega) _
  · rw [hlen]
    intro k e; cases e; exact hgv
theorem OutI.reads {W5 W : World} {G n cv : Nat} {pv : Option Addr} {c0 : Value} {l : List (List UInt8)} (h : OutI W5 G c0 l W) (hn : l.length = n) (hb : W.heap[G]? = some (.cells #[c0, .slice pv n cv] 25 (0, 0))) : RdS W pv l ∧ ∀ b off, pv = some ⟨b, off, none⟩ → 0 < l.length → G < b := by
  obtain ⟨pv', cv', h1, h2, h3⟩ := h.row
  rw [hb] at h1
  injection h1 with h1
  injection h1 with h1
  obtain ⟨rfl, rfl⟩ : pv = pv' ∧ cv = cv' := by simpa [hn] using h1
  obtain ⟨-, ⟨e, e2⟩ | ⟨g, cap, cur, e, hg, hh, -⟩⟩ := id h2
  · exact ⟨.inl e2, fun b off _ h0 => by omega⟩
  · injection e with e _ e3
    subst e
    refine ⟨.inr ⟨g, 0, rfl, (Array.getElem?_eq_some_iff.1 hh).1, fun j hj => ?_⟩, fun b off e _ => by cases e; omega⟩
    rw [Nat.zero_add, h2.cellAt j (by omega), strs, List.getElem?_map, List.getElem?_eq_getElem hj, List.getD_eq_getElem?_getD, List.getElem?_eq_getElem hj]
    rfl
end Go.Proofs.YtigidchicloleaaGreatDoor.Arr
set_option maxHeartbeats 2000000
set_option maxRecDepth 100000
namespace Go.Proofs.YtigidchicloleaaGreatDoor.Arr
open Go.RowKit Go.Shelf
open Go.Lib
attribute [local go_sem] Oper.semAt_some
def hasZ (l : List Int) (z : Int) : Bool := (List.range l.length).any (fun j => decide (l.getD j 0 = z))
theorem hasZ_yes {l : List Int} {z : Int} {j : Nat} (hj : j < l.length) (h : l.getD j 0 = z) : hasZ l z = true := by
  unfold hasZ
  rw [List.any_eq_true]
  exact ⟨j, List.mem_range.2 hj, decide_eq_true h⟩
theorem hasZ_no {l : List Int} {z : Int} (h : ∀ j, j < l.length → l.getD j 0 ≠ z) : hasZ l z = false := by
  unfold hasZ
  rw [List.any_eq_false]
  intro j hj
  rw [decide_eq_false (h j (List.mem_range.1 hj))]; simp
def axOk (l : List Int) (count rank : Nat) : Bool := decide (l.length = count) && (List.range l.length).all (fun k => decide (0 ≤ l.getD k 0) && decide (l.getD k 0 < (rank : Int)) && !hasZ (l.take k) (l.getD k 0))
theorem axOk_len {l : List Int} {count rank : Nat} (h : l.length ≠ count) : axOk l count rank = false := by unfold axOk; rw [decide_eq_false h]; rfl
theorem axOk_no {l : List Int} {count rank k : Nat} (hk : k < l.length) (h : l.getD k 0 < 0 ∨ (rank : Int) ≤ l.getD k 0 ∨ hasZ (l.take k) (l.getD k 0) = true) : axOk l count rank = false := by
  unfold axOk
  have : (List.range l.length).all (fun k => decide (0 ≤ l.getD k 0) && decide (l.getD k 0 < (rank : Int)) && !hasZ (l.take k) (l.getD k 0)) = false := by
    rw [List.all_eq_false]
    refine ⟨k, List.mem_range.2 hk, ?_⟩
    rcases h with h | h | h
    · rw [decide_eq_false (p := 0 ≤ l.getD k 0) (by omega)]; simp
    · rw [decide_eq_false (p := l.getD k 0 < (rank : Int)) (by omega)]; simp
    · rw [h]; simp
  rw [this, Bool.and_false]
theorem axOk_yes {l : List Int} {count rank : Nat} (hl : l.length = count) (h : ∀ k, k < l.length → 0 ≤ l.getD k 0 ∧ l.getD k 0 < (rank : Int) ∧ hasZ (l.take k) (l.getD k 0) = false) : axOk l count rank = true := by
  unfold axOk
  rw [decide_eq_true hl, Bool.true_and, List.all_eq_true]
  intro k hk
  obtain ⟨h1, h2, h3⟩ := h k (List.mem_range.1 hk)
  rw [decide_eq_true h1, decide_eq_true h2, h3]; rfl
theorem getD_take {l : List Int} {i j : Nat} (h : j < i) : (l.take i).getD j 0 = l.getD j 0 := by
  rw [List.getD_eq_getElem?_getD, List.getElem?_take_of_lt h, ← List.getD_eq_getElem?_getD]
theorem Rd.take {w : World} {p : Option Addr} {l : List Int} (h : Rd w p l) (i : Nat) : Rd w p (l.take i) := by
  refine ⟨fun z hz => h.wf z (List.mem_of_mem_take hz), ?_⟩
  rcases h.cell with h0 | ⟨b, off, h1, h2, h3⟩
  · exact .inl (by rw [List.length_take]; omega)
  · exact .inr ⟨b, off, h1, h2, fun j hj => by
      rw [List.length_take] at hj
      rw [getD_take (by omega)]; exact h3 j (by omega)⟩
theorem index_any (p : Option Addr) (c n : Nat) (l : List Int) (z : Int) (w : World) (hl : Hid (l.length = n)) (hn : n ≤ 10) (hp : Rd w p l) :
    Calls Tryz.prog 134 #[.slice p n c, .int .i64 z] w fun e w' => w = w' ∧ ∃ r : Int, e = .returned (.int .i64 r) ∧ decide (0 ≤ r) = hasZ l z := by
  have HP := Lib.hid hp
  have hni : (n : Int) ≤ 10 := by omega
  clear hp
  go_enter Tryz.func134, Tryz.ntmps134
  go_wp2_with fail
  go_loop [8] (fun iv => ∃ i : Nat, i ≤ n ∧ iv = .int .i64 i ∧ Hid (∀ k, k < i → l.getD k 0 ≠ z)) (fun iv => n - (Go.RowKit.intOf iv).toNat)
  case atStart => exact ⟨0, Nat.zero_le _, rfl, Lib.hid (fun k hk => by omega)⟩
  case round =>
    obtain ⟨i, hi, rfl, HA⟩ := hrel
    have ii : (i : Int) ≤ (n : Int) := by omega
    by_cases hlt : i < n
    · have ilt : (i : Int) < (n : Int) := by omega
      obtain ⟨b1, o1, x, rfl, -, hc1, HX, -⟩ := HP.out.at (k := i) (by rw [hl.out]; exact hlt)
      by_cases hz : z = x
      · subst hz
        have HFIN : Hid (decide (0 ≤ (i : Int)) = hasZ l z) := Lib.hid (by
          rw [hasZ_yes (j := i) (by rw [hl.out]; exact hlt) HX.out.symm]
          exact decide_eq_true (by omega))
        have hzb : (z == z) = true := beq_self_eq_true z
        go_wp2_with fail
        go_ret
        exact ⟨rfl, _, rfl, HFIN.out⟩
      · have hzb : (z == x) = false := by rw [beq_eq_false_iff_ne]; exact hz
        have hst : Hid (∀ k, k < i + 1 → l.getD k 0 ≠ z) := Lib.hid (fun k hk => by
          by_cases e : k = i
          · rw [e, ← HX.out]; exact fun e => hz e.symm
          · exact HA.out k (by omega))
        go_wp2_with fail
        go_round
        case rel => exact ⟨i + 1, by omega, by go_num, hst⟩
        case measure => simp [Go.RowKit.intOf]; omega
    · obtain rfl : i = n := by omega
      have ilt : ¬ (i : Int) < (i : Int) := by omega
      have HFIN : Hid (decide (0 ≤ (-1 : Int)) = hasZ l z) := Lib.hid (by
        rw [hasZ_no (fun j hj => HA.out j (by rw [← hl.out]; exact hj))]; rfl)
      go_wp2_with fail
      go_ret
      exact ⟨rfl, _, rfl, HFIN.out⟩
theorem contains_any (p : Option Addr) (c n : Nat) (l : List Int) (z : Int) (w : World) (hl : Hid (l.length = n)) (hn : n ≤ 10) (hp : Rd w p l) :
    Calls Tryz.prog 113 #[.slice p n c, .int .i64 z] w fun e w' => w = w' ∧ e = .returned (.bool (hasZ l z)) := by
  have H := Lib.hid (index_any p c n l z w hl hn hp)
  obtain ⟨v, HV⟩ : ∃ v, Hid (v = hasZ l z) := ⟨_, rfl⟩
  rw [← HV.out] at H ⊢
  clear hp
  go_enter Tryz.func113, Tryz.ntmps113
  go_wp2_with fail
  refine (H.out).mono ?_
  rintro e w' ⟨rfl, r, rfl, hr⟩
  have HR := Lib.hid hr
  clear hr
  go_wp2_with fail
  go_ret
  exact ⟨rfl, by rw [← HR.out]; rfl⟩
theorem areaxes_any (p : Option Addr) (c n : Nat) (l : List Int) (cnt rank : Nat) (w : World) (hl : Hid (l.length = n)) (hn : n ≤ 10) (hnc : n ≤ c) (hp : Rd w p l) :
    Calls Tryz.prog 82 #[.slice p n c, .int .i64 (cnt : Int), .int .i64 (rank : Int)] w fun e w' => w = w' ∧ e = .returned (.bool (axOk l cnt rank)) := by
  have HP := Lib.hid hp
  obtain ⟨v, HV⟩ : ∃ v, Hid (v = axOk l cnt rank) := ⟨_, rfl⟩
  rw [← HV.out]
  clear hp
  by_cases hlen : n = cnt
  case neg =>
    have hle : ¬ (n : Int) = (cnt : Int) := by omega
    obtain rfl : v = false := by rw [HV.out]; exact axOk_len (by rw [hl.out]; exact hlen)
    go_enter Tryz.func82, Tryz.ntmps82
    go_wp2_with fail
    go_ret
    exact ⟨rfl, rfl⟩
  subst hlen
  have hni : (n : Int) ≤ 10 := by omega
  have HNO : Hid (∀ k, k < n → l.getD k 0 < 0 ∨ (rank : Int) ≤ l.getD k 0 ∨ hasZ (l.take k) (l.getD k 0) = true → v = false) := Lib.hid (fun k hk h => by rw [HV.out]; exact axOk_no (by rw [hl.out]; exact hk) h)
  have HYES : Hid ((∀ k, k < n → 0 ≤ l.getD k 0 ∧ l.getD k 0 < (rank : Int) ∧ hasZ (l.take k) (l.getD k 0) = false) → v = true) := Lib.hid (fun h => by rw [HV.out]; exact axOk_yes hl.out (fun k hk => h k (by rw [← hl.out]; exact hk)))
  go_enter Tryz.func82, Tryz.ntmps82
  go_wp2_with fail
  go_loop [15] (fun iv => ∃ i : Nat, i ≤ n ∧ iv = .int .i64 i ∧ Hid (∀ k, k < i → 0 ≤ l.getD k 0 ∧ l.getD k 0 < (rank : Int) ∧ hasZ (l.take k) (l.getD k 0) = false)) (fun iv => n - (Go.RowKit.intOf iv).toNat)
  case atStart => exact ⟨0, Nat.zero_le _, rfl, Lib.hid (fun k hk => by omega)⟩
  case round =>
    obtain ⟨i, hi, rfl, HA⟩ := hrel
    have ii : (i : Int) ≤ (n : Int) := by omega
    by_cases hlt : i < n
    · have ilt : (i : Int) < (n : Int) := by omega
      obtain ⟨b1, o1, x, rfl, hb1, hc1, HX, hx1, hx2⟩ := HP.out.at (k := i) (by rw [hl.out]; exact hlt)
      by_cases hx0 : x < 0
      · obtain rfl : v = false := HNO.out i hlt (.inl (by rw [← HX.out]; exact hx0))
        go_wp2_with fail
        go_ret
        exact ⟨rfl, rfl⟩
      by_cases hxr : (rank : Int) ≤ x
      · obtain rfl : v = false := HNO.out i hlt (.inr (.inl (by rw [← HX.out]; exact hxr)))
        go_wp2_with fail
        go_ret
        exact ⟨rfl, rfl⟩
      have hic : (i : Int) ≤ (c : Int) := by omega
      have hicn : i ≤ c := by omega
      have H90 : Hid (∀ c', Calls Tryz.prog 113 #[.slice (some ⟨b1, o1, none⟩) i c', .int .i64 x] w fun e w' => w = w' ∧ e = .returned (.bool (hasZ (l.take i) x))) := Lib.hid (fun c' => contains_any _ c' i (l.take i) x w (Lib.hid (by rw [List.length_take, hl.out]; omega)) (by omega) (HP.out.take i))
      cases hz : hasZ (l.take i) x with
      | true =>
        obtain rfl : v = false := HNO.out i hlt (.inr (.inr (by rw [← HX.out]; exact hz)))
        rw [hz] at H90
        clear hz
        go_wp2_with fail
        refine (H90.out _).mono ?_
        rintro e w' ⟨rfl, rfl⟩
        go_wp2_with fail
        go_ret
        exact ⟨rfl, rfl⟩
      | false =>
        have hst : Hid (∀ k, k < i + 1 → 0 ≤ l.getD k 0 ∧ l.getD k 0 < (rank : Int) ∧ hasZ (l.take k) (l.getD k 0) = false) := Lib.hid (fun k hk => by
          by_cases e : k = i
          · rw [e, ← HX.out]; exact ⟨by omega, by omega, hz⟩
          · exact HA.out k (by omega))
        rw [hz] at H90
        clear hz
        go_wp2_with fail
        refine (H90.out _).mono ?_
        rintro e w' ⟨rfl, rfl⟩
        go_wp2_with fail
        go_round
        case rel => exact ⟨i + 1, by omega, by go_num, hst⟩
        case measure => simp [Go.RowKit.intOf]; omega
    · obtain rfl : i = n := by omega
      have ilt : ¬ (i : Int) < (i : Int) := by omega
      obtain rfl : v = true := HYES.out HA.out
      go_wp2_with fail
      go_ret
      exact ⟨rfl, rfl⟩
end Go.Proofs.YtigidchicloleaaGreatDoor.Arr
