/- Arrays whose texts are appended one by one; the document's Fill. -/
import Derived.Test.YtigidchicloleaaGreatDoorHD
set_option maxHeartbeats 4000000
set_option maxRecDepth 100000
namespace Go.Proofs.YtigidchicloleaaGreatDoor.Arr
open Go.RowKit Go.Shelf
open Go.Lib
attribute [local go_sem] Oper.semAt_some
def strs (l : List (List UInt8)) : List Value := l.map (fun x => Value.string ⟨List.toArray x⟩)
theorem wpList_append_1s {w : World} {ops : Array Oper} {rest : List Oper} {o : Oper} {a : Act} {Q : Exit → Act → World → Prop} (hgd : o.guard = none) (s x : Operand)
    (ho : o.op = .call { callee := .builtin .append, args := #[s, x], argTypes := #[23, 23] })
    (B : Nat) (pv : Option Addr) (cv n : Nat) (X : List (List UInt8)) (hs : a.eval s = .slice pv n cv) (hown : w.ownsRow B 9 1 (.slice pv n cv) n (strs X))
    (g : Nat) (y : List UInt8) (hx : a.eval x = .slice (some ⟨g, 0, none⟩) 1 1) (hc : w.cell? ⟨g, 0, none⟩ = some (.string ⟨List.toArray y⟩)) (hlen : n ≤ 100000) (hB : B ≤ w.heap.size)
    (h : ∀ gv cv' w', w'.ownsRow B 9 1 (.slice (some ⟨gv, 0, none⟩) (n + 1) cv') (n + 1) (strs (X ++ [y])) → w.grownBy w' (Value.slice pv n cv).ownBlock → wpList Tryz.prog ops Q rest (a.put o.dst (.slice (some ⟨gv, 0, none⟩) (n + 1) cv')) w') : wpList Tryz.prog ops Q (o :: rest) a w := by
  obtain ⟨i0, hi, hz0, hz1, hz2⟩ := info_parts info9
  refine wpList_append_own_at _ hgd s x 23 ho B 9 i0 (.string ⟨#[]⟩) 1 16 Tryz.underlying23 hi hz0 hz1 hz2 rfl (by decide) _ _ _ hs hown ⟨g, 0, none⟩ 1 1 [.string ⟨List.toArray y⟩] hx rfl ?_ ?_ (by unfold maxLen; omega) (by omega) hB ?_
  · intro j u hj
    cases j with
    | zero => simp at hj; subst hj; exact hc
    | succ j => simp at hj
  · intro u hu
    obtain rfl := List.mem_singleton.1 hu
    rfl
  · intro v' w' h1 h2 _ _
    obtain ⟨gv, cv', rfl⟩ : ∃ g c, v' = .slice (some ⟨g, 0, none⟩) (n + 1) c := by
      obtain ⟨-, ⟨-, e⟩ | ⟨g, cap, _, e, -⟩⟩ := id h1
      · omega
      · exact ⟨g, cap, e⟩
    refine h gv cv' w' ?_ h2
    rw [strs, List.map_append]
    exact h1
structure OutI (W5 : World) (G : Nat) (c0 : Value) (l : List (List UInt8)) (W : World) : Prop where
  old : W5.grownBy W (some G)
  lt : G < W5.heap.size
  row : ∃ pv cv, W.heap[G]? = some (.cells #[c0, .slice pv l.length cv] 25 (0, 0)) ∧ W.ownsRow (G + 1) 9 1 (.slice pv l.length cv) l.length (strs l) ∧ (∀ k, (Value.slice pv l.length cv).ownBlock = some k → W5.heap.size ≤ k)
theorem OutI.start {W5 : World} {G : Nat} {c0 : Value} (h : W5.heap[G]? = some (.cells #[c0, .slice none 0 0] 25 (0, 0))) : OutI W5 G c0 [] W5 :=
  ⟨⟨rfl, rfl, rfl, Nat.le_refl _, fun _ _ _ => rfl⟩, (Array.getElem?_eq_some_iff.1 h).1, none, 0, h, ⟨by simp [strs], .inl ⟨rfl, rfl⟩⟩, fun k e => by cases e⟩
theorem OutI.next {W5 W W' : World} {G : Nat} {c0 : Value} {l : List (List UInt8)} (h : OutI W5 G c0 l W) (hb : Below W.heap.size W W') : OutI W5 G c0 l W' := by
  obtain ⟨pv, cv, h1, h2, h3⟩ := h.row
  exact ⟨h.old.trans (gb_of_below hb _), h.lt, pv, cv, (hb.block G (Array.getElem?_eq_some_iff.1 h1).1).trans h1, h2.kept (gb_of_below hb none) (by cases pv <;> simp [Value.ownBlock]), h3⟩
theorem OutI.below {W5 W w : World} {G : Nat} {c0 : Value} {l : List (List UInt8)} (h : OutI W5 G c0 l W) (hb : Below w.heap.size w W5) (hG : w.heap.size ≤ G) : Below w.heap.size w W :=
  ⟨h.old.os.trans hb.os, h.old.tape.trans hb.tape, h.old.output.trans hb.output, Nat.le_trans hb.size h.old.size, fun k hk => (h.old.block k (Nat.lt_of_lt_of_le hk hb.size) (by intro e; injection e with e; omega)).trans (hb.block k hk)⟩
theorem OutI.step {W5 W W1 W2 : World} {G gv cv cv' : Nat} {pv : Option Addr} {c0 : Value} {l : List (List UInt8)} {y : List UInt8} {n : Nat} (h : OutI W5 G c0 l W) (hn : l.length = n) (hb : W.heap[G]? = some (.cells #[c0, .slice pv n cv] 25 (0, 0))) (hw : ∀ k, (Value.slice pv n cv).ownBlock = some k → W5.heap.size ≤ k) (hB : Below W.heap.size W W1)
    (ho : W2.ownsRow W5.heap.size 9 1 (.slice (some ⟨gv, 0, none⟩) (n + 1) cv') (n + 1) (strs (l ++ [y]))) (hg : W1.grownBy W2 (Value.slice pv n cv).ownBlock) :
    OutI W5 G c0 (l ++ [y]) (W2.setCell ⟨G, 1, none⟩ (.slice (some ⟨gv, 0, none⟩) (n + 1) cv')) ∧ W2.heap[G]? = some (.cells #[c0, .slice pv n cv] 25 (0, 0)) := by
  have hGlt := (Array.getElem?_eq_some_iff.1 hb).1
  have hG2 : W2.heap[G]? = some (.cells #[c0, .slice pv n cv] 25 (0, 0)) := (hg.block G (Nat.lt_of_lt_of_le hGlt hB.size) (by intro e; have := hw G e.symm; have := h.lt; omega)).trans ((hB.block G hGlt).trans hb)
  have hgv : W5.heap.size ≤ gv := (ho.lt gv rfl).1
  have hl := h.lt
  have hlen : (l ++ [y]).length = n + 1 := by rw [List.length_append, hn]; rfl
  refine ⟨⟨?_, h.lt, some ⟨gv, 0, none⟩, cv', ?_, ?_, ?_⟩, hG2⟩
  · have o1 := h.old.trans (gb_of_below hB (some G))
    refine ⟨hg.os.trans o1.os, hg.tape.trans o1.tape, hg.output.trans o1.output, Nat.le_trans o1.size (Nat.le_trans hg.size (Nat.le_of_eq (by simp))), fun k hk hne => ?_⟩
    rw [Below.heap_setCell _ _ _ _ (by intro e; exact hne (congrArg some e)), hg.block k (Nat.lt_of_lt_of_le hk o1.size) (by intro e; have := hw k e.symm; omega)]
    exact o1.block k hk hne
  · rw [hlen]
    have := heap_set W2 G 1 (.slice (some ⟨gv, 0, none⟩) (n + 1) cv') _ _ hG2
    rw [this]; rfl
  · rw [hlen]
    exact ownsRow_setCell_other (show W2.ownsRow (G + 1) 9 1 (.slice (some ⟨gv, 0, none⟩) (n + 1) cv') (n + 1) (strs (l ++ [y])) from ⟨ho.1, ho.2.imp id fun ⟨g, cap, cur, e, hg', r⟩ => ⟨g, cap, cur, e, by omega, r⟩⟩) (by simp [Value.ownBlock]; omega) _
  · rw [hlen]
    intro k e; cases e; exact hgv
theorem OutI.reads {W5 W : World} {G n cv : Nat} {pv : Option Addr} {c0 : Value} {l : List (List UInt8)} (h : OutI W5 G c0 l W) (hn : l.length = n) (hb : W.heap[G]? = some (.cells #[c0, .slice pv n cv] 25 (0, 0))) : RdS W pv l ∧ ∀ b off, pv = some ⟨b, off, none⟩ → 0 < l.length → G < b := by
  obtain ⟨pv', cv', h1, h2, h3⟩ := h.row
  rw [hb] at h1
  injection h1 with h1
  injection h1 with h1
  obtain ⟨rfl, rfl⟩ : pv = pv' ∧ cv = cv' := by simpa [hn] using h1
  obtain ⟨-, ⟨e, e2⟩ | ⟨g, cap, cur, e, hg, hh, -⟩⟩ := id h2
  · exact ⟨.inl e2, fun b off _ h0 => by omega⟩
  · injection e with e _ e3
    subst e
    refine ⟨.inr ⟨g, 0, rfl, (Array.getElem?_eq_some_iff.1 hh).1, fun j hj => ?_⟩, fun b off e _ => by cases e; omega⟩
    rw [Nat.zero_add, h2.cellAt j (by omega), strs, List.getElem?_map, List.getElem?_eq_getElem hj, List.getD_eq_getElem?_getD, List.getElem?_eq_getElem hj]
    rfl
theorem rfill_any (p : Option Addr) (c n : Nat) (s : List Int) (v : List UInt8) (w : World) (hs : Hid (s.length = n)) (hp : Rd w p s) :
    Calls Tryz.prog 16 #[.slice p n c, .string ⟨List.toArray v⟩] w (ArrPost w (fillV s v).1 (fillV s v).2.1 (fillV s v).2.2) := by
  have HP := Lib.hid hp
  obtain ⟨A, HA⟩ : ∃ A, Hid (A = w.heap.size) := ⟨_, Lib.hid rfl⟩
  obtain ⟨W0, HW0⟩ : ∃ W0, Hid (w.alloc (.cells #[.slice none 0 0, .slice none 0 0] 25) = W0) := ⟨_, Lib.hid rfl⟩
  have HB0 : Hid (Below w.heap.size w W0) := Lib.hid (by rw [← HW0.out]; exact (Below.refl _ w).alloc (Nat.le_refl _) _)
  have HRB : Hid (w.heap.size ≤ A) := Lib.hid (by rw [HA.out]; exact Nat.le_refl _)
  have HS0 : Hid (W0.heap.size = A + 1) := Lib.hid (by rw [← HW0.out, HA.out]; simp)
  have HA1 : Hid (W0.heap[A]? = some (.cells #[.slice none 0 0, .slice none 0 0] 25 (0, 0))) := Lib.hid (by
    rw [← HW0.out, HA.out]; exact World.alloc_heap_new _ _)
  have H19 : Hid (Calls Tryz.prog 20 #[.slice p n c] W0 fun e w' => W0 = w' ∧ e = .returned (.bool (vs s))) := Lib.hid (by
    have := rvshape_any p c s W0 (HP.out.below HB0.out)
    rwa [hs.out] at this)
  clear hp
  by_cases hv : vs s = false
  · have e0 : fillV s v = (60, [], []) := by unfold fillV; rw [if_pos hv]
    rw [e0]
    rw [hv] at H19
    clear hv e0
    have HBk := HB0
    go_enter Tryz.func16, Tryz.ntmps16
    go_wp2_with fail
    rw [HW0.out, ← HA.out]
    refine (H19.out).mono ?_
    rintro e w1 ⟨rfl, rfl⟩
    have y1 := HA1.out
    have r0 : W0.cell? ⟨A, 0, none⟩ = some (.slice none 0 0) := by simp [World.cell?, y1]
    have r1 : W0.cell? ⟨A, 1, none⟩ = some (.slice none 0 0) := by simp [World.cell?, y1]
    have z0 : W0.frozen? ⟨A, 0, none⟩ = false := by simp [World.frozen?, y1]
    have z1 : W0.frozen? ⟨A, 1, none⟩ = false := by simp [World.frozen?, y1]
    have hE1 := heap_set W0 (A) 0 (.slice none 0 0) _ _ y1
    have hE2 := heap_set _ (A) 1 (.slice none 0 0) _ _ hE1
    obtain ⟨W7, hW7⟩ : ∃ W7, (W0.setCell ⟨A, 0, none⟩ (.slice none 0 0)).setCell ⟨A, 1, none⟩ (.slice none 0 0) = W7 := ⟨_, rfl⟩
    rw [hW7] at hE2
    have k0 : W7.cell? ⟨A, 0, none⟩ = some (.slice none 0 0) := by simp [World.cell?, hE2]
    have k1 : W7.cell? ⟨A, 1, none⟩ = some (.slice none 0 0) := by simp [World.cell?, hE2]
    have HFIN : Hid (ArrPost w 60 [] [] (.returned (.tuple #[.agg #[.slice none 0 0, .slice none 0 0], .int .i64 60])) W7) := Lib.hid (arr_no (by
      rw [← hW7]
      exact (HBk.out.setCell (p := ⟨A, 0, none⟩) HRB.out _).setCell (p := ⟨A, 1, none⟩) HRB.out _))
    clear hE1 hE2 y1
    go_wp2_with fail
    (try simp only [Exit.inBlock, Exit.then])
    refine bodyPost_ret (v := .tuple #[.agg #[.slice none 0 0, .slice none 0 0], .int .i64 60]) ?_ rfl HFIN.out
    rw [results_cell_tmp rfl]
    go_simp
  have hv2 : vs s = true := by simpa using hv
  rw [hv2] at H19
  obtain ⟨u, HU⟩ : ∃ u, Hid (u = isV v) := ⟨_, rfl⟩
  have H48 : Hid (Calls Tryz.prog 51 #[.string ⟨List.toArray v⟩] W0 fun e w' => Below W0.heap.size W0 w' ∧ e = .returned (.bool u)) := Lib.hid (by rw [HU.out]; exact risvalue_any v W0)
  by_cases hu : u = false
  · subst hu
    have e0 : fillV s v = (2, [], []) := by unfold fillV; rw [if_neg hv, if_pos HU.out.symm]
    rw [e0]
    clear hv hv2 e0
    go_enter Tryz.func16, Tryz.ntmps16
    go_wp2_with fail
    rw [HW0.out, ← HA.out]
    refine (H19.out).mono ?_
    rintro e w1 ⟨rfl, rfl⟩
    go_wp2_with fail
    refine (H48.out).mono ?_
    rintro e w1 ⟨hb1, rfl⟩
    have HBk : Hid (Below w.heap.size w w1) := Lib.hid (HB0.out.trans (hb1.mono HB0.out.size))
    have y1 : w1.heap[A]? = some (.cells #[.slice none 0 0, .slice none 0 0] 25 (0, 0)) := (hb1.block A (by rw [HS0.out]; omega)).trans HA1.out
    clear hb1
    have r0 : w1.cell? ⟨A, 0, none⟩ = some (.slice none 0 0) := by simp [World.cell?, y1]
    have r1 : w1.cell? ⟨A, 1, none⟩ = some (.slice none 0 0) := by simp [World.cell?, y1]
    have z0 : w1.frozen? ⟨A, 0, none⟩ = false := by simp [World.frozen?, y1]
    have z1 : w1.frozen? ⟨A, 1, none⟩ = false := by simp [World.frozen?, y1]
    have hE1 := heap_set w1 (A) 0 (.slice none 0 0) _ _ y1
    have hE2 := heap_set _ (A) 1 (.slice none 0 0) _ _ hE1
    obtain ⟨W7, hW7⟩ : ∃ W7, (w1.setCell ⟨A, 0, none⟩ (.slice none 0 0)).setCell ⟨A, 1, none⟩ (.slice none 0 0) = W7 := ⟨_, rfl⟩
    rw [hW7] at hE2
    have k0 : W7.cell? ⟨A, 0, none⟩ = some (.slice none 0 0) := by simp [World.cell?, hE2]
    have k1 : W7.cell? ⟨A, 1, none⟩ = some (.slice none 0 0) := by simp [World.cell?, hE2]
    have HFIN : Hid (ArrPost w 2 [] [] (.returned (.tuple #[.agg #[.slice none 0 0, .slice none 0 0], .int .i64 2])) W7) := Lib.hid (arr_no (by
      rw [← hW7]
      exact (HBk.out.setCell (p := ⟨A, 0, none⟩) HRB.out _).setCell (p := ⟨A, 1, none⟩) HRB.out _))
    clear hE1 hE2 y1
    go_wp2_with fail
    (try simp only [Exit.inBlock, Exit.then])
    refine bodyPost_ret (v := .tuple #[.agg #[.slice none 0 0, .slice none 0 0], .int .i64 2]) ?_ rfl HFIN.out
    rw [results_cell_tmp rfl]
    go_simp
  obtain rfl : u = true := by simpa using hu
  obtain ⟨s0, rfl, hsh⟩ := vs_yes hv2
  obtain ⟨N, HN⟩ : ∃ N, Hid (N = prod s0) := ⟨_, rfl⟩
  have hsn : s0.length = n := by rw [← hs.out, List.length_map]
  have hn4 : n ≤ 4 := by rw [← hsn]; exact hsh.1
  have hN4 : N ≤ 4096 := by rw [HN.out]; exact hsh.2.2
  have iN : (N : Int) ≤ 4096 := by omega
  have e0 : fillV (s0.map Int.ofNat) v = (0, s0, List.replicate N v) := by unfold fillV; rw [if_neg hv, if_neg (by rw [← HU.out]; simp), toNat_map, HN.out]
  rw [e0]
  have HSN := Lib.hid hsn
  have HSB : Hid (∀ x ∈ s0, x ≤ 1024) := Lib.hid hsh.2.1
  have HN4 := Lib.hid hN4
  have HCNT : Hid (∀ W, Below w.heap.size w W → Calls Tryz.prog 47 #[.slice p n c] W fun e w' => W = w' ∧ e = .returned (.int .i64 (N : Int))) := Lib.hid (fun W hW => by
    have := count_any p c s0 W (by rw [HSN.out]; exact hn4) HSB.out (HP.out.below hW)
    rwa [HSN.out, ← HN.out] at this)
  clear hv hv2 e0 hsh hsn hN4
  go_enter Tryz.func16, Tryz.ntmps16
  go_wp2_with fail
  rw [HW0.out, ← HA.out]
  refine (H19.out).mono ?_
  rintro e w1 ⟨rfl, rfl⟩
  go_wp2_with fail
  refine (H48.out).mono ?_
  rintro e w1 ⟨hb1, rfl⟩
  have HB1 : Hid (Below w.heap.size w w1) := Lib.hid (HB0.out.trans (hb1.mono HB0.out.size))
  have HY1 : Hid (w1.heap[A]? = some (.cells #[.slice none 0 0, .slice none 0 0] 25 (0, 0))) := Lib.hid ((hb1.block A (by rw [HS0.out]; omega)).trans HA1.out)
  clear hb1
  have H49 : Hid (Calls Tryz.prog 52 #[.slice p n c] w1 (ClonePost n s0 w1)) := Lib.hid (copied_any p n c s0 w1 HSN hn4 HSB (HP.out.below HB1.out))
  go_wp2_with fail
  refine (H49.out).mono ?_
  rintro e w2 ⟨hb2, q, d, rfl, hq1, hq2, hq3, hq4⟩
  obtain ⟨G, HG⟩ : ∃ G, Hid (G = w2.heap.size) := ⟨_, Lib.hid rfl⟩
  obtain ⟨W5, HW5⟩ : ∃ W5, Hid (w2.alloc (.cells #[.slice q n d, .slice none 0 0] 25) = W5) := ⟨_, Lib.hid rfl⟩
  have hb25 : Below w2.heap.size w2 W5 := by rw [← HW5.out]; exact (Below.refl _ _).alloc (Nat.le_refl _) _
  have HX5 : Hid (W5.heap[G]? = some (.cells #[.slice q n d, .slice none 0 0] 25 (0, 0))) := Lib.hid (by rw [← HW5.out, HG.out]; exact World.alloc_heap_new _ _)
  have HAG : Hid (A < G ∧ w.heap.size ≤ G) := Lib.hid (by
    have h1 := (Array.getElem?_eq_some_iff.1 HY1.out).1
    have h2 := hb2.size
    rw [HG.out]; have := HA.out; omega)
  have HY5 : Hid (W5.heap[A]? = some (.cells #[.slice none 0 0, .slice none 0 0] 25 (0, 0))) := Lib.hid ((hb25.block A (by rw [← HG.out]; exact HAG.out.1)).trans ((hb2.block A (Array.getElem?_eq_some_iff.1 HY1.out).1).trans HY1.out))
  have HB5 : Hid (Below w.heap.size w W5) := Lib.hid ((HB1.out.trans (hb2.mono HB1.out.size)).trans (hb25.mono (Nat.le_trans HB1.out.size hb2.size)))
  have HQ5 : Hid (RdN W5 q s0) := Lib.hid (hq1.below hb25)
  have HQB : Hid (∀ b off, q = some ⟨b, off, none⟩ → 0 < n → A < b ∧ b < G) := Lib.hid (fun b off e h0 => by
    have h1 := (Array.getElem?_eq_some_iff.1 HY1.out).1
    have h2 := hq4 b off e
    obtain ⟨b', off', x, e', hb', -⟩ := hq1.at (k := 0) (by rw [HSN.out]; exact h0)
    rw [e] at e'; cases e'
    rw [HG.out]; omega)
  clear hb2 hq1 hq2 hq3 hq4 hb25
  go_wp2_with fail
  rw [HW5.out, ← HG.out]
  go_loopw [7] (fun iv wr => ∃ i : Nat, i ≤ N ∧ iv = .int .i64 i ∧ Hid (OutI W5 G (.slice q n d) (List.replicate i v) wr)) (fun iv _ => N - (Go.RowKit.intOf iv).toNat)
  case atStart => exact ⟨0, Nat.zero_le _, rfl, Lib.hid (OutI.start HX5.out)⟩
  case round =>
    obtain ⟨i, hi, rfl, HO⟩ := hrel
    have ii : (i : Int) ≤ (N : Int) := by omega
    have HBR : Hid (Below w.heap.size w wr) := Lib.hid (HO.out.below HB5.out HAG.out.2)
    obtain ⟨pv, cv, hx, hown, hge⟩ := HO.out.row
    rw [List.length_replicate] at hx hown hge
    have HXR := Lib.hid hx
    have HGE := Lib.hid hge
    have g0 : wr.cell? ⟨G, 0, none⟩ = some (.slice q n d) := by simp [World.cell?, hx]
    have g1 : wr.cell? ⟨G, 1, none⟩ = some (.slice pv i cv) := by simp [World.cell?, hx]
    by_cases hlt : i < N
    · have ilt : (i : Int) < (N : Int) := by omega
      have HCN := Lib.hid (HCNT.out wr HBR.out)
      obtain ⟨U, HUA⟩ : ∃ U, Hid (wr.alloc (.cells #[.string ⟨List.toArray v⟩] 9) = U) := ⟨_, Lib.hid rfl⟩
      have hbU : Below wr.heap.size wr U := by rw [← HUA.out]; exact (Below.refl _ _).alloc (Nat.le_refl _) _
      have HBU := Lib.hid hbU
      have HOU : Hid (U.ownsRow W5.heap.size 9 1 (.slice pv i cv) i (strs (List.replicate i v))) := Lib.hid (by
        have := hown.kept (gb_of_below hbU none) (by cases pv <;> simp [Value.ownBlock])
        obtain ⟨h1, ⟨e, e2⟩ | ⟨g, cap, cur, e, h3, h4⟩⟩ := this
        · exact ⟨h1, .inl ⟨e, e2⟩⟩
        · exact ⟨h1, .inr ⟨g, cap, cur, e, HGE.out g (by rw [e]; rfl), h4⟩⟩)
      have HUC : Hid (U.cell? ⟨wr.heap.size, 0, none⟩ = some (.string ⟨List.toArray v⟩)) := Lib.hid (by
        rw [← HUA.out]; have := World.alloc_heap_new wr (.cells #[.string ⟨List.toArray v⟩] 9); unfold World.cell?; simp only [this]; rfl)
      have HU5 : Hid (W5.heap.size ≤ U.heap.size) := Lib.hid (Nat.le_trans HO.out.old.size hbU.size)
      have hi2 : i ≤ 100000 := by omega
      clear hx hown hge hbU
      go_wp2_with fail
      refine (HCN.out).mono ?_
      rintro e w3 ⟨rfl, rfl⟩
      go_wp2_with (first | (rw [HUA.out]; at_builtin; refine wpList_append_1s rfl (.tmp 26) (.tmp 28) rfl W5.heap.size pv cv i (List.replicate i v) rfl HOU.out wr.heap.size v rfl HUC.out hi2 HU5.out ?_))
      intro gv cv' w4 hown4 hg4
      obtain ⟨hst, hG4⟩ := HO.out.step (List.length_replicate ..) HXR.out HGE.out HBU.out hown4 hg4
      rw [← List.replicate_succ'] at hst
      have HST := Lib.hid hst
      have k1 : w4.cell? ⟨G, 1, none⟩ = some (.slice pv i cv) := by simp [World.cell?, hG4]
      have z1 : w4.frozen? ⟨G, 1, none⟩ = false := by simp [World.frozen?, hG4]
      clear hst hG4 hown4 hg4
      go_wp2_with fail
      go_roundw
      case rel => exact ⟨i + 1, by omega, by go_num, HST⟩
      case measure => simp [Go.RowKit.intOf]; omega
    · obtain rfl : i = N := by omega
      have ilt : ¬ (i : Int) < (i : Int) := by omega
      have HCN := Lib.hid (HCNT.out wr HBR.out)
      obtain ⟨hrd, hrb⟩ := HO.out.reads (List.length_replicate ..) hx
      have y6 : wr.heap[A]? = some (.cells #[.slice none 0 0, .slice none 0 0] 25 (0, 0)) := (HO.out.old.block A (Array.getElem?_eq_some_iff.1 HY5.out).1 (by intro e; injection e with e; have := HAG.out.1; omega)).trans HY5.out
      have hq6 : RdN wr q s0 := HQ5.out.keep HO.out.old.size (fun b off e h0 => HO.out.old.block b (by
        obtain ⟨b', off', x, e', hb', -⟩ := HQ5.out.at (k := 0) h0
        rw [e] at e'; cases e'; exact hb') (by intro e2; injection e2 with e2; have := (HQB.out b off e (by rw [← HSN.out]; exact h0)).2; omega))
      clear hown hge
      have r0 : wr.cell? ⟨A, 0, none⟩ = some (.slice none 0 0) := by simp [World.cell?, y6]
      have r1 : wr.cell? ⟨A, 1, none⟩ = some (.slice none 0 0) := by simp [World.cell?, y6]
      have z0 : wr.frozen? ⟨A, 0, none⟩ = false := by simp [World.frozen?, y6]
      have z1 : wr.frozen? ⟨A, 1, none⟩ = false := by simp [World.frozen?, y6]
      have hE1 := heap_set wr (A) 0 (.slice q n d) _ _ y6
      have hE2 := heap_set _ (A) 1 (.slice pv i cv) _ _ hE1
      obtain ⟨W7, hW7⟩ : ∃ W7, (wr.setCell ⟨A, 0, none⟩ (.slice q n d)).setCell ⟨A, 1, none⟩ (.slice pv i cv) = W7 := ⟨_, rfl⟩
      rw [hW7] at hE2
      have k0 : W7.cell? ⟨A, 0, none⟩ = some (.slice q n d) := by simp [World.cell?, hE2]
      have k1 : W7.cell? ⟨A, 1, none⟩ = some (.slice pv i cv) := by simp [World.cell?, hE2]
      have hg67 : wr.grownBy W7 (some (A)) := by rw [← hW7]; exact (gb_set _ _ _ _).trans (gb_set _ _ _ _)
      have HFIN : Hid (ArrPost w 0 s0 (List.replicate i v) (.returned (.tuple #[.agg #[.slice q n d, .slice pv i cv], .int .i64 0])) W7) := Lib.hid (by
          refine ⟨?_, q, pv, n, d, i, cv, rfl, HSN.out, by rw [List.length_replicate], ?_, ?_⟩
          · have o2 : w.grownBy W7 none := gb_trans_new (gb_of_below HBR.out none) hg67 HRB.out
            exact ⟨o2.os, o2.tape, o2.output, o2.size, fun k hk => o2.block k hk (by intro e; cases e)⟩
          · refine hq6.keep hg67.size (fun b off e h0 => ?_)
            obtain ⟨b', off', x, e', hb', -⟩ := hq6.at h0
            rw [e] at e'; cases e'
            exact hg67.block b hb' (by intro e2; injection e2 with e2; have := (HQB.out b off e (by rw [← HSN.out]; exact h0)).1; omega)
          · refine hrd.keep hg67.size (fun b off e h0 => ?_)
            obtain ⟨b', off', x, e', hb', -⟩ := hrd.at h0
            rw [e] at e'; cases e'
            exact hg67.block b hb' (by intro e2; injection e2 with e2; have := hrb b off e h0; have := HAG.out.1; omega))
      clear hrd hrb hq6 hg67 hE1 hE2 y6 hx
      go_wp2_with fail
      refine (HCN.out).mono ?_
      rintro e w3 ⟨rfl, rfl⟩
      go_wp2_with fail
      (try simp only [Exit.inBlock, Exit.then])
      refine bodyPost_ret (v := .tuple #[.agg #[.slice q n d, .slice pv i cv], .int .i64 0]) ?_ rfl HFIN.out
      rw [results_cell_tmp rfl]
      go_simp
end Go.Proofs.YtigidchicloleaaGreatDoor.Arr
