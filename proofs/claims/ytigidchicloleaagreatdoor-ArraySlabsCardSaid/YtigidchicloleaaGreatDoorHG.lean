/- At on both sides; the document's copied. -/
import Derived.Test.YtigidchicloleaaGreatDoorHB
import Derived.Laws.ResultCell
import Derived.Test.YtigidchicloleaaGreatDoorQA
import Derived.Test.YtigidchicloleaaGreatDoorGI
set_option maxHeartbeats 1600000
set_option maxRecDepth 100000
namespace Go.Proofs.YtigidchicloleaaGreatDoor.Arr
open Go.RowKit Go.Shelf
open Go.Lib
attribute [local go_sem] Oper.semAt_some
theorem copied_any (p : Option Addr) (n c : Nat) (s : List Nat) (w : World) (hs : Hid (s.length = n)) (hn : n ≤ 4) (hb : Hid (∀ x ∈ s, x ≤ 1024)) (h : RdN w p s) :
    Calls Tryz.prog 52 #[.slice p n c] w (ClonePost n s w) := by
  have H := Lib.hid h
  have HBa : Hid (Below w.heap.size w (w.alloc (.cells #[] 3))) := Lib.hid ((Below.refl _ w).alloc (Nat.le_refl _) _)
  have hown : Hid ((w.alloc (.cells #[] 3)).ownsRow w.heap.size 3 1 (.slice (some ⟨w.heap.size, 0, none⟩) 0 0) 0 (([] : List Nat).map (fun x => Value.int .i64 ((x : Nat) : Int)))) := Lib.hid ⟨rfl, .inr ⟨w.heap.size, 0, #[], rfl, Nat.le_refl _, World.alloc_heap_new w _, Nat.le_refl _, Nat.zero_le _, rfl, rfl⟩⟩
  have hsz : Hid (w.heap.size ≤ (w.alloc (.cells #[] 3)).heap.size) := Lib.hid (by simp)
  clear h
  go_enter Tryz.func52, Tryz.ntmps52
  go_wp2_with (at_builtin; refine wpList_append_ns rfl (.tmp 3) (.tmp 4) rfl w.heap.size _ [] rfl hown.out p n c s rfl hs.out (H.out.below HBa.out) (by simp; omega) hsz.out ?_)
  intro v5 w5 hown5 hg5 hge5
  obtain ⟨q, d, rfl, hq1, hq2, hq3, hq4⟩ := rdn_own (s := s) (n := n) hs.out hb.out (by simpa using hown5)
  have hfin : Hid (ClonePost n s w (.returned (.slice q n d)) w5) := Lib.hid ⟨HBa.out.trans ((Below.refl _ _).grown hg5 hsz.out (fun k e => own_ge' hown.out e)), q, d, rfl, hq1, hq2, hq3, hq4⟩
  clear hown5 hg5 hge5 hq1 hq2 hq3 hq4
  go_wp2_with fail
  go_ret
  exact hfin.out
end Go.Proofs.YtigidchicloleaaGreatDoor.Arr
namespace Go.Proofs.YtigidchicloleaaGreatDoor.Arr
open Go.RowKit Go.Shelf
open Go.Lib
attribute [local go_sem] Oper.semAt_some
def ArrPost (w : World) (z : Int) (s1 : List Nat) (l1 : List (List UInt8)) (e : Ending) (w' : World) : Prop :=
  Below w.heap.size w w' ∧ ∃ (q1 q2 : Option Addr) (n1 d1 m1 d2 : Nat), e = .returned (.tuple #[.agg #[.slice q1 n1 d1, .slice q2 m1 d2], .int .i64 z]) ∧ s1.length = n1 ∧ l1.length = m1 ∧ RdN w' q1 s1 ∧ RdS w' q2 l1
theorem arr_no {w w' : World} {z : Int} (h : Below w.heap.size w w') : ArrPost w z [] [] (.returned (.tuple #[.agg #[.slice none 0 0, .slice none 0 0], .int .i64 z])) w' :=
  ⟨h, none, none, 0, 0, 0, 0, rfl, rfl, rfl, ⟨fun z hz => (by cases hz), .inl rfl⟩, .inl rfl⟩
end Go.Proofs.YtigidchicloleaaGreatDoor.Arr
namespace Go.Proofs.YtigidchicloleaaGreatDoor.Arr
open Go.RowKit Go.Shelf
open Go.Lib
attribute [local go_sem] Oper.semAt_some
def strs (l : List (List UInt8)) : List Value := l.map (fun x => Value.string ⟨List.toArray x⟩)
theorem strs_len (l : List (List UInt8)) : (strs l).length = l.length := by simp [strs]
structure OutI (W5 : World) (G : Nat) (c0 : Value) (l : List (List UInt8)) (W : World) : Prop where
  old : W5.grownBy W (some G)
  lt : G < W5.heap.size
  row : ∃ pv cv, W.heap[G]? = some (.cells #[c0, .slice pv l.length cv] 25 (0, 0)) ∧ W.ownsRow (G + 1) 9 1 (.slice pv l.length cv) l.length (strs l) ∧ (∀ k, (Value.slice pv l.length cv).ownBlock = some k → W5.heap.size ≤ k)
theorem OutI.start {W5 : World} {G : Nat} {c0 : Value} (h : W5.heap[G]? = some (.cells #[c0, .slice none 0 0] 25 (0, 0))) : OutI W5 G c0 [] W5 :=
  ⟨⟨rfl, rfl, rfl, Nat.le_refl _, fun _ _ _ => rfl⟩, (Array.getElem?_eq_some_iff.1 h).1, none, 0, h, ⟨by simp [strs], .inl ⟨rfl, rfl⟩⟩, fun k e => by cases e⟩
theorem OutI.next {W5 W W' : World} {G : Nat} {c0 : Value} {l : List (List UInt8)} (h : OutI W5 G c0 l W) (hb : Below W.heap.size W W') : OutI W5 G c0 l W' := by
  obtain ⟨pv, cv, h1, h2, h3⟩ := h.row
  exact ⟨h.old.trans (gb_of_below hb _), h.lt, pv, cv, (hb.block G (Array.getElem?_eq_some_iff.1 h1).1).trans h1, h2.kept (gb_of_below hb none) (by cases pv <;> simp [Value.ownBlock]), h3⟩
theorem OutI.below {W5 W w : World} {G : Nat} {c0 : Value} {l : List (List UInt8)} (h : OutI W5 G c0 l W) (hb : Below w.heap.size w W5) (hG : w.heap.size ≤ G) : Below w.heap.size w W :=
  ⟨h.old.os.trans hb.os, h.old.tape.trans hb.tape, h.old.output.trans hb.output, Nat.le_trans hb.size h.old.size, fun k hk => (h.old.block k (Nat.lt_of_lt_of_le hk hb.size) (by intro e; injection e with e; omega)).trans (hb.block k hk)⟩
theorem OutI.step {W5 W W1 W2 : World} {G gv cv cv' : Nat} {pv : Option Addr} {c0 : Value} {l : List (List UInt8)} {y : List UInt8} {n : Nat} (h : OutI W5 G c0 l W) (hn : l.length = n) (hb : W.heap[G]? = some (.cells #[c0, .slice pv n cv] 25 (0, 0))) (hw : ∀ k, (Value.slice pv n cv).ownBlock = some k → W5.heap.size ≤ k) (hB : Below W.heap.size W W1)
    (ho : W2.ownsRow W5.heap.size 9 1 (.slice (some ⟨gv, 0, none⟩) (n + 1) cv') (n + 1) (strs (l ++ [y]))) (hg : W1.grownBy W2 (Value.slice pv n cv).ownBlock) :
    OutI W5 G c0 (l ++ [y]) (W2.setCell ⟨G, 1, none⟩ (.slice (some ⟨gv, 0, none⟩) (n + 1) cv')) ∧ W2.heap[G]? = some (.cells #[c0, .slice pv n cv] 25 (0, 0)) := by
  have hGlt := (Array.getElem?_eq_some_iff.1 hb).1
  have hG2 : W2.heap[G]? = some (.cells #[c0, .slice pv n cv] 25 (0, 0)) := (hg.block G (Nat.lt_of_lt_of_le hGlt hB.size) (by intro e; have := hw G e.symm; have := h.lt; omega)).trans ((hB.block G hGlt).trans hb)
  have hgv : W5.heap.size ≤ gv := (ho.lt gv rfl).1
  have hl := h.lt
  have hlen : (l ++ [y]).length = n + 1 := by rw [List.length_append, hn]; rfl
  refine ⟨⟨?_, h.lt, some ⟨gv, 0, none⟩, cv', ?_, ?_, ?_⟩, hG2⟩
  · have o1 := h.old.trans (gb_of_below hB (some G))
    refine ⟨hg.os.trans o1.os, hg.tape.trans o1.tape, hg.output.trans o1.output, Nat.le_trans o1.size (Nat.le_trans hg.size (Nat.le_of_eq (by simp))), fun k hk hne => ?_⟩
    rw [Below.heap_setCell _ _ _ _ (by intro e; exact hne (congrArg some e)), hg.block k (Nat.lt_of_lt_of_le hk o1.size) (by intro e; have := hw k e.symm; omega)]
    exact o1.block k hk hne
  · rw [hlen]
    have := heap_set W2 G 1 (.slice (some ⟨gv, 0, none⟩) (n + 1) cv') _ _ hG2
    rw [this]; rfl
  · rw [hlen]
    exact ownsRow_setCell_other (show W2.ownsRow (G + 1) 9 1 (.slice (some ⟨gv, 0, none⟩) (n + 1) cv') (n + 1) (strs (l ++ [y])) from ⟨ho.1, ho.2.imp id fun ⟨g, cap, cur, e, hg', r⟩ => ⟨g, cap, cur, e, by omega, r⟩⟩) (by simp [Value.ownBlock]; omega) _
  · rw [hlen]
    intro k e; cases e; exact hgv
theorem OutI.reads {W5 W : World} {G n cv : Nat} {pv : Option Addr} {c0 : Value} {l : List (List UInt8)} (h : OutI W5 G c0 l W) (hn : l.length = n) (hb : W.heap[G]? = some (.cells #[c0, .slice pv n cv] 25 (0, 0))) : RdS W pv l ∧ ∀ b off, pv = some ⟨b, off, none⟩ → 0 < l.length → G < b := by
  obtain ⟨pv', cv', h1, h2, h3⟩ := h.row
  rw [hb] at h1
  injection h1 with h1
  injection h1 with h1
  obtain ⟨rfl, rfl⟩ : pv = pv' ∧ cv = cv' := by simpa [hn] using h1
  obtain ⟨-, ⟨e, e2⟩ | ⟨g, cap, cur, e, hg, hh, -⟩⟩ := id h2
  · exact ⟨.inl e2, fun b off _ h0 => by omega⟩
  · injection e with e _ e3
    subst e
    refine ⟨.inr ⟨g, 0, rfl, (Array.getElem?_eq_some_iff.1 hh).1, fun j hj => ?_⟩, fun b off e _ => by cases e; omega⟩
    rw [Nat.zero_add, h2.cellAt j (by omega), strs, List.getElem?_map, List.getElem?_eq_getElem hj, List.getD_eq_getElem?_getD, List.getElem?_eq_getElem hj]
    rfl
end Go.Proofs.YtigidchicloleaaGreatDoor.Arr
namespace Go.Proofs.YtigidchicloleaaGreatDoor.Arr
open Go.RowKit Go.Shelf
open Go.Lib
theorem last_le {s : Nat} {a n st : Int} (h : cutOk s a n st = true) : 0 ≤ a ∧ 0 ≤ n ∧ 1 ≤ st ∧ a ≤ (s : Int) ∧ (1 ≤ n → a + (n - 1) * st ≤ (s : Int) - 1) := by
  unfold cutOk at h
  simp only [Bool.and_eq_true, Bool.or_eq_true, decide_eq_true_eq] at h
  obtain ⟨⟨⟨⟨h1, h2⟩, h3⟩, h4⟩, h5⟩ := h
  refine ⟨h1, h2, h3, h4, fun hn => ?_⟩
  rcases h5 with h5 | ⟨h5, h6⟩
  · omega
  · have e2 : (n - 1) * st ≤ ((s : Int) - 1 - a) / st * st := Int.mul_le_mul_of_nonneg_right h6 (by omega)
    have e3 : ((s : Int) - 1 - a) / st * st ≤ (s : Int) - 1 - a := Int.ediv_mul_le _ (by omega)
    omega
theorem shp_cnts {s : List Nat} {c1 : List (Int × Int × Int)} (hs : Shp s) (h : slabOk s c1 = true) : Shp (cnts c1) := by
  obtain ⟨h1, h2, h3, h4⟩ := cnts_ok h hs.2.1
  exact ⟨by rw [cnts, List.length_map, h1]; exact hs.1, h3, Nat.le_trans h4 hs.2.2⟩
theorem vs_of_shp {s : List Nat} (hs : Shp s) : vs (s.map Int.ofNat) = true := by
  unfold vs
  rw [decide_eq_true (show (s.map Int.ofNat).length ≤ 4 by rw [List.length_map]; exact hs.1), decide_eq_true (show prod ((s.map Int.ofNat).map Int.toNat) ≤ 4096 by rw [toNat_map]; exact hs.2.2), decide_eq_true]
  · rfl
  · intro z hz
    obtain ⟨x, hx, rfl⟩ := List.mem_map.1 hz
    have := hs.2.1 x hx
    exact ⟨by show (0 : Int) ≤ (x : Int); omega, by show (x : Int) ≤ 1024; omega⟩
theorem sliceV_len (s : List Nat) (l : List (List UInt8)) (c : List (Int × Int × Int)) : (sliceV s l c).length = prod (cnts c) := by
  unfold sliceV; rw [List.length_map, List.length_range]
theorem place_lt {s : List Nat} {c : List (Int × Int × Int)} (hs : Shp s) (h : slabOk s c = true) {i : Nat} (hi : i < prod (cnts c)) : plc s (thr c (ixOf (cnts c) i)) 0 < prod s := by
  have h1 := (thr_ok h hs.2.1 (ixOf_is (cnts c) i hi).1).2
  have h2 := (plc_lt s _ 0 h1).1
  omega
theorem valid_slice {s : List Nat} {l : List (List UInt8)} {c : List (Int × Int × Int)} (hs : Shp s) (h : slabOk s c = true) (hv : validA (s.map Int.ofNat) l = true) : validA ((cnts c).map Int.ofNat) (sliceV s l c) = true := by
  unfold validA at hv ⊢
  rw [Bool.and_eq_true, Bool.and_eq_true, decide_eq_true_eq, toNat_map, List.all_eq_true] at hv
  obtain ⟨-, hl, hall⟩ := hv
  rw [vs_of_shp (shp_cnts hs h), toNat_map, decide_eq_true (sliceV_len s l c), Bool.true_and, Bool.true_and, List.all_eq_true]
  intro x hx
  obtain ⟨i, hi, rfl⟩ := List.mem_map.1 hx
  have hp := place_lt hs h (List.mem_range.1 hi)
  rw [List.getD_eq_getElem?_getD, List.getElem?_eq_getElem (by rw [hl]; exact hp)]
  exact hall _ (List.getElem_mem _)
end Go.Proofs.YtigidchicloleaaGreatDoor.Arr
set_option maxHeartbeats 2000000
set_option maxRecDepth 100000
namespace Go.Proofs.YtigidchicloleaaGreatDoor.Arr
open Go.RowKit
open Go.Lib
attribute [local go_sem] Oper.semAt_some
theorem prod_drop {s : List Nat} {k : Nat} (hk : k < s.length) : prod (s.drop k) = s.getD k 0 * prod (s.drop (k + 1)) := by
  rw [List.drop_eq_getElem_cons hk, prod_cons, List.getD_eq_getElem?_getD, List.getElem?_eq_getElem hk]; rfl
theorem prod_split : ∀ (s : List Nat) (k : Nat), prod s = prod (s.take k) * prod (s.drop k)
  | s, 0 => by simp [prod]
  | [], k + 1 => by simp [prod]
  | x :: s, k + 1 => by rw [List.take_succ_cons, List.drop_succ_cons, prod_cons, prod_cons, prod_split s k, Nat.mul_assoc]
theorem ixOf_getD : ∀ (s : List Nat) (i k : Nat), i < prod s → k < s.length → (ixOf s i).getD k 0 = (i / prod (s.drop (k + 1))) % s.getD k 0
  | [], _, _, _, hk => absurd hk (by simp)
  | x :: s, i, 0, hi, _ => by
    rw [prod_cons] at hi
    show i / prod s = (i / prod s) % x
    rw [Nat.mod_eq_of_lt (Nat.div_lt_of_lt_mul (by rw [Nat.mul_comm]; exact hi))]
  | x :: s, i, k + 1, hi, hk => by
    rw [prod_cons] at hi
    have hp : 0 < prod s := by
      rcases Nat.eq_zero_or_pos (prod s) with h0 | h0
      · rw [h0, Nat.mul_zero] at hi; omega
      · exact h0
    have hk2 : k < s.length := by simpa using hk
    have ih := ixOf_getD s (i % prod s) k (Nat.mod_lt _ hp) hk2
    show (ixOf s (i % prod s)).getD k 0 = (i / prod (s.drop (k + 1))) % s.getD k 0
    rw [ih]
    have e : prod s = (prod (s.take k) * s.getD k 0) * prod (s.drop (k + 1)) := by rw [prod_split s k, prod_drop hk2, Nat.mul_assoc]
    rw [e, Nat.mod_mul_left_div_self, Nat.mul_comm (prod (s.take k)), Nat.mod_mul_right_mod]
theorem zn_app (k : Nat) (R : List Nat) : zn (k + 1) ++ R = zn k ++ 0 :: R := by
  unfold zn
  rw [List.replicate_succ', List.append_assoc]; rfl
theorem ixOf_small {s : List Nat} {i : Nat} (hi : i < prod s) (hsb : ∀ x ∈ s, x ≤ 1024) : ∀ x ∈ ixOf s i, x < 1024 := fun x hx => by
  obtain ⟨k, hk, e⟩ := List.getElem_of_mem hx
  have h1 := (ixOf_is s i hi).1
  have h2 := h1.2 k (by rw [← h1.1]; exact hk)
  have h3 := hsb (s.getD k 0) (by rw [List.getD_eq_getElem?_getD, List.getElem?_eq_getElem (by rw [← h1.1]; exact hk)]; exact List.getElem_mem _)
  rw [List.getD_eq_getElem?_getD, List.getElem?_eq_getElem hk, Option.getD_some, e] at h2
  omega
theorem rindex_any (p : Option Addr) (c n i : Nat) (s : List Nat) (w : World) (hn : n ≤ 4) (hs : Hid (s.length = n)) (hsb : Hid (∀ x ∈ s, x ≤ 1024)) (hi : Hid (i < prod s)) (h4 : prod s ≤ 4096) (hp : RdN w p s) :
    Calls Tryz.prog 66 #[.slice p n c, .int .i64 (i : Int)] w fun e w' => e = .returned (.slice (some ⟨w.heap.size, 0, none⟩) n n) ∧ w'.heap[w.heap.size]? = some (.cells (ixC (ixOf s i)) 3 (0, 0)) ∧ Below w.heap.size w w' := by
  have HP := Lib.hid hp
  have hni : (n : Int) ≤ 4 := by omega
  have hmk := fun W => make_ints n (by omega) W
  have HI4 : Hid (i ≤ 4096) := Lib.hid (by have := hi.out; omega)
  have HIX : Hid ((ixOf s i).length = n) := Lib.hid (by rw [ixOf_len, hs.out])
  obtain ⟨g, HG⟩ : ∃ g, Hid (g = w.heap.size) := ⟨_, rfl⟩
  obtain ⟨W1, HW1⟩ : ∃ W1, Hid (w.alloc (.cells (ixC (zn n)) 3) = W1) := ⟨_, Lib.hid rfl⟩
  have HB1 : Hid (Below w.heap.size w W1) := Lib.hid (by rw [← HW1.out]; exact (Below.refl _ _).alloc (Nat.le_refl _) _)
  have HG1 : Hid (W1.heap[g]? = some (.cells (ixC (zn n)) 3 (0, 0))) := Lib.hid (by rw [← HW1.out, HG.out]; exact World.alloc_heap_new _ _)
  clear hp h4
  go_enter Tryz.func66, Tryz.ntmps66
  go_wp2_with fail
  rw [HW1.out, ← HG.out]
  clear hmk
  go_loopw [1, 6] (fun mv kv wr => ∃ (j m : Nat) (t : Int), j ≤ n ∧ kv = .int .i64 t ∧ mv = .int .i64 (m : Int) ∧ t = (j : Int) - 1 ∧ Hid (m = i / prod (s.drop j)) ∧ Hid (wr.heap[g]? = some (.cells (ixC (zn j ++ (ixOf s i).drop j)) 3 (0, 0))) ∧ Hid (W1.grownBy wr (some g))) (fun _ kv _ => (intOf kv + 1).toNat)
  case atStart => exact ⟨n, i, _, Nat.le_refl _, rfl, rfl, rfl, Lib.hid (by rw [List.drop_of_length_le (by rw [hs.out]; omega)]; simp [prod]), Lib.hid (by rw [List.drop_of_length_le (by rw [HIX.out]; omega), List.append_nil]; exact HG1.out), Lib.hid ⟨rfl, rfl, rfl, Nat.le_refl _, fun _ _ _ => rfl⟩⟩
  case round =>
    obtain ⟨j, m, t, hj, rfl, rfl, ht, HM, HR, HB⟩ := hrel
    have HBW : Hid (Below w.heap.size w wr) := Lib.hid ⟨HB.out.os.trans HB1.out.os, HB.out.tape.trans HB1.out.tape, HB.out.output.trans HB1.out.output, Nat.le_trans HB1.out.size HB.out.size, fun k hk => (HB.out.block k (Nat.lt_of_lt_of_le hk HB1.out.size) (by intro e; injection e with e; rw [e, HG.out] at hk; omega)).trans (HB1.out.block k hk)⟩
    cases j with
    | zero =>
      obtain rfl : t = -1 := by omega
      have hfin : Hid (wr.heap[w.heap.size]? = some (.cells (ixC (ixOf s i)) 3 (0, 0)) ∧ Below w.heap.size w wr) := Lib.hid ⟨by rw [← HG.out]; exact HR.out, HBW.out⟩
      clear ht
      go_wp2_with fail
      go_ret
      exact ⟨by rw [HG.out]; rfl, hfin.out.1, hfin.out.2⟩
    | succ k =>
      obtain rfl : t = (k : Int) := by omega
      clear ht
      have hkn : (k : Int) < (n : Int) := by omega
      obtain ⟨b1, o1, x, rfl, hb1, hc1, HX⟩ := HP.out.at (k := k) (by rw [hs.out]; omega)
      have hks : k < s.length := by rw [hs.out]; omega
      have hxp : 0 < x := by
        have h1 := (ixOf_is s i hi.out).1.2 k hks
        rw [← HX.out] at h1; omega
      have hx1024 : x ≤ 1024 := by
        rw [HX.out, List.getD_eq_getElem?_getD, List.getElem?_eq_getElem hks]
        exact hsb.out _ (List.getElem_mem _)
      have hm4 : m ≤ 4096 := by
        rw [HM.out]; exact Nat.le_trans (Nat.div_le_self _ _) HI4.out
      have imi : (m : Int) ≤ 4096 := by omega
      have ixi : (x : Int) ≤ 1024 := by omega
      have ixp : (0 : Int) < (x : Int) := by omega
      have ixn : ¬ (x : Int) = 0 := by omega
      obtain ⟨y, HY⟩ : ∃ y, Hid (y = m % x) := ⟨_, rfl⟩
      obtain ⟨m2, HM2⟩ : ∃ m2, Hid (m2 = m / x) := ⟨_, rfl⟩
      have hmod : (m : Int).tmod (x : Int) = (y : Int) := by rw [HY.out]; exact (Int.ofNat_tmod m x).symm
      have hdiv : (m : Int).tdiv (x : Int) = (m2 : Int) := by rw [HM2.out]; exact (Int.ofNat_tdiv m x).symm
      have iy : (y : Int) ≤ 4096 := by rw [HY.out]; have := Nat.mod_le m x; omega
      have im2 : (m2 : Int) ≤ 4096 := by rw [HM2.out]; have := Nat.div_le_self m x; omega
      have hyx : Hid (y = (ixOf s i).getD k 0) := Lib.hid (by rw [ixOf_getD s i k hi.out hks, HY.out, HM.out, HX.out])
      have hstm : Hid (m2 = i / prod (s.drop k)) := Lib.hid (by rw [prod_drop hks, Nat.mul_comm, ← Nat.div_div_eq_div_mul, HM2.out, HM.out, HX.out])
      have hdr : (ixOf s i).drop k = y :: (ixOf s i).drop (k + 1) := by
        rw [List.drop_eq_getElem_cons (by rw [HIX.out]; omega), hyx.out, List.getD_eq_getElem?_getD, List.getElem?_eq_getElem (by rw [HIX.out]; omega)]; rfl
      have HDR := Lib.hid hdr
      have HZL : Hid ((zn k).length = k) := Lib.hid (by simp [zn])
      have HR0 : Hid (wr.heap[g]? = some (.cells (ixC (zn k ++ 0 :: (ixOf s i).drop (k + 1))) 3 (0, 0))) := Lib.hid (by rw [← zn_app]; exact HR.out)
      have hcg : wr.cell? ⟨g, k, none⟩ = some (.int .i64 0) := by
        have h := cell_row HR0.out (k := k) (by simp [zn])
        rw [getD_mid HZL.out] at h
        exact h
      have hfg : wr.frozen? ⟨g, k, none⟩ = false := free_row HR0.out
      have d1 : wr.cell? ⟨b1, o1 + k, none⟩ = some (.int .i64 (x : Int)) := (HBW.out.cell (p := ⟨b1, o1 + k, none⟩) hb1).trans hc1
      obtain ⟨W2, HW2⟩ : ∃ W2, Hid (wr.setCell ⟨g, k, none⟩ (.int .i64 (y : Int)) = W2) := ⟨_, Lib.hid rfl⟩
      have HR1 : Hid (W2.heap[g]? = some (.cells (ixC (zn k ++ (ixOf s i).drop k)) 3 (0, 0))) := Lib.hid (by
        rw [HDR.out, ← HW2.out, ← ixC_set (zn k) 0 y ((ixOf s i).drop (k + 1)) HZL.out]
        exact heap_set wr g k _ _ _ HR0.out)
      have HB2 : Hid (W1.grownBy W2 (some g)) := Lib.hid (HB.out.trans (by rw [← HW2.out]; exact gb_set _ _ _ _))
      have d2 : W2.cell? ⟨b1, o1 + k, none⟩ = some (.int .i64 (x : Int)) := by
        have hne : b1 ≠ g := by rw [HG.out]; omega
        have hh := (HB2.out.block b1 (Nat.lt_of_lt_of_le hb1 HB1.out.size) (by intro e; injection e with e; exact hne e)).trans (HB1.out.block b1 hb1)
        rw [World.cell?_of_block (a := ⟨b1, o1 + k, none⟩) hh]; exact hc1
      rw [← HW2.out] at d2
      clear hc1 hdr
      go_wp2_with fail
      rw [HW2.out]
      go_roundw
      case rel => exact ⟨k, m2, _, by omega, rfl, rfl, by go_num, hstm, HR1, HB2⟩
      case measure => simp [intOf]
end Go.Proofs.YtigidchicloleaaGreatDoor.Arr
