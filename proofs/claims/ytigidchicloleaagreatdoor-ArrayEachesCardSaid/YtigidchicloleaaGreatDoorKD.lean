/- The program's Each, where it is good. -/
import Derived.Test.YtigidchicloleaaGreatDoorKC
import Derived.Deep.RegionHeld3
set_option maxHeartbeats 16000000
set_option maxRecDepth 100000
namespace Go.Proofs.YtigidchicloleaaGreatDoor.Arr
open Go.RowKit Go.Shelf
open Go.Lib
attribute [local go_sem] Oper.semAt_some
def mixT (op : Int) (l bl : List (List UInt8)) (i : Nat) : List (List UInt8) := (List.zipWith (eachT op) l bl).take i ++ l.drop i
theorem mixT_zero (op : Int) (l bl : List (List UInt8)) : mixT op l bl 0 = l := by simp [mixT]
theorem mixT_len {op : Int} {l bl : List (List UInt8)} {m : Nat} (hl : l.length = m) (hb : bl.length = m) (i : Nat) (hi : i ≤ m) : (mixT op l bl i).length = m := by
  simp only [mixT, List.length_append, List.length_take, List.length_zipWith, List.length_drop]; omega
theorem mixT_all {op : Int} {l bl : List (List UInt8)} {m : Nat} (hl : l.length = m) (hb : bl.length = m) : mixT op l bl m = List.zipWith (eachT op) l bl := by
  unfold mixT
  rw [List.take_of_length_le (by rw [List.length_zipWith]; omega), List.drop_eq_nil_of_le (by omega), List.append_nil]
theorem mixT_step {op : Int} {l bl : List (List UInt8)} {m i : Nat} (hl : l.length = m) (hb : bl.length = m) (hi : i < m) : (mixT op l bl i).set i (eachT op (l.getD i []) (bl.getD i [])) = mixT op l bl (i + 1) := by
  apply List.ext_getElem?
  intro k
  have hz : (List.zipWith (eachT op) l bl).length = m := by rw [List.length_zipWith]; omega
  have g1 : l[i]? = some (l.getD i []) := by rw [List.getD_eq_getElem?_getD, List.getElem?_eq_getElem (by omega)]; rfl
  have g2 : bl[i]? = some (bl.getD i []) := by rw [List.getD_eq_getElem?_getD, List.getElem?_eq_getElem (by omega)]; rfl
  have ht : ((List.zipWith (eachT op) l bl).take i).length = i := by rw [List.length_take, hz]; omega
  have ht1 : ((List.zipWith (eachT op) l bl).take (i + 1)).length = i + 1 := by rw [List.length_take, hz]; omega
  by_cases hk : k = i
  · subst hk
    rw [List.getElem?_set_self (by rw [mixT_len hl hb k (by omega)]; exact hi)]
    unfold mixT
    rw [List.getElem?_append_left (by omega), List.getElem?_take_of_lt (by omega), List.getElem?_zipWith, g1, g2]
  · rw [List.getElem?_set_ne (fun e => hk e.symm)]
    unfold mixT
    by_cases h2 : k < i
    · rw [List.getElem?_append_left (by omega), List.getElem?_append_left (by omega), List.getElem?_take_of_lt (by omega), List.getElem?_take_of_lt (by omega)]
    · rw [List.getElem?_append_right (by omega), List.getElem?_append_right (by omega), ht, ht1, List.getElem?_drop, List.getElem?_drop]
      congr 1; omega
theorem strs_setE (l : List (List UInt8)) (k : Nat) (x : List UInt8) : (strs l).set k (.string ⟨List.toArray x⟩) = strs (l.set k x) := by
  unfold strs; rw [List.map_set]
theorem strs_atE {l : List (List UInt8)} {k : Nat} (h : k < l.length) : (strs l)[k]? = some (.string ⟨List.toArray (l.getD k [])⟩) := by
  simp [strs, List.getD_eq_getElem?_getD, h]
theorem rds_ownE {W : World} {B m dv : Nat} {qv : Option Addr} {l : List (List UInt8)} (hl : l.length = m) (h : W.ownsRow B 9 1 (.slice qv m dv) m (strs l)) : RdS W qv l := by
  obtain ⟨-, ⟨e, e2⟩ | ⟨g, cap, cur, e, hg, hh, -⟩⟩ := id h
  · exact .inl (by rw [hl]; exact e2)
  · injection e with e _ e3
    subst e
    refine .inr ⟨g, 0, rfl, (Array.getElem?_eq_some_iff.1 hh).1, fun j hj => ?_⟩
    rw [Nat.zero_add, h.cellAt j (by omega)]
    exact strs_atE hj
structure EachI (W7 : World) (B m : Nat) (qv : Option Addr) (dv : Nat) (L : List (List UInt8)) (W : World) : Prop where
  so : W.os = W7.os
  st : W.tape = W7.tape
  sp : W.output = W7.output
  size : W7.heap.size ≤ W.heap.size
  blk : ∀ k, k < W7.heap.size → (Value.slice qv m dv).ownBlock ≠ some k → W.heap[k]? = W7.heap[k]?
  vals : W.ownsRow B 9 1 (.slice qv m dv) m (strs L)
theorem EachI.next {W7 W W' : World} {B m : Nat} {qv : Option Addr} {dv : Nat} {L : List (List UInt8)} (h : EachI W7 B m qv dv L W) (hb : Below W.heap.size W W') : EachI W7 B m qv dv L W' :=
  ⟨hb.os.trans h.so, hb.tape.trans h.st, hb.output.trans h.sp, Nat.le_trans h.size hb.size, fun k hk hn => (hb.block k (Nat.lt_of_lt_of_le hk h.size)).trans (h.blk k hk hn), h.vals.kept (gb_of_below hb none) (by cases qv <;> simp [Value.ownBlock])⟩
theorem EachI.put {W7 W : World} {B m V dv : Nat} {L : List (List UInt8)} (h : EachI W7 B m (some ⟨V, 0, none⟩) dv L W) (i : Nat) (x : List UInt8) : EachI W7 B m (some ⟨V, 0, none⟩) dv (L.set i x) (W.setCell ⟨V, i, none⟩ (.string ⟨List.toArray x⟩)) := by
  have hst := h.vals.stored i (.string ⟨List.toArray x⟩)
  rw [strs_setE] at hst
  exact ⟨hst.2.os.trans h.so, hst.2.tape.trans h.st, hst.2.output.trans h.sp, Nat.le_trans h.size hst.2.size, fun k hk hn => (hst.2.block k (Nat.lt_of_lt_of_le hk h.size) (by intro e; injection e with e; exact hn (by rw [e]; rfl))).trans (h.blk k hk hn), hst.1⟩
theorem each_yes (p q p2 q2 : Option Addr) (c d c2 d2 n m n2 m2 : Nat) (s t : List Int) (l bl : List (List UInt8)) (op : Int) (w : World) (he : Env w) (hs : Hid (s.length = n)) (hl : Hid (l.length = m)) (hm : m ≤ 5000) (ht : Hid (t.length = n2)) (hbl : Hid (bl.length = m2)) (hm2 : m2 ≤ 5000) (hp : Rd w p s) (hq : RdS w q l) (hp2 : Rd w p2 t) (hq2 : RdS w q2 bl) (hv2 : validA s l = true) (hw2 : validA t bl = true) (ho1 : 1 ≤ op) (ho2 : op ≤ 10) (hst : s = t) : Calls Tryz.prog 41 #[.agg #[.slice p n c, .slice q m d], .agg #[.slice p2 n2 c2, .slice q2 m2 d2], .int .i64 op] w (ArrPost w 0 (s.map Int.toNat) (List.zipWith (eachT op) l bl)) := by
  have HP := Lib.hid hp
  have HQ := Lib.hid hq
  have HP2 := Lib.hid hp2
  have HQ2 := Lib.hid hq2
  have HE := Lib.hid he
  obtain ⟨A, HA⟩ : ∃ A, Hid (A = w.heap.size) := ⟨_, Lib.hid rfl⟩
  obtain ⟨W0, HW0⟩ : ∃ W0, Hid (((w.alloc (.cells #[.slice p n c, .slice q m d] 25)).alloc (.cells #[.slice p2 n2 c2, .slice q2 m2 d2] 25)).alloc (.cells #[.slice none 0 0, .slice none 0 0] 25) = W0) := ⟨_, Lib.hid rfl⟩
  have HB0 : Hid (Below w.heap.size w W0) := Lib.hid (by rw [← HW0.out]; exact (((Below.refl _ w).alloc (Nat.le_refl _) _).alloc (by simp) _).alloc (by simp; omega) _)
  have HRB : Hid (w.heap.size ≤ A + 1 + 1) := Lib.hid (by rw [HA.out]; omega)
  have HS0 : Hid (W0.heap.size = A + 1 + 1 + 1) := Lib.hid (by rw [← HW0.out, HA.out]; simp)
  have HA0 : Hid (W0.heap[A]? = some (.cells #[.slice p n c, .slice q m d] 25 (0, 0))) := Lib.hid (by
    rw [← HW0.out, HA.out]; simp only [World.alloc, Array.getElem?_push, Array.size_push]
    repeat' (first | rw [if_pos (by omega)] | rw [if_neg (by omega)] | rfl))
  have HA1 : Hid (W0.heap[A + 1]? = some (.cells #[.slice p2 n2 c2, .slice q2 m2 d2] 25 (0, 0))) := Lib.hid (by
    rw [← HW0.out, HA.out]; simp only [World.alloc, Array.getElem?_push, Array.size_push]
    repeat' (first | rw [if_pos (by omega)] | rw [if_neg (by omega)] | rfl))
  have HA2 : Hid (W0.heap[A + 1 + 1]? = some (.cells #[.slice none 0 0, .slice none 0 0] 25 (0, 0))) := Lib.hid (by
    rw [← HW0.out, HA.out]; simp only [World.alloc, Array.getElem?_push, Array.size_push]
    repeat' (first | rw [if_pos (by omega)] | rw [if_neg (by omega)] | rfl))
  have HBX : Hid (∀ W, Below W0.heap.size W0 W → Below w.heap.size w W ∧ W.heap[A]? = some (.cells #[.slice p n c, .slice q m d] 25 (0, 0)) ∧ W.heap[A + 1]? = some (.cells #[.slice p2 n2 c2, .slice q2 m2 d2] 25 (0, 0)) ∧ W.heap[A + 1 + 1]? = some (.cells #[.slice none 0 0, .slice none 0 0] 25 (0, 0))) := Lib.hid (fun W hW =>
    ⟨HB0.out.trans (hW.mono HB0.out.size), (hW.block A (by rw [HS0.out]; omega)).trans HA0.out, (hW.block (A + 1) (by rw [HS0.out]; omega)).trans HA1.out, (hW.block (A + 1 + 1) (by rw [HS0.out]; omega)).trans HA2.out⟩)
  have HVA : Hid (Calls Tryz.prog 21 #[.agg #[.slice p n c, .slice q m d]] W0 fun e w' => Below W0.heap.size W0 w' ∧ e = .returned (.bool (validA s l))) := Lib.hid (valid_any p q c d n m s l W0 (HE.out.below HB0.out) hs hl hm (HP.out.below HB0.out) (HQ.out.below HB0.out))
  have HVB : Hid (∀ W, Below W0.heap.size W0 W → Calls Tryz.prog 21 #[.agg #[.slice p2 n2 c2, .slice q2 m2 d2]] W fun e w' => Below W.heap.size W w' ∧ e = .returned (.bool (validA t bl))) := Lib.hid (fun W hW => valid_any p2 q2 c2 d2 n2 m2 t bl W (HE.out.below (HBX.out W hW).1) ht hbl hm2 (HP2.out.below (HBX.out W hW).1) (HQ2.out.below (HBX.out W hW).1))
  clear hp hq hp2 hq2 he
  rw [hv2] at HVA
  rw [hw2] at HVB
  have hvs : vs s = true := by unfold validA at hv2; rw [Bool.and_eq_true] at hv2; exact hv2.1
  obtain ⟨s0, e0, hsh⟩ := vs_yes hvs
  have HMM : Hid (m = m2) := Lib.hid (by
    unfold validA at hv2 hw2
    rw [Bool.and_eq_true, Bool.and_eq_true, decide_eq_true_eq] at hv2 hw2
    rw [← hl.out, ← hbl.out, hv2.2.1, hw2.2.1, hst])
  have hst2 := hst
  subst hst
  have HN2 : Hid (n2 ≤ 1000) := Lib.hid (by
    have := hsh.1
    rw [← ht.out, e0, List.length_map]; omega)
  subst e0
  rw [toNat_map]
  have HSN : Hid (s0.length = n) := Lib.hid (by rw [← hs.out, List.length_map])
  have HN4 : Hid (n ≤ 4) := Lib.hid (by rw [← HSN.out]; exact hsh.1)
  have HSH := Lib.hid hsh
  have HOP : Hid (∀ W, Below W0.heap.size W0 W → Calls Tryz.prog 80 #[.int .i64 op] W (OperPost op W)) := Lib.hid (fun W hW => oper_any op ho1 ho2 W (HE.out.below (HBX.out W hW).1).tab)
  have HEQ : Hid (∀ W, Below W0.heap.size W0 W → Calls Tryz.prog 67 #[.slice p n c, .slice p2 n2 c2] W fun e w' => (∃ k, W.drewN k = w') ∧ e = .returned (.bool true)) := Lib.hid (fun W hW => by
    have := equal_any p p2 c c2 n n2 _ _ W hs ht HN2.out (HP.out.below (HBX.out W hW).1) (HP2.out.below (HBX.out W hW).1)
    rwa [decide_eq_true rfl] at this)
  clear hv2 hw2 ho1 ho2 hst2 hvs hsh
  go_enter Tryz.func41, Tryz.ntmps41
  go_wp2_with fail
  rw [HW0.out, ← HA.out]
  refine (HVA.out).mono ?_
  rintro e w1 ⟨hb1, rfl⟩
  have HB1 := Lib.hid hb1
  clear hb1
  obtain ⟨-, -, x1, -⟩ := HBX.out w1 HB1.out
  have a10 : w1.cell? ⟨A + 1, 0, none⟩ = some (.slice p2 n2 c2) := by simp [World.cell?, x1]
  have a11 : w1.cell? ⟨A + 1, 1, none⟩ = some (.slice q2 m2 d2) := by simp [World.cell?, x1]
  clear x1
  go_wp2_with fail
  refine (HVB.out _ HB1.out).mono ?_
  rintro e w2 ⟨hb2, rfl⟩
  have HB2 := Lib.hid (HB1.out.trans (hb2.mono HB1.out.size))
  clear hb2 a10 a11
  go_wp2_with fail
  refine (HOP.out _ HB2.out).mono ?_
  rintro e w3 ⟨hb3, v, rfl, hv⟩
  have hfn := fn_some
  have HB3 := Lib.hid (HB2.out.trans (hb3.mono HB2.out.size))
  clear hb3
  obtain ⟨-, x0, x1, -⟩ := HBX.out w3 HB3.out
  have a00 : w3.cell? ⟨A, 0, none⟩ = some (.slice p n c) := by simp [World.cell?, x0]
  have a10 : w3.cell? ⟨A + 1, 0, none⟩ = some (.slice p2 n2 c2) := by simp [World.cell?, x1]
  clear x0 x1
  rcases hv with ⟨f, rfl, hent, hf⟩ | ⟨f, g, rfl, hent, hf⟩
  case inl =>
    have HENT := Lib.hid hent
    have HF := Lib.hid hf
    clear hf hent
    
    go_wp2_with fail
    refine (HEQ.out _ HB3.out).mono ?_
    rintro e w4 ⟨⟨k4, rfl⟩, rfl⟩
    have HB4 : Hid (Below W0.heap.size W0 (w3.drewN k4)) := Lib.hid (HB3.out.trans ⟨rfl, rfl, rfl, Nat.le_refl _, fun _ _ => rfl⟩)
    have HF4 : Hid (∀ W', Below (w3.drewN k4).heap.size (w3.drewN k4) W' → ∀ x y, Calls Tryz.prog f #[.string ⟨List.toArray x⟩, .string ⟨List.toArray y⟩] W' (TxtPost (eachT op x y) W')) := Lib.hid (fun W' hW x y => HF.out W' ((⟨rfl, rfl, rfl, Nat.le_refl _, fun _ _ => rfl⟩ : Below w3.heap.size w3 (w3.drewN k4)).trans hW) x y)
    obtain ⟨w5, HW5⟩ : ∃ w5, Hid (w3.drewN k4 = w5) := ⟨_, Lib.hid rfl⟩
    rw [HW5.out] at HF4 HB4 ⊢
    clear a00 a10 HW5 HF
    obtain ⟨hbw, x0, x1, y1⟩ := HBX.out w5 HB4.out
    have HX5 := Lib.hid x0
    have HX51 := Lib.hid x1
    have HY5 := Lib.hid y1
    have HBk := Lib.hid hbw
    have a00 : w5.cell? ⟨A, 0, none⟩ = some (.slice p n c) := by simp [World.cell?, x0]
    have a01 : w5.cell? ⟨A, 1, none⟩ = some (.slice q m d) := by simp [World.cell?, x0]
    have HA5 : Hid (A + 1 + 1 + 1 ≤ w5.heap.size) := Lib.hid (by rw [← HS0.out]; exact HB4.out.size)
    have H68 := Lib.hid (pcopied_any p q c d n m s0 l w5 HSN.out HN4.out (Lib.hid HSH.out.2.1) hl hm (HP.out.below hbw) (HQ.out.below hbw))
    clear hbw x0 x1 y1
    go_wp2_with fail
    refine (H68.out).mono ?_
    rintro e w6 ⟨hb6, qs, ds, qv, dv, rfl, hqs, hqsb, hqsv, hown⟩
    obtain ⟨G, HG⟩ : ∃ G, Hid (G = w6.heap.size) := ⟨_, Lib.hid rfl⟩
    obtain ⟨W7, HW7⟩ : ∃ W7, Hid (w6.alloc (.cells #[.slice qs n ds, .slice qv m dv] 25) = W7) := ⟨_, Lib.hid rfl⟩
    have hb67 : Below w6.heap.size w6 W7 := by rw [← HW7.out]; exact (Below.refl _ _).alloc (Nat.le_refl _) _
    have HB57 : Hid (Below w5.heap.size w5 W7) := Lib.hid (hb6.trans (hb67.mono hb6.size))
    have HG7 : Hid (W7.heap[G]? = some (.cells #[.slice qs n ds, .slice qv m dv] 25 (0, 0))) := Lib.hid (by rw [← HW7.out, HG.out]; exact World.alloc_heap_new _ _)
    have HS7 : Hid (W7.heap.size = G + 1) := Lib.hid (by rw [← HW7.out, HG.out]; simp)
    have H56 : Hid (w5.heap.size ≤ G) := Lib.hid (by rw [HG.out]; exact hb6.size)
    have HQS : Hid (RdN W7 qs s0) := Lib.hid (hqs.below hb67)
    have HQSB : Hid (∀ b off, qs = some ⟨b, off, none⟩ → 0 < s0.length → w5.heap.size ≤ b ∧ b < G) := Lib.hid (fun b off e h0 => by
      refine ⟨hqsb b off e, ?_⟩
      obtain ⟨b', off', x, e', hb', -⟩ := hqs.at h0
      rw [e] at e'; cases e'; rw [HG.out]; exact hb')
    have HST7 : Hid (EachI W7 w5.heap.size m qv dv (mixT op l bl 0) W7) := Lib.hid (by
      rw [mixT_zero]
      exact ⟨rfl, rfl, rfl, Nat.le_refl _, fun _ _ _ => rfl, hown.kept (gb_of_below hb67 none) (by cases qv <;> simp [Value.ownBlock])⟩)
    have HVB7 : Hid (∀ b, (Value.slice qv m dv).ownBlock = some b → w5.heap.size ≤ b ∧ b < G) := Lib.hid (fun b e => by
      obtain ⟨h1, h2⟩ := hown.lt b e
      exact ⟨h1, by rw [HG.out]; exact h2⟩)
    have HQSV := Lib.hid hqsv
    have HOLD : Hid (∀ L W, EachI W7 w5.heap.size m qv dv L W → W.heap[A]? = some (.cells #[.slice p n c, .slice q m d] 25 (0, 0)) ∧ W.heap[A + 1]? = some (.cells #[.slice p2 n2 c2, .slice q2 m2 d2] 25 (0, 0)) ∧ W.heap[A + 1 + 1]? = some (.cells #[.slice none 0 0, .slice none 0 0] 25 (0, 0)) ∧ W.heap[G]? = some (.cells #[.slice qs n ds, .slice qv m dv] 25 (0, 0)) ∧ Below w5.heap.size w5 W) := Lib.hid (fun L W h => by
      have h5 := HA5.out
      have h6 := H56.out
      have h7 := HS7.out
      have hne : ∀ b, b < w5.heap.size ∨ b = G → (Value.slice qv m dv).ownBlock ≠ some b := fun b hb e => by
        have := HVB7.out b e
        omega
      have hblk : ∀ b, b < w5.heap.size → W.heap[b]? = w5.heap[b]? := fun b hb => (h.blk b (by omega) (hne b (.inl hb))).trans (HB57.out.block b hb)
      exact ⟨(hblk A (by omega)).trans HX5.out, (hblk (A + 1) (by omega)).trans HX51.out, (hblk (A + 1 + 1) (by omega)).trans HY5.out, (h.blk G (by omega) (hne G (.inr rfl))).trans HG7.out, ⟨h.so.trans HB57.out.os, h.st.trans HB57.out.tape, h.sp.trans HB57.out.output, Nat.le_trans HB57.out.size h.size, hblk⟩⟩)
    clear hb6 hqs hqsb hqsv hown hb67 a00 a01
    have b11 : (w6.alloc (.cells #[.slice qs n ds, .slice qv m dv] 25)).cell? ⟨A + 1, 1, none⟩ = some (.slice q2 m2 d2) := by rw [HW7.out]; have h := (HOLD.out _ _ HST7.out).2.1; simp [World.cell?, h]
    go_wp2_with fail
    rw [HW7.out, ← HG.out]
    clear b11
    go_loopw [38] (fun iv wr => ∃ i : Nat, i ≤ m2 ∧ iv = .int .i64 (i : Int) ∧ Hid (EachI W7 w5.heap.size m qv dv (mixT op l bl i) wr)) (fun iv _ => m2 - (intOf iv).toNat)
    case atStart => exact ⟨0, Nat.zero_le _, rfl, HST7⟩
    case round =>
      obtain ⟨i, hi, rfl, hin⟩ := hrel
      clear HST7
      have HIN := Lib.hid hin.out
      clear hin
      by_cases hlt : i < m2
      · have hlti : (i : Int) < m2 := by omega
        have hltm : (i : Int) < m := by have := HMM.out; omega
        have hi0 : (0 : Int) ≤ i := by omega
        obtain ⟨V, rfl⟩ : ∃ V, qv = some ⟨V, 0, none⟩ := by
          rcases HIN.out.vals.2 with ⟨-, h0⟩ | ⟨V, cap, cur, e, -⟩
          · have := HMM.out; omega
          · injection e with e; exact ⟨V, e⟩
        obtain ⟨b1, o1, xs, rfl, hb1, hx1, HXS⟩ := (HQ.out.below HBk.out).at (k := i) (by rw [hl.out]; have := HMM.out; omega)
        obtain ⟨b2, o2, ys, rfl, hb2, hy1, HYS⟩ := (HQ2.out.below HBk.out).at (k := i) (by rw [hbl.out]; omega)
        have HBI : Hid (V < G ∧ w5.heap.size ≤ V) := Lib.hid ⟨(HVB7.out V rfl).2, (HVB7.out V rfl).1⟩
        have HCELL : Hid (∀ L W, EachI W7 w5.heap.size m (some ⟨V, 0, none⟩) dv L W → W.cell? ⟨G, 1, none⟩ = some (.slice (some ⟨V, 0, none⟩) m dv) ∧ W.cell? ⟨A, 1, none⟩ = some (.slice (some ⟨b1, o1, none⟩) m d) ∧ W.cell? ⟨b1, o1 + i, none⟩ = some (.string ⟨List.toArray xs⟩) ∧ W.cell? ⟨b2, o2 + i, none⟩ = some (.string ⟨List.toArray ys⟩)) := Lib.hid (fun L W h => by
          obtain ⟨h1, -, -, h4, h5⟩ := HOLD.out L W h
          exact ⟨by simp [World.cell?, h4], by simp [World.cell?, h1], (h5.cell (p := ⟨b1, o1 + i, none⟩) hb1).trans hx1, (h5.cell (p := ⟨b2, o2 + i, none⟩) hb2).trans hy1⟩)
        have HOWN : Hid (∀ L W, EachI W7 w5.heap.size m (some ⟨V, 0, none⟩) dv L W → L.length = m → (∃ z, W.cell? ⟨V, i, none⟩ = some z) ∧ W.frozen? ⟨V, i, none⟩ = false) := Lib.hid (fun L W h hL => ⟨⟨_, by rw [h.vals.cellAt i (by have := HMM.out; omega)]; exact strs_atE (by have := HMM.out; omega)⟩, h.vals.frozenAt i⟩)
        have HLEN : Hid ((mixT op l bl i).length = m) := Lib.hid (mixT_len hl.out (by rw [hbl.out, HMM.out]) i (by have := HMM.out; omega))
        have HSTEP : Hid ((mixT op l bl i).set i (eachT op xs ys) = mixT op l bl (i + 1)) := Lib.hid (by
          rw [HXS.out, HYS.out]
          exact mixT_step hl.out (by rw [hbl.out, HMM.out]) (by have := HMM.out; omega))
        obtain ⟨tx, HTX⟩ : ∃ tx, Hid (eachT op xs ys = tx) := ⟨_, Lib.hid rfl⟩
        rw [HTX.out] at HSTEP
        have HCALL : Hid (∀ W, Below wr.heap.size wr W → Calls Tryz.prog f #[.string ⟨List.toArray xs⟩, .string ⟨List.toArray ys⟩] W (TxtPost tx W)) := Lib.hid (fun W hW => by
          have h5 := (HOLD.out _ _ HIN.out).2.2.2.2
          rw [← HTX.out]
          exact HF4.out W (h5.trans (hW.mono h5.size)) xs ys)
        have HSK : Hid (∀ W, Below wr.heap.size wr W → W.cell? ⟨G, 1, none⟩ = some (.slice (some ⟨V, 0, none⟩) m dv) ∧ W.cell? ⟨A, 1, none⟩ = some (.slice (some ⟨b1, o1, none⟩) m d) ∧ W.cell? ⟨b1, o1 + i, none⟩ = some (.string ⟨List.toArray xs⟩)) := Lib.hid (fun W hW => by
          obtain ⟨h1, h2, h3, -⟩ := HCELL.out _ _ (HIN.out.next hW)
          exact ⟨h1, h2, h3⟩)
        have HSP : Hid (∀ W, Below wr.heap.size wr W → (W.setCell ⟨V, i, none⟩ (.string ⟨List.toArray tx⟩)).cell? ⟨G, 1, none⟩ = some (.slice (some ⟨V, 0, none⟩) m dv) ∧ (W.setCell ⟨V, i, none⟩ (.string ⟨List.toArray tx⟩)).cell? ⟨A, 1, none⟩ = some (.slice (some ⟨b1, o1, none⟩) m d) ∧ (W.setCell ⟨V, i, none⟩ (.string ⟨List.toArray tx⟩)).cell? ⟨b1, o1 + i, none⟩ = some (.string ⟨List.toArray xs⟩)) := Lib.hid (fun W hW => by
          obtain ⟨h1, h2, h3, -⟩ := HCELL.out _ _ ((HIN.out.next hW).put i tx)
          exact ⟨h1, h2, h3⟩)
        have HNX : Hid (∀ W, Below wr.heap.size wr W → EachI W7 w5.heap.size m (some ⟨V, 0, none⟩) dv (mixT op l bl (i + 1)) (W.setCell ⟨V, i, none⟩ (.string ⟨List.toArray tx⟩))) := Lib.hid (fun W hW => by
          rw [← HSTEP.out]
          exact (HIN.out.next hW).put i tx)
        have hb2c : wr.cell? ⟨b2, o2 + i, none⟩ = some (.string ⟨List.toArray ys⟩) := (HCELL.out _ _ HIN.out).2.2.2
        have hent := HENT.out
        have hi1 : Hid (i + 1 ≤ m2) := Lib.hid hlt
        have HOW2 : Hid (∀ W, Below wr.heap.size wr W → (∃ z, W.cell? ⟨V, i, none⟩ = some z) ∧ W.frozen? ⟨V, i, none⟩ = false) := Lib.hid (fun W hW => HOWN.out _ _ (HIN.out.next hW) HLEN.out)
        clear hb1 hx1 hb2 hy1 hlt hi
        go_wp2_with fail
        clear hb2c
        go_region_held3 (fun W => W.cell? ⟨G, 1, none⟩ = some (.slice (some ⟨V, 0, none⟩) m dv) ∧ W.cell? ⟨A, 1, none⟩ = some (.slice (some ⟨b1, o1, none⟩) m d) ∧ W.cell? ⟨b1, o1 + i, none⟩ = some (.string ⟨List.toArray xs⟩))
          (first | exact HSK.out _ (Below.refl _ _) | exact HSK.out _ (Below.refl _ _).drew | exact HSK.out _ hA.out | exact HSP.out _ hA.out)
          ((refine (HCALL.out _ (Below.refl _ _).drew).mono ?_; rintro e wA ⟨rfl, hbA⟩; have hA : Hid (Below wr.heap.size wr wA) := Lib.hid ((Below.refl _ _).drew.trans (hbA.mono (Nat.le_refl _))); clear hbA; obtain ⟨⟨z9, hz9⟩, hf9⟩ := HOW2.out _ hA.out))
        go_wp2_with fail
        go_roundw
        case rel => exact ⟨i + 1, hi1.out, by go_num, Lib.hid (HNX.out _ hA.out)⟩
        case measure => (simp [intOf]) <;> omega
      · obtain rfl : i = m2 := by omega
        obtain ⟨-, -, y9, g9, hb9⟩ := HOLD.out _ _ HIN.out
        have g0 : wr.cell? ⟨G, 0, none⟩ = some (.slice qs n ds) := by simp [World.cell?, g9]
        have g1 : wr.cell? ⟨G, 1, none⟩ = some (.slice qv m dv) := by simp [World.cell?, g9]
        have r0 : wr.cell? ⟨A + 1 + 1, 0, none⟩ = some (.slice none 0 0) := by simp [World.cell?, y9]
        have r1 : wr.cell? ⟨A + 1 + 1, 1, none⟩ = some (.slice none 0 0) := by simp [World.cell?, y9]
        have z0 : wr.frozen? ⟨A + 1 + 1, 0, none⟩ = false := by simp [World.frozen?, y9]
        have z1 : wr.frozen? ⟨A + 1 + 1, 1, none⟩ = false := by simp [World.frozen?, y9]
        have hE1 := heap_set wr (A + 1 + 1) 0 (.slice qs n ds) _ _ y9
        have hE2 := heap_set _ (A + 1 + 1) 1 (.slice qv m dv) _ _ hE1
        obtain ⟨W9, hW9⟩ : ∃ W9, (wr.setCell ⟨A + 1 + 1, 0, none⟩ (.slice qs n ds)).setCell ⟨A + 1 + 1, 1, none⟩ (.slice qv m dv) = W9 := ⟨_, rfl⟩
        rw [hW9] at hE2
        have hg9 : wr.grownBy W9 (some (A + 1 + 1)) := by rw [← hW9]; exact (gb_set _ _ _ _).trans (gb_set _ _ _ _)
        have k0 : W9.cell? ⟨A + 1 + 1, 0, none⟩ = some (.slice qs n ds) := by simp [World.cell?, hE2]
        have k1 : W9.cell? ⟨A + 1 + 1, 1, none⟩ = some (.slice qv m dv) := by simp [World.cell?, hE2]
        have HFIN : Hid (ArrPost w 0 s0 (List.zipWith (eachT op) l bl) (.returned (.tuple #[.agg #[.slice qs n ds, .slice qv m dv], .int .i64 0])) W9) := Lib.hid (by
          have hA5 := HA5.out
          have h56 := H56.out
          have hs7 := HS7.out
          have hLL : (List.zipWith (eachT op) l bl).length = m := by rw [List.length_zipWith, hl.out, hbl.out, HMM.out]; omega
          refine ⟨?_, qs, qv, n, ds, m, dv, rfl, HSN.out, hLL, ?_, ?_⟩
          · have h1 := HBk.out.trans (hb9.mono HBk.out.size)
            rw [← hW9]
            exact (h1.setCell (p := ⟨A + 1 + 1, 0, none⟩) HRB.out _).setCell (p := ⟨A + 1 + 1, 1, none⟩) HRB.out _
          · refine HQS.out.keep (Nat.le_trans HIN.out.size hg9.size) (fun b off e h0 => ?_)
            obtain ⟨h1, h2⟩ := HQSB.out b off e h0
            exact (hg9.block b (by have := HIN.out.size; omega) (by intro e2; injection e2 with e2; omega)).trans (HIN.out.blk b (by omega) (HQSV.out b off e h0))
          · have hv := mixT_all (op := op) hl.out (show bl.length = m by rw [hbl.out, HMM.out])
            have h1 := HIN.out.vals.kept hg9 (by
              rcases Option.eq_none_or_eq_some (Value.slice qv m dv).ownBlock with e | ⟨b, e⟩
              · exact .inl e
              · refine .inr ?_
                rw [e]; intro e2; injection e2 with e2
                have := HVB7.out b e
                omega)
            rw [← HMM.out, hv] at h1
            exact rds_ownE hLL h1)
        clear hE1 hE2 hg9 y9 g9 hb9 hi hlt
        go_wp2_with fail
        (try simp only [Exit.inBlock, Exit.then])
        refine bodyPost_ret (v := .tuple #[.agg #[.slice qs n ds, .slice qv m dv], .int .i64 0]) ?_ rfl HFIN.out
        rw [results_cell_tmp rfl]
        go_simp
  case inr =>
    have HENT := Lib.hid hent
    have HF := Lib.hid hf
    clear hf hent
    
    go_wp2_with fail
    refine (HEQ.out _ HB3.out).mono ?_
    rintro e w4 ⟨⟨k4, rfl⟩, rfl⟩
    have HB4 : Hid (Below W0.heap.size W0 (w3.drewN k4)) := Lib.hid (HB3.out.trans ⟨rfl, rfl, rfl, Nat.le_refl _, fun _ _ => rfl⟩)
    have HF4 : Hid (∀ W', Below (w3.drewN k4).heap.size (w3.drewN k4) W' → ∀ x y, Calls Tryz.prog f #[.string ⟨List.toArray x⟩, .string ⟨List.toArray y⟩, .pointer (some ⟨g, 0, none⟩)] W' (TxtPost (eachT op x y) W')) := Lib.hid (fun W' hW x y => HF.out W' ((⟨rfl, rfl, rfl, Nat.le_refl _, fun _ _ => rfl⟩ : Below w3.heap.size w3 (w3.drewN k4)).trans hW) x y)
    obtain ⟨w5, HW5⟩ : ∃ w5, Hid (w3.drewN k4 = w5) := ⟨_, Lib.hid rfl⟩
    rw [HW5.out] at HF4 HB4 ⊢
    clear a00 a10 HW5 HF
    obtain ⟨hbw, x0, x1, y1⟩ := HBX.out w5 HB4.out
    have HX5 := Lib.hid x0
    have HX51 := Lib.hid x1
    have HY5 := Lib.hid y1
    have HBk := Lib.hid hbw
    have a00 : w5.cell? ⟨A, 0, none⟩ = some (.slice p n c) := by simp [World.cell?, x0]
    have a01 : w5.cell? ⟨A, 1, none⟩ = some (.slice q m d) := by simp [World.cell?, x0]
    have HA5 : Hid (A + 1 + 1 + 1 ≤ w5.heap.size) := Lib.hid (by rw [← HS0.out]; exact HB4.out.size)
    have H68 := Lib.hid (pcopied_any p q c d n m s0 l w5 HSN.out HN4.out (Lib.hid HSH.out.2.1) hl hm (HP.out.below hbw) (HQ.out.below hbw))
    clear hbw x0 x1 y1
    go_wp2_with fail
    refine (H68.out).mono ?_
    rintro e w6 ⟨hb6, qs, ds, qv, dv, rfl, hqs, hqsb, hqsv, hown⟩
    obtain ⟨G, HG⟩ : ∃ G, Hid (G = w6.heap.size) := ⟨_, Lib.hid rfl⟩
    obtain ⟨W7, HW7⟩ : ∃ W7, Hid (w6.alloc (.cells #[.slice qs n ds, .slice qv m dv] 25) = W7) := ⟨_, Lib.hid rfl⟩
    have hb67 : Below w6.heap.size w6 W7 := by rw [← HW7.out]; exact (Below.refl _ _).alloc (Nat.le_refl _) _
    have HB57 : Hid (Below w5.heap.size w5 W7) := Lib.hid (hb6.trans (hb67.mono hb6.size))
    have HG7 : Hid (W7.heap[G]? = some (.cells #[.slice qs n ds, .slice qv m dv] 25 (0, 0))) := Lib.hid (by rw [← HW7.out, HG.out]; exact World.alloc_heap_new _ _)
    have HS7 : Hid (W7.heap.size = G + 1) := Lib.hid (by rw [← HW7.out, HG.out]; simp)
    have H56 : Hid (w5.heap.size ≤ G) := Lib.hid (by rw [HG.out]; exact hb6.size)
    have HQS : Hid (RdN W7 qs s0) := Lib.hid (hqs.below hb67)
    have HQSB : Hid (∀ b off, qs = some ⟨b, off, none⟩ → 0 < s0.length → w5.heap.size ≤ b ∧ b < G) := Lib.hid (fun b off e h0 => by
      refine ⟨hqsb b off e, ?_⟩
      obtain ⟨b', off', x, e', hb', -⟩ := hqs.at h0
      rw [e] at e'; cases e'; rw [HG.out]; exact hb')
    have HST7 : Hid (EachI W7 w5.heap.size m qv dv (mixT op l bl 0) W7) := Lib.hid (by
      rw [mixT_zero]
      exact ⟨rfl, rfl, rfl, Nat.le_refl _, fun _ _ _ => rfl, hown.kept (gb_of_below hb67 none) (by cases qv <;> simp [Value.ownBlock])⟩)
    have HVB7 : Hid (∀ b, (Value.slice qv m dv).ownBlock = some b → w5.heap.size ≤ b ∧ b < G) := Lib.hid (fun b e => by
      obtain ⟨h1, h2⟩ := hown.lt b e
      exact ⟨h1, by rw [HG.out]; exact h2⟩)
    have HQSV := Lib.hid hqsv
    have HOLD : Hid (∀ L W, EachI W7 w5.heap.size m qv dv L W → W.heap[A]? = some (.cells #[.slice p n c, .slice q m d] 25 (0, 0)) ∧ W.heap[A + 1]? = some (.cells #[.slice p2 n2 c2, .slice q2 m2 d2] 25 (0, 0)) ∧ W.heap[A + 1 + 1]? = some (.cells #[.slice none 0 0, .slice none 0 0] 25 (0, 0)) ∧ W.heap[G]? = some (.cells #[.slice qs n ds, .slice qv m dv] 25 (0, 0)) ∧ Below w5.heap.size w5 W) := Lib.hid (fun L W h => by
      have h5 := HA5.out
      have h6 := H56.out
      have h7 := HS7.out
      have hne : ∀ b, b < w5.heap.size ∨ b = G → (Value.slice qv m dv).ownBlock ≠ some b := fun b hb e => by
        have := HVB7.out b e
        omega
      have hblk : ∀ b, b < w5.heap.size → W.heap[b]? = w5.heap[b]? := fun b hb => (h.blk b (by omega) (hne b (.inl hb))).trans (HB57.out.block b hb)
      exact ⟨(hblk A (by omega)).trans HX5.out, (hblk (A + 1) (by omega)).trans HX51.out, (hblk (A + 1 + 1) (by omega)).trans HY5.out, (h.blk G (by omega) (hne G (.inr rfl))).trans HG7.out, ⟨h.so.trans HB57.out.os, h.st.trans HB57.out.tape, h.sp.trans HB57.out.output, Nat.le_trans HB57.out.size h.size, hblk⟩⟩)
    clear hb6 hqs hqsb hqsv hown hb67 a00 a01
    have b11 : (w6.alloc (.cells #[.slice qs n ds, .slice qv m dv] 25)).cell? ⟨A + 1, 1, none⟩ = some (.slice q2 m2 d2) := by rw [HW7.out]; have h := (HOLD.out _ _ HST7.out).2.1; simp [World.cell?, h]
    go_wp2_with fail
    rw [HW7.out, ← HG.out]
    clear b11
    go_loopw [38] (fun iv wr => ∃ i : Nat, i ≤ m2 ∧ iv = .int .i64 (i : Int) ∧ Hid (EachI W7 w5.heap.size m qv dv (mixT op l bl i) wr)) (fun iv _ => m2 - (intOf iv).toNat)
    case atStart => exact ⟨0, Nat.zero_le _, rfl, HST7⟩
    case round =>
      obtain ⟨i, hi, rfl, hin⟩ := hrel
      clear HST7
      have HIN := Lib.hid hin.out
      clear hin
      by_cases hlt : i < m2
      · have hlti : (i : Int) < m2 := by omega
        have hltm : (i : Int) < m := by have := HMM.out; omega
        have hi0 : (0 : Int) ≤ i := by omega
        obtain ⟨V, rfl⟩ : ∃ V, qv = some ⟨V, 0, none⟩ := by
          rcases HIN.out.vals.2 with ⟨-, h0⟩ | ⟨V, cap, cur, e, -⟩
          · have := HMM.out; omega
          · injection e with e; exact ⟨V, e⟩
        obtain ⟨b1, o1, xs, rfl, hb1, hx1, HXS⟩ := (HQ.out.below HBk.out).at (k := i) (by rw [hl.out]; have := HMM.out; omega)
        obtain ⟨b2, o2, ys, rfl, hb2, hy1, HYS⟩ := (HQ2.out.below HBk.out).at (k := i) (by rw [hbl.out]; omega)
        have HBI : Hid (V < G ∧ w5.heap.size ≤ V) := Lib.hid ⟨(HVB7.out V rfl).2, (HVB7.out V rfl).1⟩
        have HCELL : Hid (∀ L W, EachI W7 w5.heap.size m (some ⟨V, 0, none⟩) dv L W → W.cell? ⟨G, 1, none⟩ = some (.slice (some ⟨V, 0, none⟩) m dv) ∧ W.cell? ⟨A, 1, none⟩ = some (.slice (some ⟨b1, o1, none⟩) m d) ∧ W.cell? ⟨b1, o1 + i, none⟩ = some (.string ⟨List.toArray xs⟩) ∧ W.cell? ⟨b2, o2 + i, none⟩ = some (.string ⟨List.toArray ys⟩)) := Lib.hid (fun L W h => by
          obtain ⟨h1, -, -, h4, h5⟩ := HOLD.out L W h
          exact ⟨by simp [World.cell?, h4], by simp [World.cell?, h1], (h5.cell (p := ⟨b1, o1 + i, none⟩) hb1).trans hx1, (h5.cell (p := ⟨b2, o2 + i, none⟩) hb2).trans hy1⟩)
        have HOWN : Hid (∀ L W, EachI W7 w5.heap.size m (some ⟨V, 0, none⟩) dv L W → L.length = m → (∃ z, W.cell? ⟨V, i, none⟩ = some z) ∧ W.frozen? ⟨V, i, none⟩ = false) := Lib.hid (fun L W h hL => ⟨⟨_, by rw [h.vals.cellAt i (by have := HMM.out; omega)]; exact strs_atE (by have := HMM.out; omega)⟩, h.vals.frozenAt i⟩)
        have HLEN : Hid ((mixT op l bl i).length = m) := Lib.hid (mixT_len hl.out (by rw [hbl.out, HMM.out]) i (by have := HMM.out; omega))
        have HSTEP : Hid ((mixT op l bl i).set i (eachT op xs ys) = mixT op l bl (i + 1)) := Lib.hid (by
          rw [HXS.out, HYS.out]
          exact mixT_step hl.out (by rw [hbl.out, HMM.out]) (by have := HMM.out; omega))
        obtain ⟨tx, HTX⟩ : ∃ tx, Hid (eachT op xs ys = tx) := ⟨_, Lib.hid rfl⟩
        rw [HTX.out] at HSTEP
        have HCALL : Hid (∀ W, Below wr.heap.size wr W → Calls Tryz.prog f #[.string ⟨List.toArray xs⟩, .string ⟨List.toArray ys⟩, .pointer (some ⟨g, 0, none⟩)] W (TxtPost tx W)) := Lib.hid (fun W hW => by
          have h5 := (HOLD.out _ _ HIN.out).2.2.2.2
          rw [← HTX.out]
          exact HF4.out W (h5.trans (hW.mono h5.size)) xs ys)
        have HSK : Hid (∀ W, Below wr.heap.size wr W → W.cell? ⟨G, 1, none⟩ = some (.slice (some ⟨V, 0, none⟩) m dv) ∧ W.cell? ⟨A, 1, none⟩ = some (.slice (some ⟨b1, o1, none⟩) m d) ∧ W.cell? ⟨b1, o1 + i, none⟩ = some (.string ⟨List.toArray xs⟩)) := Lib.hid (fun W hW => by
          obtain ⟨h1, h2, h3, -⟩ := HCELL.out _ _ (HIN.out.next hW)
          exact ⟨h1, h2, h3⟩)
        have HSP : Hid (∀ W, Below wr.heap.size wr W → (W.setCell ⟨V, i, none⟩ (.string ⟨List.toArray tx⟩)).cell? ⟨G, 1, none⟩ = some (.slice (some ⟨V, 0, none⟩) m dv) ∧ (W.setCell ⟨V, i, none⟩ (.string ⟨List.toArray tx⟩)).cell? ⟨A, 1, none⟩ = some (.slice (some ⟨b1, o1, none⟩) m d) ∧ (W.setCell ⟨V, i, none⟩ (.string ⟨List.toArray tx⟩)).cell? ⟨b1, o1 + i, none⟩ = some (.string ⟨List.toArray xs⟩)) := Lib.hid (fun W hW => by
          obtain ⟨h1, h2, h3, -⟩ := HCELL.out _ _ ((HIN.out.next hW).put i tx)
          exact ⟨h1, h2, h3⟩)
        have HNX : Hid (∀ W, Below wr.heap.size wr W → EachI W7 w5.heap.size m (some ⟨V, 0, none⟩) dv (mixT op l bl (i + 1)) (W.setCell ⟨V, i, none⟩ (.string ⟨List.toArray tx⟩))) := Lib.hid (fun W hW => by
          rw [← HSTEP.out]
          exact (HIN.out.next hW).put i tx)
        have hb2c : wr.cell? ⟨b2, o2 + i, none⟩ = some (.string ⟨List.toArray ys⟩) := (HCELL.out _ _ HIN.out).2.2.2
        have hent := HENT.out
        have hi1 : Hid (i + 1 ≤ m2) := Lib.hid hlt
        have HOW2 : Hid (∀ W, Below wr.heap.size wr W → (∃ z, W.cell? ⟨V, i, none⟩ = some z) ∧ W.frozen? ⟨V, i, none⟩ = false) := Lib.hid (fun W hW => HOWN.out _ _ (HIN.out.next hW) HLEN.out)
        clear hb1 hx1 hb2 hy1 hlt hi
        go_wp2_with fail
        clear hb2c
        go_region_held3 (fun W => W.cell? ⟨G, 1, none⟩ = some (.slice (some ⟨V, 0, none⟩) m dv) ∧ W.cell? ⟨A, 1, none⟩ = some (.slice (some ⟨b1, o1, none⟩) m d) ∧ W.cell? ⟨b1, o1 + i, none⟩ = some (.string ⟨List.toArray xs⟩))
          (first | exact HSK.out _ (Below.refl _ _) | exact HSK.out _ (Below.refl _ _).drew | exact HSK.out _ hA.out | exact HSP.out _ hA.out)
          ((refine (HCALL.out _ (Below.refl _ _).drew).mono ?_; rintro e wA ⟨rfl, hbA⟩; have hA : Hid (Below wr.heap.size wr wA) := Lib.hid ((Below.refl _ _).drew.trans (hbA.mono (Nat.le_refl _))); clear hbA; obtain ⟨⟨z9, hz9⟩, hf9⟩ := HOW2.out _ hA.out))
        go_wp2_with fail
        go_roundw
        case rel => exact ⟨i + 1, hi1.out, by go_num, Lib.hid (HNX.out _ hA.out)⟩
        case measure => (simp [intOf]) <;> omega
      · obtain rfl : i = m2 := by omega
        obtain ⟨-, -, y9, g9, hb9⟩ := HOLD.out _ _ HIN.out
        have g0 : wr.cell? ⟨G, 0, none⟩ = some (.slice qs n ds) := by simp [World.cell?, g9]
        have g1 : wr.cell? ⟨G, 1, none⟩ = some (.slice qv m dv) := by simp [World.cell?, g9]
        have r0 : wr.cell? ⟨A + 1 + 1, 0, none⟩ = some (.slice none 0 0) := by simp [World.cell?, y9]
        have r1 : wr.cell? ⟨A + 1 + 1, 1, none⟩ = some (.slice none 0 0) := by simp [World.cell?, y9]
        have z0 : wr.frozen? ⟨A + 1 + 1, 0, none⟩ = false := by simp [World.frozen?, y9]
        have z1 : wr.frozen? ⟨A + 1 + 1, 1, none⟩ = false := by simp [World.frozen?, y9]
        have hE1 := heap_set wr (A + 1 + 1) 0 (.slice qs n ds) _ _ y9
        have hE2 := heap_set _ (A + 1 + 1) 1 (.slice qv m dv) _ _ hE1
        obtain ⟨W9, hW9⟩ : ∃ W9, (wr.setCell ⟨A + 1 + 1, 0, none⟩ (.slice qs n ds)).setCell ⟨A + 1 + 1, 1, none⟩ (.slice qv m dv) = W9 := ⟨_, rfl⟩
        rw [hW9] at hE2
        have hg9 : wr.grownBy W9 (some (A + 1 + 1)) := by rw [← hW9]; exact (gb_set _ _ _ _).trans (gb_set _ _ _ _)
        have k0 : W9.cell? ⟨A + 1 + 1, 0, none⟩ = some (.slice qs n ds) := by simp [World.cell?, hE2]
        have k1 : W9.cell? ⟨A + 1 + 1, 1, none⟩ = some (.slice qv m dv) := by simp [World.cell?, hE2]
        have HFIN : Hid (ArrPost w 0 s0 (List.zipWith (eachT op) l bl) (.returned (.tuple #[.agg #[.slice qs n ds, .slice qv m dv], .int .i64 0])) W9) := Lib.hid (by
          have hA5 := HA5.out
          have h56 := H56.out
          have hs7 := HS7.out
          have hLL : (List.zipWith (eachT op) l bl).length = m := by rw [List.length_zipWith, hl.out, hbl.out, HMM.out]; omega
          refine ⟨?_, qs, qv, n, ds, m, dv, rfl, HSN.out, hLL, ?_, ?_⟩
          · have h1 := HBk.out.trans (hb9.mono HBk.out.size)
            rw [← hW9]
            exact (h1.setCell (p := ⟨A + 1 + 1, 0, none⟩) HRB.out _).setCell (p := ⟨A + 1 + 1, 1, none⟩) HRB.out _
          · refine HQS.out.keep (Nat.le_trans HIN.out.size hg9.size) (fun b off e h0 => ?_)
            obtain ⟨h1, h2⟩ := HQSB.out b off e h0
            exact (hg9.block b (by have := HIN.out.size; omega) (by intro e2; injection e2 with e2; omega)).trans (HIN.out.blk b (by omega) (HQSV.out b off e h0))
          · have hv := mixT_all (op := op) hl.out (show bl.length = m by rw [hbl.out, HMM.out])
            have h1 := HIN.out.vals.kept hg9 (by
              rcases Option.eq_none_or_eq_some (Value.slice qv m dv).ownBlock with e | ⟨b, e⟩
              · exact .inl e
              · refine .inr ?_
                rw [e]; intro e2; injection e2 with e2
                have := HVB7.out b e
                omega)
            rw [← HMM.out, hv] at h1
            exact rds_ownE hLL h1)
        clear hE1 hE2 hg9 y9 g9 hb9 hi hlt
        go_wp2_with fail
        (try simp only [Exit.inBlock, Exit.then])
        refine bodyPost_ret (v := .tuple #[.agg #[.slice qs n ds, .slice qv m dv], .int .i64 0]) ?_ rfl HFIN.out
        rw [results_cell_tmp rfl]
        go_simp
end Go.Proofs.YtigidchicloleaaGreatDoor.Arr
