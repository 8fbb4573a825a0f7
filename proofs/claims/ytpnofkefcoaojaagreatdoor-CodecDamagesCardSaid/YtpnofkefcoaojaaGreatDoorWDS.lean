/- The program's Shuffle: up to its loop. -/
import Derived.Test.YtpnofkefcoaojaaGreatDoorKC
import Derived.Test.YtpnofkefcoaojaaGreatDoorWDK
import Derived.Test.YtpnofkefcoaojaaGreatDoorWMG
import Derived.Test.YtpnofkefcoaojaaGreatDoorYA
import Derived.BigRegion
set_option maxHeartbeats 2000000
set_option maxRecDepth 100000
namespace Go.Proofs.YtpnofkefcoaojaaGreatDoor
open Go.RowKit Go.Shelf
open Go.Lib
attribute [local go_sem] Oper.semAt_some
theorem shuffle_ok (p : Option Addr) (c n : Nat) (l : List UInt8) (w : World) (h1 : 1 ≤ n) (h2 : n ≤ 8) (hl : l.length ≤ 20000) (hb : Bs w p l) :
    Calls Tryz.prog 99 #[.slice p l.length c, .int .i64 (n : Int)] w (RowPost (shufL l n) w) := by
  have HA : ∀ W, Calls Tryz.prog 147 #[.slice p l.length c, .int .i64 (n : Int)] W fun e w' => e = .returned (.int .i64 0) ∧ W = w' := fun W => check_ok p l.length c n W h1 h2 hl
  obtain ⟨len, HL⟩ : ∃ len, Hid (len = l.length) := ⟨_, rfl⟩
  have Hb := Lib.hid hb
  rw [← HL.out] at hl HA ⊢
  have HAh := Lib.hid HA
  clear hb HA
  refine (callsIn_wide (n := 9)).1 ?_
  refine callsIn_of_wp_marks Tryz.func99 rfl trivial ?_ rfl
  simp only [Tryz.ntmps99, List.size_toArray, List.length_cons, List.length_nil, Nat.reduceAdd, Nat.reduceSub, Array.replicate_succ, Array.replicate_zero, List.push_toArray, List.append_toArray, List.nil_append, List.cons_append]
  gi_wp2_with (first | (refine ⟨trivial, ?_⟩; gi_at_call 147; refine (callsIn_wide.2 (HAh.out _)).mono ?_; rintro e w' ⟨rfl, rfl⟩) | (gi_at_make; refine wpListIn_make_bytes _ rfl _ _ rfl _ _ len rfl rfl hl ?_))
  intro w2 hrow hgr
  have hb2 : w2.heap[w.heap.size]? = some (.cells #[.slice p len c] 39 (0, 0)) := (hgr.block w.heap.size (by simp) (by simp)).trans (World.alloc_heap_new w _)
  have gb : w2.cell? ⟨w.heap.size, 0, none⟩ = some (.slice p len c) := by simp [World.cell?, hb2]
  have hB2 : Below w.heap.size w w2 := ((Below.refl _ w).alloc (Nat.le_refl _) _).grown hgr (by simp) (fun k e => by cases e)
  have hN : w.heap.size + 1 < w2.heap.size := by
    have h := (Array.getElem?_eq_some_iff.1 hrow).1
    simpa using h
  have gb3 : (w2.alloc (.cells #[.slice (some ⟨w.heap.size + 1, 0, none⟩) len len] 39)).cell? ⟨w.heap.size, 0, none⟩ = some (.slice p len c) := by
    rw [World.cell?_of_block (w := w2) (Below.heap_alloc _ _ _ (by show w.heap.size < w2.heap.size; omega))]; exact gb
  have HR := Lib.hid hrow
  have HB2 := Lib.hid hB2
  have Hb2 := Lib.hid hb2
  clear hrow hb2 hB2 hgr
  gi_wp2_with (refine ⟨trivial, ?_⟩; gi_at_call 148; refine (shuffled_in Fence.wide _ trivial rfl _ _ _).mono ?_; rintro e w' ⟨rfl, rfl⟩)
  obtain ⟨W0, hW0⟩ : ∃ W0, ((w2.alloc (.cells #[.slice (some ⟨w.heap.size + 1, 0, none⟩) len len] 39)).alloc (.cells #[.int .i64 (len : Int)] 3)).alloc (.cells #[.int .i64 (n : Int)] 3) = W0 := ⟨_, rfl⟩
  have hs0 : W0.heap.size = w2.heap.size + 3 := by rw [← hW0]; simp
  have hO : W0.heap[w2.heap.size]? = some (.cells #[.slice (some ⟨w.heap.size + 1, 0, none⟩) len len] 39 (0, 0)) := by
    rw [← hW0]; exact ((Below.heap_alloc _ _ _ (by simp; omega)).trans (Below.heap_alloc _ _ _ (by simp))).trans (World.alloc_heap_new w2 _)
  have hBl : W0.heap[w2.heap.size + 1]? = some (.cells #[.int .i64 (len : Int)] 3 (0, 0)) := by
    rw [← hW0]; refine (Below.heap_alloc _ _ _ (by simp)).trans ?_
    have := World.alloc_heap_new (w2.alloc (.cells #[.slice (some ⟨w.heap.size + 1, 0, none⟩) len len] 39)) (.cells #[.int .i64 (len : Int)] 3); rwa [World.size_alloc] at this
  have hBn : W0.heap[w2.heap.size + 1 + 1]? = some (.cells #[.int .i64 (n : Int)] 3 (0, 0)) := by
    rw [← hW0]; have := World.alloc_heap_new ((w2.alloc (.cells #[.slice (some ⟨w.heap.size + 1, 0, none⟩) len len] 39)).alloc (.cells #[.int .i64 (len : Int)] 3)) (.cells #[.int .i64 (n : Int)] 3); rwa [World.size_alloc, World.size_alloc] at this
  have hB20 : Below w2.heap.size w2 W0 := by rw [← hW0]; exact (((Below.refl _ w2).alloc (Nat.le_refl _) _).alloc (by simp) _).alloc (by simp; omega) _
  have hS : W0.heap[w.heap.size]? = some (.cells #[.slice p len c] 39 (0, 0)) := (hB20.block _ (by omega)).trans Hb2.out
  have hR0 : W0.heap[w.heap.size + 1]? = some (.cells (ubs (List.replicate len 0)).toArray 5 (0, 0)) := (hB20.block _ hN).trans HR.out
  have hBW : Below w.heap.size w W0 := HB2.out.trans (hB20.mono (by omega))
  rw [hW0]
  clear gb gb3
  refine wpIn_rangeFunc_ownF rfl (by omega) (gf := 189) (lb := #[.pointer (some ⟨w2.heap.size + 1, 0, none⟩), .pointer (some ⟨w2.heap.size + 1 + 1, 0, none⟩)]) rfl trivial (enters_of Tryz.func189 (by kernel_rfl) rfl)
    (shuf_stops Fence.wide _ trivial rfl (by omega) (w2.heap.size + 1) (w2.heap.size + 1 + 1) len n h1 h2 hl W0 (by omega) (by omega) (by simp [World.cell?, hBl]) (by simp [World.cell?, hBn])) Two2.trans
    (fun W lo o o' hlo ho hc hw => ⟨World.putObj_heap_other (by omega), World.putObj_heap_other (by omega)⟩) (Below.refl _ _) (fun _ => rfl)
    (fun pre W => W.heap[w.heap.size + 1]? = some (.cells (ubs (fillP l (fun t => t) (fun t => srcP len n t) (pre.map (·.1)))).toArray 5 (0, 0)) ∧ W.heap[w.heap.size]? = some (.cells #[.slice p len c] 39 (0, 0)) ∧
      W.heap[w2.heap.size]? = some (.cells #[.slice (some ⟨w.heap.size + 1, 0, none⟩) len len] 39 (0, 0)) ∧ Below w.heap.size w W)
    (fun _ _ _ => False)
    (OwnFrom.and (ownFrom_block (fun _ => rfl)) (OwnFrom.and (ownFrom_block (fun _ => rfl)) (OwnFrom.and (ownFrom_block (fun _ => rfl)) (ownFrom_below (Nat.le_refl _) (by omega)))))
    (fun _ _ _ _ _ h _ _ => h)
    ⟨(by rw [hR0, HL.out]; rfl), hS, hO, hBW⟩
    (fun x => { tmps := #[.slice p len c, .int .i64 (n : Int), .pointer (some ⟨w.heap.size, 0, none⟩), undef, .slice none 0 0, .int .i64 0, .int .i64 0, .pointer (some ⟨w2.heap.size, 0, none⟩), .int .i64 ((x.1 : Nat) : Int), .int .i64 ((srcP len n x.1 : Nat) : Int), .slice p len c, .int .i64 (n : Int), .int .i64 0, .int .i64 0, .bool false, undef, .slice p len c, .int .i64 (len : Int), .slice (some ⟨w.heap.size + 1, 0, none⟩) len len, .slice p len c, .int .i64 (len : Int), .int .i64 (n : Int), .func (.func 189) #[] #[.pointer (some ⟨w2.heap.size + 1, 0, none⟩), .pointer (some ⟨w2.heap.size + 1 + 1, 0, none⟩)], .int .i64 ((x.1 : Nat) : Int), .int .i64 ((srcP len n x.1 : Nat) : Int), undef, undef, undef, undef, undef, undef, undef, undef], defers := [] }) ?assign ?body ?done ?stop
  case assign =>
    intro lo x W K hK
    gi_wp2
    exact hK
  case body =>
    rintro lo pre x W ⟨hA, hS, hO, hB⟩ _
    obtain ⟨t, ht⟩ := x
    have hfr : srcP len n t < len := srcP_lt (by omega) ht
    obtain ⟨b1, o1, hp1, hb1, hc1⟩ := at_cell (t := srcP len n t) (Hb.out.below hB) (by rw [← HL.out]; exact hfr)
    obtain ⟨y, HY⟩ : ∃ y : UInt8, Hid (y = l.getD (srcP len n t) 0) := ⟨_, rfl⟩
    rw [← HY.out] at hc1
    obtain ⟨fr, HFR⟩ : ∃ fr, Hid (fr = srcP len n t) := ⟨_, rfl⟩
    have e1 : W.cell? ⟨w.heap.size, 0, none⟩ = some (.slice p len c) := by simp [World.cell?, hS]
    have e2 : W.cell? ⟨w2.heap.size, 0, none⟩ = some (.slice (some ⟨w.heap.size + 1, 0, none⟩) len len) := by simp [World.cell?, hO]
    obtain ⟨A, HA⟩ : ∃ A : List UInt8, Hid (A = fillP l (fun t => t) (fun t => srcP len n t) (pre.map (·.1))) := ⟨_, rfl⟩
    have HAl : Hid (A.length = len) := Lib.hid (by rw [HA.out, fillP_length, HL.out])
    rw [← HA.out] at hA
    have e3 : W.cell? ⟨w.heap.size + 1, t, none⟩ = some (.int .u8 (((A.getD t 0).toNat : Nat) : Int)) := by
      simp only [World.cell?, hA]
      have h6 : (ubs A)[t]? = some (.int .u8 (((A.getD t 0).toNat : Nat) : Int)) := by
        rw [ubs, List.getElem?_map, List.getD_eq_getElem?_getD, List.getElem?_eq_getElem (by rw [HAl.out]; exact ht)]; rfl
      simpa using h6
    have e4 : W.frozen? ⟨w.heap.size + 1, t, none⟩ = false := by simp [World.frozen?, hA]
    subst hp1
    rw [← HFR.out] at hfr hc1 ⊢
    have hF : KeepsOthers W (W.setCell ⟨w.heap.size + 1, t, none⟩ (.int .u8 (y.toNat : Int))).drew ∧ Two2 (w2.heap.size + 1) (w2.heap.size + 1 + 1) W (W.setCell ⟨w.heap.size + 1, t, none⟩ (.int .u8 (y.toNat : Int))).drew ∧
        (W.setCell ⟨w.heap.size + 1, t, none⟩ (.int .u8 (y.toNat : Int))).drew.heap[w.heap.size + 1]? = some (.cells (ubs (fillP l (fun t => t) (fun t => srcP len n t) ((pre ++ [(⟨t, ht⟩ : Pl len)]).map (·.1)))).toArray 5 (0, 0)) ∧
        (W.setCell ⟨w.heap.size + 1, t, none⟩ (.int .u8 (y.toNat : Int))).drew.heap[w.heap.size]? = some (.cells #[.slice (some ⟨b1, o1, none⟩) len c] 39 (0, 0)) ∧
        (W.setCell ⟨w.heap.size + 1, t, none⟩ (.int .u8 (y.toNat : Int))).drew.heap[w2.heap.size]? = some (.cells #[.slice (some ⟨w.heap.size + 1, 0, none⟩) len len] 39 (0, 0)) ∧
        Below w.heap.size w (W.setCell ⟨w.heap.size + 1, t, none⟩ (.int .u8 (y.toNat : Int))).drew := by
      refine ⟨keeps_drew (KeepsOthers.setCell _ _ _), ⟨set_other _ (by omega), set_other _ (by omega)⟩, ?_, (set_other _ (by omega)).trans hS, (set_other _ (by omega)).trans hO, (hB.setCell (p := ⟨w.heap.size + 1, t, none⟩) (by simp) _).drew⟩
      rw [List.map_append, List.map_cons, List.map_nil, fillP_snoc, ← HA.out, ← HY.out]; exact set_block hA y
    gi_wp2
    gi_region
    all_goals (gi_wp2; exact hF)
  case done =>
    rintro D xs W hD hxs ⟨hA, hS, hO, hB⟩ hK
    have e2 : W.cell? ⟨w2.heap.size, 0, none⟩ = some (.slice (some ⟨w.heap.size + 1, 0, none⟩) len len) := by simp [World.cell?, hO]
    gi_wp2
    refine ⟨by simp, .inl ⟨_, _, rfl, run_takeDeferred hK, ?_⟩⟩
    have hB9 : Below w.heap.size w (W.putObj D (.deferred none)) := hB.trans (belowK_b (w := w) (Nat.le_refl _) W D _ _ (by omega) hK rfl rfl)
    have hA9 : (W.putObj D (.deferred none)).heap[w.heap.size + 1]? = _ := (World.putObj_heap_other (by omega)).trans hA
    rw [hxs, HL.out, fill_shuf l (by omega)] at hA9
    refine ⟨_, ?_, hB9, _, rfl, row_of_block hA9 (by rw [shufL_length, HL.out]) (by omega) hl⟩
    simp [results, Tryz.f99, go_sem]
  case stop =>
    rintro D c pre W hD _ h
    exact h.elim
end Go.Proofs.YtpnofkefcoaojaaGreatDoor
namespace Go.Proofs.YtpnofkefcoaojaaGreatDoor
open Go.RowKit
open Go.Lib
def RowB (L : List UInt8) (len : Nat) (w : World) (e : Ending) (w' : World) : Prop := Below w.heap.size w w' ∧ ∃ q d, e = .returned (.tuple #[.slice q len d, .int .i64 0]) ∧ len ≤ d ∧ Bs w' q L
theorem RowPost.bs {L : List UInt8} {len : Nat} {w w' : World} {e : Ending} (h : RowPost L w e w') (hL : L.length = len) : RowB L len w e w' := by
  obtain ⟨h1, v, he, ho⟩ := h
  obtain ⟨q, d, hv, hb, hd⟩ := own_bytes ho
  subst hL
  exact ⟨h1, q, d, by rw [he, hv], hd, hb⟩
end Go.Proofs.YtpnofkefcoaojaaGreatDoor
namespace Go.Proofs.YtpnofkefcoaojaaGreatDoor
open Go.RowKit
open Go.Lib
def stL (st : Nat → Nat → Nat × Nat) : Nat → List Nat → List Nat
  | _, [] => []
  | a, g :: gs => (st a g).1 :: stL st (st a g).2 gs
theorem stL_length (st : Nat → Nat → Nat × Nat) : ∀ (gs : List Nat) (a : Nat), (stL st a gs).length = gs.length
  | [], _ => rfl
  | g :: gs, a => by rw [stL, List.length_cons, stL_length st gs, List.length_cons]
theorem chR_jl (st : Nat → Nat → Nat × Nat) (n : Nat) : ∀ (k a : Nat) (l : List UInt8), jl n (stL st a (gl n k l)) ++ l.drop (k * n) = chR st n k a l
  | 0, a, l => by rw [gl, stL, jl, chR, Nat.zero_mul, List.drop_zero, List.nil_append]
  | k + 1, a, l => by
    rw [gl, stL, jl, chR, List.append_assoc, ← chR_jl st n k _ (l.drop n), List.drop_drop, Nat.succ_mul, Nat.add_comm n]
end Go.Proofs.YtpnofkefcoaojaaGreatDoor
set_option maxHeartbeats 2000000
set_option maxRecDepth 100000
namespace Go.Proofs.YtpnofkefcoaojaaGreatDoor
open Go.RowKit Go.Shelf
open Go.Lib
attribute [local go_sem] Oper.semAt_some
def BsN (N : Nat) (w : World) (p : Option Addr) (l : List UInt8) : Prop := l.length = 0 ∨ ∃ b off, p = some ⟨b, off, none⟩ ∧ b < N ∧ ∀ j, j < l.length → w.cell? ⟨b, off + j, none⟩ = some (.int .u8 (((l.getD j 0).toNat : Nat) : Int))
theorem BsN.keep {N : Nat} {w w' : World} {p : Option Addr} {l : List UInt8} (h : BsN N w p l) (hb : Below N w w') : BsN N w' p l := by
  rcases h with h0 | ⟨b, off, hp, hlt, hc⟩
  · exact .inl h0
  · exact .inr ⟨b, off, hp, hlt, fun j hj => (hb.cell (p := ⟨b, off + j, none⟩) hlt).trans (hc j hj)⟩
theorem BsN.bs {N : Nat} {w : World} {p : Option Addr} {l : List UInt8} (h : BsN N w p l) (hN : N ≤ w.heap.size) : Bs w p l := by
  rcases h with h0 | ⟨b, off, hp, hlt, hc⟩
  · exact .inl h0
  · exact .inr ⟨b, off, hp, Nat.lt_of_lt_of_le hlt hN, hc⟩
theorem Bs.bsN {w : World} {p : Option Addr} {l : List UInt8} (h : Bs w p l) : BsN w.heap.size w p l := h
def Keep3 (N Bn Bb : Nat) (W W' : World) : Prop := Below N W W' ∧ W'.heap[Bn]? = W.heap[Bn]? ∧ W'.heap[Bb]? = W.heap[Bb]?
theorem Keep3.trans {N Bn Bb : Nat} {A B C : World} (h : Keep3 N Bn Bb A B) (k : Keep3 N Bn Bb B C) : Keep3 N Bn Bb A C := ⟨h.1.trans k.1, k.2.1.trans h.2.1, k.2.2.trans h.2.2⟩
theorem Keep3.refl (N Bn Bb : Nat) (A : World) : Keep3 N Bn Bb A A := ⟨Below.refl _ _, rfl, rfl⟩
theorem Keep3.c1 {N Bn Bb : Nat} {A B : World} (h : Keep3 N Bn Bb A B) : B.cell? ⟨Bn, 0, none⟩ = A.cell? ⟨Bn, 0, none⟩ := World.cell?_of_block (a := ⟨Bn, 0, none⟩) h.2.1
theorem Keep3.c2 {N Bn Bb : Nat} {A B : World} (h : Keep3 N Bn Bb A B) : B.cell? ⟨Bb, 0, none⟩ = A.cell? ⟨Bb, 0, none⟩ := World.cell?_of_block (a := ⟨Bb, 0, none⟩) h.2.2
abbrev nbE (l : List UInt8) (n k : Nat) (x : Pl k) : Array Value := #[.int .u64 ((nb ((l.drop (x.1 * n)).take n) : Nat) : Int)]
theorem it79_in (m : Nat) (hm : 1 ≤ m) (lr Bn Bb N0 n len k c : Nat) (l : List UInt8) (p : Option Addr) (HL : Hid (len = l.length)) (HK : Hid (k = len / n)) (hn1 : 1 ≤ n) (hn2 : n ≤ 8) (hlen : len ≤ 20000) (hc : len ≤ c) (J Jx : List (Pl k) → World → Prop)
    (hY : ∀ pre x W, J pre W → pre.length < k → YieldAt Fence.wide (m - 1) Tryz.prog lr (nbE l n k x) W fun e W' =>
      (e = .returned (.bool true) ∧ J (pre ++ [x]) W' ∧ Keep3 N0 Bn Bb W W') ∨ (e = .returned (.bool false) ∧ Jx (pre ++ [x]) W'))
    (W : World) (hN : N0 ≤ W.heap.size) (hBn : W.cell? ⟨Bn, 0, none⟩ = some (.int .i64 (n : Int))) (hBb : W.cell? ⟨Bb, 0, none⟩ = some (.slice p len c)) (hbs : BsN N0 W p l) (h0 : J [] W) :
    CallsIn Fence.wide m Tryz.prog 222 #[.func (.yield lr) #[] #[], .pointer (some ⟨Bn, 0, none⟩), .pointer (some ⟨Bb, 0, none⟩)] W fun e W' => (∃ v, e = .returned v) ∧
      ((∃ ys, ys.map (·.1) = List.range k ∧ J ys W') ∨ (∃ pre, True ∧ Jx pre W')) := by
  have hni : 1 ≤ (n : Int) := by omega
  have hni2 : (n : Int) ≤ 8 := by omega
  have hli : (len : Int) ≤ 20000 := by omega
  have HKN : Hid (k * n ≤ len ∧ len < k * n + n) := Lib.hid (by
    rw [HK.out]
    have h3 := Nat.div_add_mod len n
    have h4 := Nat.mod_lt len (show n > 0 by omega)
    rw [Nat.mul_comm] at h3; omega)
  have HBS := Lib.hid hbs
  clear hbs
  refine callsIn_of_wp Tryz.func222 rfl trivial ?_ rfl
  simp only [Tryz.ntmps222, List.size_toArray, List.length_cons, List.length_nil, Nat.reduceAdd, Nat.reduceSub, Array.replicate_succ, Array.replicate_zero, List.push_toArray, List.append_toArray, List.nil_append, List.cons_append]
  gi_wp2
  have HJ0 := Lib.hid h0
  gi_loopw [4] (fun tv wr => ∃ (t i : Nat) (pre : List (Pl k)), i ≤ k ∧ tv = .int .i64 t ∧ Hid (t = i * n) ∧ Hid (pre.map (·.1) = List.range i) ∧ Hid (J pre wr) ∧ Hid (Keep3 N0 Bn Bb W wr)) (fun tv _ => len - (intOf tv).toNat)
  case atStart => exact ⟨0, 0, [], Nat.zero_le _, rfl, Lib.hid (by rw [Nat.zero_mul]), rfl, HJ0, Lib.hid (Keep3.refl _ _ _ _)⟩
  case round =>
    obtain ⟨t, i, pre, hik, rfl, HT, HP, HJ, HB⟩ := hrel
    have hcn := HB.out.c1.trans hBn
    have hcb := HB.out.c2.trans hBb
    by_cases hilt : i < k
    · have htn : t + n ≤ len := by
        have h3 := HKN.out.1
        have h4 : (i + 1) * n ≤ k * n := Nat.mul_le_mul_right _ hilt
        rw [Nat.succ_mul] at h4
        rw [HT.out]; omega
      have htn' : (t : Int) + (n : Int) ≤ (len : Int) := by omega
      have hbs1 := (HBS.out.keep HB.out.1).bs (Nat.le_trans hN HB.out.1.size)
      obtain ⟨b0, off, rfl, -, -⟩ := at_cell hbs1 (t := 0) (by rw [← HL.out]; omega)
      have hsub : Hid (Bs wr (some ⟨b0, off + t, none⟩) ((l.drop t).take n)) := Lib.hid (bs_sub hbs1 t n (by rw [← HL.out]; omega) rfl)
      obtain ⟨s, HS⟩ : ∃ s, Hid (s = (l.drop t).take n) := ⟨_, rfl⟩
      rw [← HS.out] at hsub
      have hsl : s.length = n := by rw [HS.out, List.length_take, List.length_drop, ← HL.out]; omega
      have HR := Lib.hid (bnumber_any (some ⟨b0, off + t, none⟩) (c - t) s wr (by omega) hsub.out)
      rw [hsl] at HR
      obtain ⟨x, HX⟩ : ∃ x : Nat, Hid (x = nb s) := ⟨_, rfl⟩
      rw [← HX.out] at HR
      obtain ⟨fn, tmps, assign, body, hy, hRo⟩ := hY pre ⟨i, hilt⟩ wr HJ.out (by
        have h := congrArg List.length HP.out
        rw [List.length_map, List.length_range] at h; omega)
      have hy2 : (Instr.yield lr #[.int .u64 (x : Int)]).run Tryz.prog wr = .ok (.round lr fn tmps assign body) wr := by
        rw [HX.out, HS.out, HT.out]; exact hy
      clear hy hbs1 hsl
      gi_wp2_with (refine ⟨trivial, ?_⟩; gi_at_call 197; refine (callsIn_wide.2 HR.out).mono ?_; rintro e w' ⟨rfl, rfl⟩)
      refine hRo.mono ?_
      rintro e W3 (⟨rfl, hJ3, hk3⟩ | ⟨rfl, hJx3⟩)
      · have HB3 := Lib.hid (HB.out.trans hk3)
        have HJ3 := Lib.hid hJ3
        have hcn3 := HB3.out.c1.trans hBn
        clear hJ3 hk3 hy2
        gi_wp2
        go_roundw
        case rel => exact ⟨t + n, i + 1, pre ++ [⟨i, hilt⟩], by omega, by go_num, Lib.hid (by rw [HT.out, Nat.succ_mul]), Lib.hid (by rw [List.map_append, HP.out, List.range_succ]; rfl), HJ3, HB3⟩
        case measure => simp [intOf]; omega
      · gi_wp2
        refine bodyPost_ret (results_none rfl _ _ _) rfl ?_
        exact ⟨⟨_, rfl⟩, .inr ⟨_, trivial, hJx3⟩⟩
    · obtain rfl : i = k := by omega
      have htn' : ¬ (t : Int) + (n : Int) ≤ (len : Int) := by rw [HT.out]; have := HKN.out.2; omega
      have htl : t ≤ len := by rw [HT.out]; exact HKN.out.1
      have hti : (t : Int) ≤ 20000 := by omega
      gi_wp2
      go_end0
      exact ⟨⟨_, rfl⟩, .inl ⟨pre, HP.out, HJ.out⟩⟩
theorem numbers_stops (m : Nat) (hm : 1 ≤ m) (Bn Bb N0 n len k c : Nat) (l : List UInt8) (p : Option Addr) (HL : Hid (len = l.length)) (HK : Hid (k = len / n)) (hn1 : 1 ≤ n) (hn2 : n ≤ 8) (hlen : len ≤ 20000) (hc : len ≤ c) (w : World) (hN : N0 ≤ w.heap.size) (hB1 : Bn < w.heap.size) (hB2 : Bb < w.heap.size)
    (hBn : w.cell? ⟨Bn, 0, none⟩ = some (.int .i64 (n : Int))) (hBb : w.cell? ⟨Bb, 0, none⟩ = some (.slice p len c)) (hbs : BsN N0 w p l) :
    SeqStopsK Fence.wide m Tryz.prog 222 #[.pointer (some ⟨Bn, 0, none⟩), .pointer (some ⟨Bb, 0, none⟩)] (nbE l n k) (Keep3 N0 Bn Bb) (fun ys => ys.map (·.1) = List.range k) (fun _ => True) k w := fun lr J Jx W hW _ _ hY h0 =>
  it79_in m hm lr Bn Bb N0 n len k c l p HL HK hn1 hn2 hlen hc J Jx hY W (Nat.le_trans hN hW.size) ((hW.cell (p := ⟨Bn, 0, none⟩) hB1).trans hBn) ((hW.cell (p := ⟨Bb, 0, none⟩) hB2).trans hBb) (hbs.keep (hW.mono hN)) h0
end Go.Proofs.YtpnofkefcoaojaaGreatDoor
