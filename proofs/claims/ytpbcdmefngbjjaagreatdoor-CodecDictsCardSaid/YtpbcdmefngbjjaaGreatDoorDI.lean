/- The program's Shuffle: up to its loop. -/
import Derived.Test.YtpbcdmefngbjjaaGreatDoorDK
namespace Go.Proofs.YtpbcdmefngbjjaaGreatDoor
open Go.RowKit Go.Shelf
open Go.Lib
attribute [local go_sem] Oper.semAt_some
set_option maxRecDepth 100000 in
set_option maxHeartbeats 2000000 in
theorem shuffle_ok (p : Option Addr) (c n : Nat) (l : List UInt8) (w : World) (h1 : 1 ≤ n) (h2 : n ≤ 8) (hl : l.length ≤ 1000) (hb : Bs w p l) :
    Calls Tryz.prog 17 #[.slice p l.length c, .int .i64 (n : Int)] w (RowPost (shufL l n) w) := by
  have HA : ∀ W, Calls Tryz.prog 38 #[.slice p l.length c, .int .i64 (n : Int)] W fun e w' => e = .returned (.int .i64 0) ∧ W = w' := fun W => check_ok p l.length c n W h1 h2 hl
  obtain ⟨len, HL⟩ : ∃ len, Hid (len = l.length) := ⟨_, rfl⟩
  have Hb := Lib.hid hb
  rw [← HL.out] at hl HA ⊢
  have HAh := Lib.hid HA
  clear hb HA
  refine (callsIn_wide (n := 9)).1 ?_
  refine callsIn_of_wp_marks Tryz.func17 rfl trivial ?_ rfl
  simp only [Tryz.ntmps17, List.size_toArray, List.length_cons, List.length_nil, Nat.reduceAdd, Nat.reduceSub, Array.replicate_succ, Array.replicate_zero, List.push_toArray, List.append_toArray, List.nil_append, List.cons_append]
  gi_wp2_with (first | (refine ⟨trivial, ?_⟩; gi_at_call 38; refine (callsIn_wide.2 (HAh.out _)).mono ?_; rintro e w' ⟨rfl, rfl⟩) | (gi_at_make; refine wpListIn_make_bytes _ rfl _ _ rfl _ _ len rfl rfl hl ?_))
  intro w2 hrow hgr
  have hb2 : w2.heap[w.heap.size]? = some (.cells #[.slice p len c] 22 (0, 0)) := (hgr.block w.heap.size (by simp) (by simp)).trans (World.alloc_heap_new w _)
  have gb : w2.cell? ⟨w.heap.size, 0, none⟩ = some (.slice p len c) := by simp [World.cell?, hb2]
  have hB2 : Below w.heap.size w w2 := ((Below.refl _ w).alloc (Nat.le_refl _) _).grown hgr (by simp) (fun k e => by cases e)
  have hN : w.heap.size + 1 < w2.heap.size := by
    have h := (Array.getElem?_eq_some_iff.1 hrow).1
    simpa using h
  have gb3 : (w2.alloc (.cells #[.slice (some ⟨w.heap.size + 1, 0, none⟩) len len] 22)).cell? ⟨w.heap.size, 0, none⟩ = some (.slice p len c) := by
    rw [World.cell?_of_block (w := w2) (Below.heap_alloc _ _ _ (by show w.heap.size < w2.heap.size; omega))]; exact gb
  have HR := Lib.hid hrow
  have HB2 := Lib.hid hB2
  have Hb2 := Lib.hid hb2
  clear hrow hb2 hB2 hgr
  gi_wp2_with (refine ⟨trivial, ?_⟩; gi_at_call 39; refine (shuffled_in Fence.wide _ trivial rfl _ _ _).mono ?_; rintro e w' ⟨rfl, rfl⟩)
  obtain ⟨W0, hW0⟩ : ∃ W0, ((w2.alloc (.cells #[.slice (some ⟨w.heap.size + 1, 0, none⟩) len len] 22)).alloc (.cells #[.int .i64 (len : Int)] 3)).alloc (.cells #[.int .i64 (n : Int)] 3) = W0 := ⟨_, rfl⟩
  have hs0 : W0.heap.size = w2.heap.size + 3 := by rw [← hW0]; simp
  have hO : W0.heap[w2.heap.size]? = some (.cells #[.slice (some ⟨w.heap.size + 1, 0, none⟩) len len] 22 (0, 0)) := by
    rw [← hW0]; exact ((Below.heap_alloc _ _ _ (by simp; omega)).trans (Below.heap_alloc _ _ _ (by simp))).trans (World.alloc_heap_new w2 _)
  have hBl : W0.heap[w2.heap.size + 1]? = some (.cells #[.int .i64 (len : Int)] 3 (0, 0)) := by
    rw [← hW0]; refine (Below.heap_alloc _ _ _ (by simp)).trans ?_
    have := World.alloc_heap_new (w2.alloc (.cells #[.slice (some ⟨w.heap.size + 1, 0, none⟩) len len] 22)) (.cells #[.int .i64 (len : Int)] 3); rwa [World.size_alloc] at this
  have hBn : W0.heap[w2.heap.size + 1 + 1]? = some (.cells #[.int .i64 (n : Int)] 3 (0, 0)) := by
    rw [← hW0]; have := World.alloc_heap_new ((w2.alloc (.cells #[.slice (some ⟨w.heap.size + 1, 0, none⟩) len len] 22)).alloc (.cells #[.int .i64 (len : Int)] 3)) (.cells #[.int .i64 (n : Int)] 3); rwa [World.size_alloc, World.size_alloc] at this
  have hB20 : Below w2.heap.size w2 W0 := by rw [← hW0]; exact (((Below.refl _ w2).alloc (Nat.le_refl _) _).alloc (by simp) _).alloc (by simp; omega) _
  have hS : W0.heap[w.heap.size]? = some (.cells #[.slice p len c] 22 (0, 0)) := (hB20.block _ (by omega)).trans Hb2.out
  have hR0 : W0.heap[w.heap.size + 1]? = some (.cells (u8s (List.replicate len 0)).toArray 5 (0, 0)) := (hB20.block _ hN).trans HR.out
  have hBW : Below w.heap.size w W0 := HB2.out.trans (hB20.mono (by omega))
  rw [hW0]
  clear gb gb3
  refine wpIn_rangeFunc_ownF rfl (by omega) (gf := 64) (lb := #[.pointer (some ⟨w2.heap.size + 1, 0, none⟩), .pointer (some ⟨w2.heap.size + 1 + 1, 0, none⟩)]) rfl trivial (enters_of Tryz.func64 (by kernel_rfl) rfl)
    (shuf_stops Fence.wide _ trivial rfl (by omega) (w2.heap.size + 1) (w2.heap.size + 1 + 1) len n h1 h2 hl W0 (by omega) (by omega) (by simp [World.cell?, hBl]) (by simp [World.cell?, hBn])) Two2.trans
    (fun W lo o o' hlo ho hc hw => ⟨World.putObj_heap_other (by omega), World.putObj_heap_other (by omega)⟩) (Below.refl _ _) (fun _ => rfl)
    (fun pre W => W.heap[w.heap.size + 1]? = some (.cells (u8s (fillP l (fun t => t) (fun t => srcP len n t) (pre.map (·.1)))).toArray 5 (0, 0)) ∧ W.heap[w.heap.size]? = some (.cells #[.slice p len c] 22 (0, 0)) ∧
      W.heap[w2.heap.size]? = some (.cells #[.slice (some ⟨w.heap.size + 1, 0, none⟩) len len] 22 (0, 0)) ∧ Below w.heap.size w W)
    (fun _ _ _ => False)
    (OwnFrom.and (ownFrom_block (fun _ => rfl)) (OwnFrom.and (ownFrom_block (fun _ => rfl)) (OwnFrom.and (ownFrom_block (fun _ => rfl)) (ownFrom_below (Nat.le_refl _) (by omega)))))
    (fun _ _ _ _ _ h _ _ => h)
    ⟨(by rw [hR0, HL.out]; rfl), hS, hO, hBW⟩
    (fun x => { tmps := #[.slice p len c, .int .i64 (n : Int), .pointer (some ⟨w.heap.size, 0, none⟩), undef, .slice none 0 0, .int .i64 0, .int .i64 0, .pointer (some ⟨w2.heap.size, 0, none⟩), .int .i64 ((x.1 : Nat) : Int), .int .i64 ((srcP len n x.1 : Nat) : Int), .slice p len c, .int .i64 (n : Int), .int .i64 0, .int .i64 0, .bool false, undef, .slice p len c, .int .i64 (len : Int), .slice (some ⟨w.heap.size + 1, 0, none⟩) len len, .slice p len c, .int .i64 (len : Int), .int .i64 (n : Int), .func (.func 64) #[] #[.pointer (some ⟨w2.heap.size + 1, 0, none⟩), .pointer (some ⟨w2.heap.size + 1 + 1, 0, none⟩)], .int .i64 ((x.1 : Nat) : Int), .int .i64 ((srcP len n x.1 : Nat) : Int), undef, undef, undef, undef, undef, undef, undef, undef], defers := [] }) ?assign ?body ?done ?stop
  case assign =>
    intro lo x W K hK
    gi_wp2
    exact hK
  case body =>
    rintro lo pre x W ⟨hA, hS, hO, hB⟩ _
    obtain ⟨t, ht⟩ := x
    have hfr : srcP len n t < len := srcP_lt (by omega) ht
    obtain ⟨b1, o1, hp1, hb1, hc1⟩ := at_cell (t := srcP len n t) (Hb.out.below hB) (by rw [← HL.out]; exact hfr)
    obtain ⟨y, HY⟩ : ∃ y : UInt8, Hid (y = l.getD (srcP len n t) 0) := ⟨_, rfl⟩
    rw [← HY.out] at hc1
    obtain ⟨fr, HFR⟩ : ∃ fr, Hid (fr = srcP len n t) := ⟨_, rfl⟩
    have e1 : W.cell? ⟨w.heap.size, 0, none⟩ = some (.slice p len c) := by simp [World.cell?, hS]
    have e2 : W.cell? ⟨w2.heap.size, 0, none⟩ = some (.slice (some ⟨w.heap.size + 1, 0, none⟩) len len) := by simp [World.cell?, hO]
    obtain ⟨A, HA⟩ : ∃ A : List UInt8, Hid (A = fillP l (fun t => t) (fun t => srcP len n t) (pre.map (·.1))) := ⟨_, rfl⟩
    have HAl : Hid (A.length = len) := Lib.hid (by rw [HA.out, fillP_length, HL.out])
    rw [← HA.out] at hA
    have e3 : W.cell? ⟨w.heap.size + 1, t, none⟩ = some (.int .u8 (((A.getD t 0).toNat : Nat) : Int)) := by
      simp only [World.cell?, hA]
      have h6 : (u8s A)[t]? = some (.int .u8 (((A.getD t 0).toNat : Nat) : Int)) := by
        rw [u8s, List.getElem?_map, List.getD_eq_getElem?_getD, List.getElem?_eq_getElem (by rw [HAl.out]; exact ht)]; rfl
      simpa using h6
    have e4 : W.frozen? ⟨w.heap.size + 1, t, none⟩ = false := by simp [World.frozen?, hA]
    subst hp1
    rw [← HFR.out] at hfr hc1 ⊢
    have hF : KeepsOthers W (W.setCell ⟨w.heap.size + 1, t, none⟩ (.int .u8 (y.toNat : Int))).drew ∧ Two2 (w2.heap.size + 1) (w2.heap.size + 1 + 1) W (W.setCell ⟨w.heap.size + 1, t, none⟩ (.int .u8 (y.toNat : Int))).drew ∧
        (W.setCell ⟨w.heap.size + 1, t, none⟩ (.int .u8 (y.toNat : Int))).drew.heap[w.heap.size + 1]? = some (.cells (u8s (fillP l (fun t => t) (fun t => srcP len n t) ((pre ++ [(⟨t, ht⟩ : Pl len)]).map (·.1)))).toArray 5 (0, 0)) ∧
        (W.setCell ⟨w.heap.size + 1, t, none⟩ (.int .u8 (y.toNat : Int))).drew.heap[w.heap.size]? = some (.cells #[.slice (some ⟨b1, o1, none⟩) len c] 22 (0, 0)) ∧
        (W.setCell ⟨w.heap.size + 1, t, none⟩ (.int .u8 (y.toNat : Int))).drew.heap[w2.heap.size]? = some (.cells #[.slice (some ⟨w.heap.size + 1, 0, none⟩) len len] 22 (0, 0)) ∧
        Below w.heap.size w (W.setCell ⟨w.heap.size + 1, t, none⟩ (.int .u8 (y.toNat : Int))).drew := by
      refine ⟨keeps_drew (KeepsOthers.setCell _ _ _), ⟨set_other _ (by omega), set_other _ (by omega)⟩, ?_, (set_other _ (by omega)).trans hS, (set_other _ (by omega)).trans hO, (hB.setCell (p := ⟨w.heap.size + 1, t, none⟩) (by simp) _).drew⟩
      rw [List.map_append, List.map_cons, List.map_nil, fillP_snoc, ← HA.out, ← HY.out]; exact set_block hA y
    gi_wp2
    gi_region
    all_goals (gi_wp2; exact hF)
  case done =>
    rintro D xs W hD hxs ⟨hA, hS, hO, hB⟩ hK
    have e2 : W.cell? ⟨w2.heap.size, 0, none⟩ = some (.slice (some ⟨w.heap.size + 1, 0, none⟩) len len) := by simp [World.cell?, hO]
    gi_wp2
    refine ⟨by simp, .inl ⟨_, _, rfl, run_takeDeferred hK, ?_⟩⟩
    have hB9 : Below w.heap.size w (W.putObj D (.deferred none)) := hB.trans (belowK_b (w := w) (Nat.le_refl _) W D _ _ (by omega) hK rfl rfl)
    have hA9 : (W.putObj D (.deferred none)).heap[w.heap.size + 1]? = _ := (World.putObj_heap_other (by omega)).trans hA
    rw [hxs, HL.out, fill_shuf l (by omega)] at hA9
    refine ⟨_, ?_, hB9, _, rfl, row_of_block hA9 (by rw [shufL_length, HL.out]) (by omega) hl⟩
    simp [results, Tryz.f17, go_sem]
  case stop =>
    rintro D c pre W hD _ h
    exact h.elim
end Go.Proofs.YtpbcdmefngbjjaaGreatDoor
