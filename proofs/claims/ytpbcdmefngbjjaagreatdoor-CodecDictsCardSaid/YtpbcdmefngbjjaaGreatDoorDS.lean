/- The document's Undelta. -/
import Derived.Test.YtpbcdmefngbjjaaGreatDoorDQ
namespace Go.Proofs.YtpbcdmefngbjjaaGreatDoor
open Go.RowKit
open Go.Lib
set_option maxRecDepth 100000 in
set_option maxHeartbeats 1600000 in
theorem rundelta_ok (p : Option Addr) (c n len : Nat) (l : List UInt8) (w : World) (HN : Hid (len = l.length)) (h1 : 1 ≤ n) (h2 : n ≤ 8) (hl : len ≤ 1000) (hc : Hid (len ≤ c)) (hpc : Hid (p = none → c = 0)) (hb : Bs w p l) :
    Calls Tryz.prog 14 #[.slice p len c, .int .i64 (n : Int)] w (RowB (undL l n) len w) := by
  obtain ⟨i0, hi, hz0, hz1, hz2⟩ := info_parts info79
  have HA := Lib.hid (asked_ok p len c n w h1 h2 hl)
  have HG := Lib.hid (groups_any p c n l w h1 h2 (by rw [← HN.out]; exact hl) (by rw [← HN.out]; exact hc.out) hpc.out hb)
  rw [← HN.out] at HG
  obtain ⟨k, HK⟩ : ∃ k, Hid (k = len / n) := ⟨_, rfl⟩
  rw [← HK.out] at HG
  have HKN : Hid (k * n ≤ len) := Lib.hid (by rw [HK.out]; exact Nat.div_mul_le_self _ _)
  have hkl : k ≤ len := by have := HKN.out; have h4 : k * 1 ≤ k * n := Nat.mul_le_mul_left _ h1; omega
  have hki : (k : Int) ≤ 1000 := by omega
  obtain ⟨gs, HGS⟩ : ∃ gs, Hid (gs = gl n k l) := ⟨_, rfl⟩
  have hgl : Hid (gs.length = k) := Lib.hid (by rw [HGS.out, gl_length])
  have hglt : Hid (∀ x ∈ gs, x < W64) := Lib.hid (by rw [HGS.out]; exact gl_lt h2 k l)
  obtain ⟨rs, HRS⟩ : ∃ rs, Hid (rs = l.drop (k * n)) := ⟨_, rfl⟩
  rw [← HGS.out, ← HRS.out] at HG
  have hfin : Hid (jl n (stL sStep 0 gs) ++ rs = undL l n) := Lib.hid (by rw [HGS.out, HRS.out, chR_jl, undL, HK.out, HN.out])
  obtain ⟨r, HR⟩ : ∃ r, Hid (rs.length = r) := ⟨_, rfl⟩
  have hrl : r ≤ 1000 := by rw [← HR.out, HRS.out, List.length_drop, ← HN.out]; omega
  have hn1 : 1 ≤ (n : Int) := by omega
  have hn8 : (n : Int) ≤ 8 := by omega
  clear hb
  go_enter Tryz.func14, Tryz.ntmps14
  go_wp2_with fail
  refine (HA.out).mono ?_
  rintro e w' ⟨rfl, rfl⟩
  go_wp2_with fail
  refine (HG.out).mono ?_
  rintro e w1 ⟨hb1, p1, c1, q1, d1, rfl, hrd, hbs⟩
  rw [hgl.out] at hrd ⊢
  rw [HR.out]
  have HB1 := Lib.hid hb1
  have HRD := Lib.hid hrd
  have HBS := Lib.hid hbs
  clear hb1 hrd hbs
  go_wp2_with (at_make; refine wpList_make_full _ rfl _ _ 42 rfl w1.heap.size 38 i0 (.int .u64 0) 1 Tryz.underlying42 hi hz0 hz1 _ _ _ _ k rfl rfl (by omega) (by omega) ?b2 ?b3 (Nat.le_refl _) ?_)
  case b2 => rw [hz2]; omega
  case b3 => unfold maxLen; omega
  intro w2 hown hgrow
  have HR2 : Hid (Row w2 w1.heap.size 38 (List.replicate k 0)) := Lib.hid (row_of_made hown)
  have HB2 : Hid (Below w1.heap.size w1 w2) := Lib.hid ((Below.refl _ _).grown hgrow (Nat.le_refl _) (fun k h => by cases h))
  clear hown hgrow
  go_wp2_with fail
  go_loopw [10, 11] (fun sv iv wr => ∃ (i a : Nat) (X : List Nat), i ≤ k ∧ iv = .int .i64 i ∧ sv = .int .u64 (a : Int) ∧ Hid (a < W64) ∧ Hid (FillAt sStep gs k i a X) ∧ Hid (Row wr w1.heap.size 38 X) ∧ Hid (Below w1.heap.size w1 wr)) (fun _ iv _ => k - (intOf iv).toNat)
  case atStart => exact ⟨0, 0, _, Nat.zero_le _, rfl, rfl, Lib.hid (by decide), Lib.hid (FillAt.start _ _ _), HR2, HB2⟩
  case round =>
    obtain ⟨i, a, X, hik, rfl, rfl, Ha, HF, HX, HB⟩ := hrel
    have hXl : X.length = k := HF.out.len hik
    by_cases hilt : i < k
    · obtain ⟨b1, o1, x, rfl, hb1, hc1, hx⟩ := (HRD.out.below HB.out).at hilt
      have hx0 := HX.out.cell i (by omega)
      have hf0 := HX.out.free i
      obtain ⟨v, HV⟩ : ∃ v, Hid (v = (a + x) % W64) := ⟨_, rfl⟩
      have hadd : IntKind.u64.wrap ((a : Int) + (x : Int)) = (v : Int) := by
        rw [IntKind.wrap_u64, HV.out]; unfold W64; omega
      have HVL : Hid (v < W64) := Lib.hid (by rw [HV.out]; exact Nat.mod_lt _ (by decide))
      have HF1 : Hid (FillAt sStep gs k (i + 1) v (X.set i v)) := Lib.hid (by
        have h := HF.out.step hgl.out hilt
        rw [hx.out] at h
        rw [HV.out]; exact h)
      have HX1 := Lib.hid (HX.out.set i v)
      have HB1' : Hid (Below w1.heap.size w1 (wr.setCell ⟨w1.heap.size, i, none⟩ (.int .u64 (v : Int)))) := Lib.hid (HB.out.setCell (p := ⟨w1.heap.size, i, none⟩) (Nat.le_refl _) _)
      go_wp2_with fail
      go_roundw
      case rel => exact ⟨i + 1, v, X.set i v, by omega, by go_num, rfl, HVL, HF1, HX1, HB1'⟩
      case measure => simp [intOf]; omega
    · obtain rfl : i = k := by omega
      have hX := HF.out.done hgl.out
      have HJ := Lib.hid (joined_any (some ⟨w1.heap.size, 0, none⟩) i i n X q1 r d1 rs wr h1 h2 (Nat.le_trans HKN.out hl) hrl (rd_of_row HX.out hXl) (by rw [hX]; exact stL_lt (fun a g => Nat.mod_lt _ (by decide)) gs 0) HR (HBS.out.below HB.out))
      rw [hX, hfin.out] at HJ
      have HBB := Lib.hid (HB1.out.trans (HB.out.mono HB1.out.size))
      have hlenr : (undL l n).length = len := by rw [undL_length]; exact HN.out.symm
      clear hX hXl
      go_wp2_with fail
      refine (HJ.out).mono ?_
      rintro e w3 ⟨v3, rfl, hg3⟩
      obtain ⟨p3, c3, rfl, hb3, hd3⟩ := own_bytes hg3.own
      rw [hlenr] at hd3 ⊢
      have HB3 := Lib.hid hb3
      have HBF := Lib.hid (HBB.out.trans ((hg3.below (Nat.le_refl _) (by intro k hk; cases hk)).mono HBB.out.size))
      clear hg3 hb3
      go_wp2_with fail
      go_ret2
      exact ⟨HBF.out, _, _, rfl, hd3, HB3.out⟩
end Go.Proofs.YtpbcdmefngbjjaaGreatDoor
namespace Go.Proofs.YtpbcdmefngbjjaaGreatDoor
open Go.RowKit Go.Shelf
open Go.Lib
attribute [local go_sem] Oper.semAt_some
/-- The slice reads as l, its block lies below N. -/
def BsN (N : Nat) (w : World) (p : Option Addr) (l : List UInt8) : Prop := l.length = 0 ∨ ∃ b off, p = some ⟨b, off, none⟩ ∧ b < N ∧ ∀ j, j < l.length → w.cell? ⟨b, off + j, none⟩ = some (.int .u8 (((l.getD j 0).toNat : Nat) : Int))
theorem BsN.keep {N : Nat} {w w' : World} {p : Option Addr} {l : List UInt8} (h : BsN N w p l) (hb : Below N w w') : BsN N w' p l := by
  rcases h with h0 | ⟨b, off, hp, hlt, hc⟩
  · exact .inl h0
  · exact .inr ⟨b, off, hp, hlt, fun j hj => (hb.cell (p := ⟨b, off + j, none⟩) hlt).trans (hc j hj)⟩
theorem BsN.bs {N : Nat} {w : World} {p : Option Addr} {l : List UInt8} (h : BsN N w p l) (hN : N ≤ w.heap.size) : Bs w p l := by
  rcases h with h0 | ⟨b, off, hp, hlt, hc⟩
  · exact .inl h0
  · exact .inr ⟨b, off, hp, Nat.lt_of_lt_of_le hlt hN, hc⟩
theorem Bs.bsN {w : World} {p : Option Addr} {l : List UInt8} (h : Bs w p l) : BsN w.heap.size w p l := h
/-- What a round must keep: what lay below N, and the iterator's two boxes. -/
def Keep3 (N Bn Bb : Nat) (W W' : World) : Prop := Below N W W' ∧ W'.heap[Bn]? = W.heap[Bn]? ∧ W'.heap[Bb]? = W.heap[Bb]?
theorem Keep3.trans {N Bn Bb : Nat} {A B C : World} (h : Keep3 N Bn Bb A B) (k : Keep3 N Bn Bb B C) : Keep3 N Bn Bb A C := ⟨h.1.trans k.1, k.2.1.trans h.2.1, k.2.2.trans h.2.2⟩
theorem Keep3.refl (N Bn Bb : Nat) (A : World) : Keep3 N Bn Bb A A := ⟨Below.refl _ _, rfl, rfl⟩
theorem Keep3.c1 {N Bn Bb : Nat} {A B : World} (h : Keep3 N Bn Bb A B) : B.cell? ⟨Bn, 0, none⟩ = A.cell? ⟨Bn, 0, none⟩ := World.cell?_of_block (a := ⟨Bn, 0, none⟩) h.2.1
theorem Keep3.c2 {N Bn Bb : Nat} {A B : World} (h : Keep3 N Bn Bb A B) : B.cell? ⟨Bb, 0, none⟩ = A.cell? ⟨Bb, 0, none⟩ := World.cell?_of_block (a := ⟨Bb, 0, none⟩) h.2.2
abbrev nbE (l : List UInt8) (n k : Nat) (x : Pl k) : Array Value := #[.int .u64 ((nb ((l.drop (x.1 * n)).take n) : Nat) : Int)]
set_option maxRecDepth 100000 in
set_option maxHeartbeats 2000000 in
theorem it79_in (m : Nat) (hm : 1 ≤ m) (lr Bn Bb N0 n len k c : Nat) (l : List UInt8) (p : Option Addr) (HL : Hid (len = l.length)) (HK : Hid (k = len / n)) (hn1 : 1 ≤ n) (hn2 : n ≤ 8) (hlen : len ≤ 1000) (hc : len ≤ c) (J Jx : List (Pl k) → World → Prop)
    (hY : ∀ pre x W, J pre W → pre.length < k → YieldAt Fence.wide (m - 1) Tryz.prog lr (nbE l n k x) W fun e W' =>
      (e = .returned (.bool true) ∧ J (pre ++ [x]) W' ∧ Keep3 N0 Bn Bb W W') ∨ (e = .returned (.bool false) ∧ Jx (pre ++ [x]) W'))
    (W : World) (hN : N0 ≤ W.heap.size) (hBn : W.cell? ⟨Bn, 0, none⟩ = some (.int .i64 (n : Int))) (hBb : W.cell? ⟨Bb, 0, none⟩ = some (.slice p len c)) (hbs : BsN N0 W p l) (h0 : J [] W) :
    CallsIn Fence.wide m Tryz.prog 79 #[.func (.yield lr) #[] #[], .pointer (some ⟨Bn, 0, none⟩), .pointer (some ⟨Bb, 0, none⟩)] W fun e W' => (∃ v, e = .returned v) ∧
      ((∃ ys, ys.map (·.1) = List.range k ∧ J ys W') ∨ (∃ pre, True ∧ Jx pre W')) := by
  have hni : 1 ≤ (n : Int) := by omega
  have hni2 : (n : Int) ≤ 8 := by omega
  have hli : (len : Int) ≤ 1000 := by omega
  have HKN : Hid (k * n ≤ len ∧ len < k * n + n) := Lib.hid (by
    rw [HK.out]
    have h3 := Nat.div_add_mod len n
    have h4 := Nat.mod_lt len (show n > 0 by omega)
    rw [Nat.mul_comm] at h3; omega)
  have HBS := Lib.hid hbs
  clear hbs
  refine callsIn_of_wp Tryz.func79 rfl trivial ?_ rfl
  simp only [Tryz.ntmps79, List.size_toArray, List.length_cons, List.length_nil, Nat.reduceAdd, Nat.reduceSub, Array.replicate_succ, Array.replicate_zero, List.push_toArray, List.append_toArray, List.nil_append, List.cons_append]
  gi_wp2
  have HJ0 := Lib.hid h0
  gi_loopw [4] (fun tv wr => ∃ (t i : Nat) (pre : List (Pl k)), i ≤ k ∧ tv = .int .i64 t ∧ Hid (t = i * n) ∧ Hid (pre.map (·.1) = List.range i) ∧ Hid (J pre wr) ∧ Hid (Keep3 N0 Bn Bb W wr)) (fun tv _ => len - (intOf tv).toNat)
  case atStart => exact ⟨0, 0, [], Nat.zero_le _, rfl, Lib.hid (by rw [Nat.zero_mul]), rfl, HJ0, Lib.hid (Keep3.refl _ _ _ _)⟩
  case round =>
    obtain ⟨t, i, pre, hik, rfl, HT, HP, HJ, HB⟩ := hrel
    have hcn := HB.out.c1.trans hBn
    have hcb := HB.out.c2.trans hBb
    by_cases hilt : i < k
    · have htn : t + n ≤ len := by
        have h3 := HKN.out.1
        have h4 : (i + 1) * n ≤ k * n := Nat.mul_le_mul_right _ hilt
        rw [Nat.succ_mul] at h4
        rw [HT.out]; omega
      have htn' : (t : Int) + (n : Int) ≤ (len : Int) := by omega
      have hbs1 := (HBS.out.keep HB.out.1).bs (Nat.le_trans hN HB.out.1.size)
      obtain ⟨b0, off, rfl, -, -⟩ := at_cell hbs1 (t := 0) (by rw [← HL.out]; omega)
      have hsub : Hid (Bs wr (some ⟨b0, off + t, none⟩) ((l.drop t).take n)) := Lib.hid (bs_sub hbs1 t n (by rw [← HL.out]; omega) rfl)
      obtain ⟨s, HS⟩ : ∃ s, Hid (s = (l.drop t).take n) := ⟨_, rfl⟩
      rw [← HS.out] at hsub
      have hsl : s.length = n := by rw [HS.out, List.length_take, List.length_drop, ← HL.out]; omega
      have HR := Lib.hid (bnumber_any (some ⟨b0, off + t, none⟩) (c - t) s wr (by omega) hsub.out)
      rw [hsl] at HR
      obtain ⟨x, HX⟩ : ∃ x : Nat, Hid (x = nb s) := ⟨_, rfl⟩
      rw [← HX.out] at HR
      obtain ⟨fn, tmps, assign, body, hy, hRo⟩ := hY pre ⟨i, hilt⟩ wr HJ.out (by
        have h := congrArg List.length HP.out
        rw [List.length_map, List.length_range] at h; omega)
      have hy2 : (Instr.yield lr #[.int .u64 (x : Int)]).run Tryz.prog wr = .ok (.round lr fn tmps assign body) wr := by
        rw [HX.out, HS.out, HT.out]; exact hy
      clear hy hbs1 hsl
      gi_wp2_with (refine ⟨trivial, ?_⟩; gi_at_call 68; refine (callsIn_wide.2 HR.out).mono ?_; rintro e w' ⟨rfl, rfl⟩)
      refine hRo.mono ?_
      rintro e W3 (⟨rfl, hJ3, hk3⟩ | ⟨rfl, hJx3⟩)
      · have HB3 := Lib.hid (HB.out.trans hk3)
        have HJ3 := Lib.hid hJ3
        have hcn3 := HB3.out.c1.trans hBn
        clear hJ3 hk3 hy2
        gi_wp2
        go_roundw
        case rel => exact ⟨t + n, i + 1, pre ++ [⟨i, hilt⟩], by omega, by go_num, Lib.hid (by rw [HT.out, Nat.succ_mul]), Lib.hid (by rw [List.map_append, HP.out, List.range_succ]; rfl), HJ3, HB3⟩
        case measure => simp [intOf]; omega
      · gi_wp2
        refine bodyPost_ret (results_none rfl _ _ _) rfl ?_
        exact ⟨⟨_, rfl⟩, .inr ⟨_, trivial, hJx3⟩⟩
    · obtain rfl : i = k := by omega
      have htn' : ¬ (t : Int) + (n : Int) ≤ (len : Int) := by rw [HT.out]; have := HKN.out.2; omega
      have htl : t ≤ len := by rw [HT.out]; exact HKN.out.1
      have hti : (t : Int) ≤ 1000 := by omega
      gi_wp2
      go_end0
      exact ⟨⟨_, rfl⟩, .inl ⟨pre, HP.out, HJ.out⟩⟩
theorem numbers_stops (m : Nat) (hm : 1 ≤ m) (Bn Bb N0 n len k c : Nat) (l : List UInt8) (p : Option Addr) (HL : Hid (len = l.length)) (HK : Hid (k = len / n)) (hn1 : 1 ≤ n) (hn2 : n ≤ 8) (hlen : len ≤ 1000) (hc : len ≤ c) (w : World) (hN : N0 ≤ w.heap.size) (hB1 : Bn < w.heap.size) (hB2 : Bb < w.heap.size)
    (hBn : w.cell? ⟨Bn, 0, none⟩ = some (.int .i64 (n : Int))) (hBb : w.cell? ⟨Bb, 0, none⟩ = some (.slice p len c)) (hbs : BsN N0 w p l) :
    SeqStopsK Fence.wide m Tryz.prog 79 #[.pointer (some ⟨Bn, 0, none⟩), .pointer (some ⟨Bb, 0, none⟩)] (nbE l n k) (Keep3 N0 Bn Bb) (fun ys => ys.map (·.1) = List.range k) (fun _ => True) k w := fun lr J Jx W hW _ _ hY h0 =>
  it79_in m hm lr Bn Bb N0 n len k c l p HL HK hn1 hn2 hlen hc J Jx hY W (Nat.le_trans hN hW.size) ((hW.cell (p := ⟨Bn, 0, none⟩) hB1).trans hBn) ((hW.cell (p := ⟨Bb, 0, none⟩) hB2).trans hBb) (hbs.keep (hW.mono hN)) h0
end Go.Proofs.YtpbcdmefngbjjaaGreatDoor
