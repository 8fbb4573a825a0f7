/- The program's binary search over integers that rise: its two helpers. -/
import Derived.Test.YtpnofkefcoaojaaGreatDoorKC
import Derived.Test.YtpnofkefcoaojaaGreatDoorWFK
import Derived.Test.YtpnofkefcoaojaaGreatDoorWFF
set_option maxHeartbeats 1000000
set_option maxRecDepth 100000
namespace Go.Proofs.YtpnofkefcoaojaaGreatDoor
open Go.RowKit
open Go.Lib
theorem nan97_any (x : Int) (w : World) : Calls Tryz.prog 216 #[.int .i64 x] w fun e w' => w' = w ∧ e = .returned (.bool false) := by
  go_enter Tryz.func216, Tryz.ntmps216
  go_wp2_with fail
  go_ret
  exact ⟨rfl, by simp⟩
theorem nan89_any (x : Int) (w : World) : Calls Tryz.prog 249 #[.int .i64 x] w fun e w' => w' = w ∧ e = .returned (.bool false) := by
  go_enter Tryz.func249, Tryz.ntmps249
  go_wp2_with fail
  go_ret
  exact ⟨rfl, by simp⟩
theorem less_any (x y : Int) (w : World) : Calls Tryz.prog 248 #[.int .i64 x, .int .i64 y] w fun e w' => w' = w ∧ e = .returned (.bool (decide (x < y))) := by
  go_enter Tryz.func248, Tryz.ntmps248
  go_wp2_with fail
  refine (nan97_any x _).mono ?_
  rintro e w' ⟨rfl, rfl⟩
  go_wp2_with fail
  go_ret
  exact ⟨rfl, by simp⟩
end Go.Proofs.YtpnofkefcoaojaaGreatDoor
set_option maxHeartbeats 4000000
set_option maxRecDepth 100000
namespace Go.Proofs.YtpnofkefcoaojaaGreatDoor
open Go.RowKit
open Go.Lib
def RowAt (w : World) (p : Option Addr) (n : Nat) (ps : Nat → Nat) : Prop := ∀ j, j < n → ∃ g, p = some ⟨g, 0, none⟩ ∧ g < w.heap.size ∧ w.cell? ⟨g, j, none⟩ = some (.int .i64 ((ps j : Nat) : Int))
theorem RowAt.below {w w' : World} {p : Option Addr} {n : Nat} {ps : Nat → Nat} (h : RowAt w p n ps) (hb : Below w.heap.size w w') : RowAt w' p n ps := fun j hj => by
  obtain ⟨g, h1, h2, h3⟩ := h j hj
  exact ⟨g, h1, Nat.lt_of_lt_of_le h2 hb.size, (hb.cell (p := ⟨g, j, none⟩) h2).trans h3⟩
def SearchPost (n : Nat) (ps : Nat → Nat) (t : Nat) (w : World) (e : Ending) (w' : World) : Prop := Below w.heap.size w w' ∧ ∃ (i : Nat) (b : Bool), i ≤ n ∧ (∀ j, j < i → ps j < t) ∧ (∀ j, i ≤ j → j < n → t ≤ ps j) ∧ e = .returned (.tuple #[.int .i64 (i : Int), .bool b])
theorem search_any (p : Option Addr) (n c t : Nat) (ps : Nat → Nat) (w : World) (hn : n ≤ 20000) (ht : t ≤ 20000) (hps : Hid (∀ j, j < n → ps j ≤ 20000)) (hup : Hid (∀ i j, i ≤ j → j < n → ps i ≤ ps j)) (hr : Hid (RowAt w p n ps)) :
    Calls Tryz.prog 223 #[.slice p n c, .int .i64 (t : Int)] w (SearchPost n ps t w) := by
  have hni : (n : Int) ≤ 20000 := by omega
  have hti : (t : Int) ≤ 20000 := by omega
  go_enter Tryz.func223, Tryz.ntmps223
  go_wp2_with fail
  go_loopw [7, 8] (fun iv jv wr => ∃ i j : Nat, iv = .int .i64 i ∧ jv = .int .i64 j ∧ i ≤ j ∧ j ≤ n ∧ Hid ((∀ k, k < i → ps k < t) ∧ (∀ k, j ≤ k → k < n → t ≤ ps k)) ∧ Hid (Below w.heap.size w wr)) (fun iv jv _ => (Go.RowKit.intOf jv).toNat - (Go.RowKit.intOf iv).toNat)
  case atStart => exact ⟨0, n, rfl, rfl, Nat.zero_le _, Nat.le_refl _, Lib.hid ⟨fun k hk => by omega, fun k h1 h2 => by omega⟩, Lib.hid (Below.refl _ _)⟩
  case round =>
    obtain ⟨i, j, rfl, rfl, hij, hjn, HI, HB⟩ := hrel
    have iij : (i : Int) ≤ (j : Int) := by omega
    have ijn : (j : Int) ≤ (n : Int) := by omega
    by_cases hlt : i < j
    · have ilt : (i : Int) < (j : Int) := by omega
      obtain ⟨h, hh⟩ : ∃ h : Nat, ((i : Int) + (j : Int)) / 2 = (h : Int) := ⟨(i + j) / 2, by omega⟩
      have h1 : i ≤ h := by omega
      have h2 : h < j := by omega
      have hhn : (h : Int) < (n : Int) := by omega
      obtain ⟨g, rfl, -, hcell⟩ := hr.out.below HB.out h (by omega)
      obtain ⟨x, HX⟩ : ∃ x, Hid (x = ps h) := ⟨_, rfl⟩
      rw [← HX.out] at hcell
      have hxi : (x : Int) ≤ 20000 := by have := hps.out h (by omega); rw [HX.out]; omega
      have hhi : (h : Int) ≤ 20000 := by omega
      go_wp2_with fail
      refine (less_any (x : Int) (t : Int) _).mono ?_
      rintro e w2 ⟨rfl, rfl⟩
      by_cases hxt : x < t
      · have hxt' : (x : Int) < (t : Int) := by omega
        have HI2 : Hid ((∀ k, k < h + 1 → ps k < t) ∧ (∀ k, j ≤ k → k < n → t ≤ ps k)) := Lib.hid ⟨fun k hk => by
          have := hup.out k h (by omega) (by omega)
          have := HX.out
          omega, HI.out.2⟩
        go_wp2_with fail
        go_roundw
        case rel => exact ⟨h + 1, j, by go_num, rfl, by omega, by omega, HI2, HB⟩
        case measure => simp [Go.RowKit.intOf]; omega
      · have hxt' : ¬ (x : Int) < (t : Int) := by omega
        have HI2 : Hid ((∀ k, k < i → ps k < t) ∧ (∀ k, h ≤ k → k < n → t ≤ ps k)) := Lib.hid ⟨HI.out.1, fun k h1 h2 => by
          have := hup.out h k h1 h2
          have := HX.out
          omega⟩
        go_wp2_with fail
        go_roundw
        case rel => exact ⟨i, h, rfl, rfl, by omega, by omega, HI2, HB⟩
        case measure => simp [Go.RowKit.intOf]; omega
    · have ilt : ¬ (i : Int) < (j : Int) := by omega
      obtain rfl : i = j := by omega
      have hfin : ∀ b, Hid (SearchPost n ps t w (.returned (.tuple #[.int .i64 (i : Int), .bool b])) wr) := fun b => Lib.hid ⟨HB.out, i, b, hjn, HI.out.1, HI.out.2, rfl⟩
      by_cases hin : i < n
      · have hin' : (i : Int) < (n : Int) := by omega
        obtain ⟨g, rfl, -, hcell⟩ := hr.out.below HB.out i (by omega)
        obtain ⟨x, HX⟩ : ∃ x, Hid (x = ps i) := ⟨_, rfl⟩
        rw [← HX.out] at hcell
        have hxi : (x : Int) ≤ 20000 := by have := hps.out i (by omega); rw [HX.out]; omega
        by_cases hxt : (x : Int) = (t : Int)
        · have hb1 : ((x : Int) == (t : Int)) = true := by rw [beq_iff_eq]; exact hxt
          go_wp2_with fail
          go_ret2
          exact (hfin _).out
        · have hb1 : ((x : Int) == (t : Int)) = false := by rw [beq_eq_false_iff_ne]; exact hxt
          go_wp2_with fail
          refine (nan89_any (x : Int) _).mono ?_
          rintro e w2 ⟨rfl, rfl⟩
          go_wp2_with fail
          go_ret2
          exact (hfin _).out
      · have hin' : ¬ (i : Int) < (n : Int) := by omega
        go_wp2_with fail
        go_ret2
        exact (hfin _).out
end Go.Proofs.YtpnofkefcoaojaaGreatDoor
set_option maxHeartbeats 2000000
set_option maxRecDepth 100000
namespace Go.Proofs.YtpnofkefcoaojaaGreatDoor
open Go.RowKit Go.Shelf
open Go.Lib
attribute [local go_sem] Oper.semAt_some
theorem back_in (m : Nat) (p : Option Addr) (len c : Nat) (w : World) :
    CallsIn Fence.wide m Tryz.prog 224 #[.slice p len c] w fun e w' => e = .returned (.func (.func 250) #[] #[.pointer (some ⟨w.heap.size, 0, none⟩)]) ∧ w' = w.alloc (.cells #[.slice p len c] 194) := by
  refine callsIn_of_wp Tryz.func224 rfl trivial ?_ rfl
  simp only [Tryz.ntmps224, List.size_toArray, List.length_cons, List.length_nil, Nat.reduceAdd, Nat.reduceSub, Array.replicate_succ, Array.replicate_zero, List.push_toArray, List.append_toArray, List.nil_append, List.cons_append]
  gi_wp2
  go_ret
  exact ⟨rfl, rfl⟩
abbrev bkE (ps : Nat → Nat) (n : Nat) (x : Pl n) : Array Value := #[.int .i64 ((n - 1 - x.1 : Nat) : Int), .int .i64 ((ps (n - 1 - x.1) : Nat) : Int)]
def RowN (N : Nat) (w : World) (p : Option Addr) (n : Nat) (ps : Nat → Nat) : Prop := ∀ j, j < n → ∃ g, p = some ⟨g, 0, none⟩ ∧ g < N ∧ w.cell? ⟨g, j, none⟩ = some (.int .i64 ((ps j : Nat) : Int))
theorem RowN.keep {N : Nat} {w w' : World} {p : Option Addr} {n : Nat} {ps : Nat → Nat} (h : RowN N w p n ps) (hb : Below N w w') : RowN N w' p n ps := fun j hj => by
  obtain ⟨g, h1, h2, h3⟩ := h j hj
  exact ⟨g, h1, h2, (hb.cell (p := ⟨g, j, none⟩) h2).trans h3⟩
theorem it90_in (m : Nat) (hm : 1 ≤ m) (lr Bb N0 n c : Nat) (p : Option Addr) (ps : Nat → Nat) (hn : n ≤ 20000) (hps : Hid (∀ j, j < n → ps j ≤ 20000)) (J Jx : List (Pl n) → World → Prop)
    (hY : ∀ pre x W, J pre W → pre.length < n → YieldAt Fence.wide (m - 1) Tryz.prog lr (bkE ps n x) W fun e W' =>
      (e = .returned (.bool true) ∧ J (pre ++ [x]) W' ∧ Keep3 N0 Bb Bb W W') ∨ (e = .returned (.bool false) ∧ Jx (pre ++ [x]) W'))
    (W : World) (hBb : W.cell? ⟨Bb, 0, none⟩ = some (.slice p n c)) (hr : RowN N0 W p n ps) (h0 : J [] W) :
    CallsIn Fence.wide m Tryz.prog 250 #[.func (.yield lr) #[] #[], .pointer (some ⟨Bb, 0, none⟩)] W fun e W' => (∃ v, e = .returned v) ∧
      ((∃ ys, ys.map (·.1) = List.range n ∧ J ys W') ∨ (∃ pre, pre.map (·.1) = List.range pre.length ∧ Jx pre W')) := by
  have hni : (n : Int) ≤ 20000 := by omega
  have HR := Lib.hid hr
  clear hr
  refine callsIn_of_wp Tryz.func250 rfl trivial ?_ rfl
  simp only [Tryz.ntmps250, List.size_toArray, List.length_cons, List.length_nil, Nat.reduceAdd, Nat.reduceSub, Array.replicate_succ, Array.replicate_zero, List.push_toArray, List.append_toArray, List.nil_append, List.cons_append]
  gi_wp2
  have HJ0 := Lib.hid h0
  gi_loopw [3] (fun tv wr => ∃ (t : Int) (i : Nat) (pre : List (Pl n)), i ≤ n ∧ tv = .int .i64 t ∧ t = (n : Int) - 1 - (i : Int) ∧ Hid (pre.map (·.1) = List.range i) ∧ Hid (J pre wr) ∧ Hid (Keep3 N0 Bb Bb W wr)) (fun tv _ => (intOf tv + 1).toNat)
  case atStart => exact ⟨_, 0, [], Nat.zero_le _, rfl, by simp, rfl, HJ0, Lib.hid (Keep3.refl _ _ _ _)⟩
  case round =>
    obtain ⟨t, i, pre, hin, rfl, ht, HP, HJ, HB⟩ := hrel
    have hcb := HB.out.c1.trans hBb
    by_cases hilt : i < n
    · obtain ⟨k, HK⟩ : ∃ k, Hid (k = n - 1 - i) := ⟨_, rfl⟩
      obtain rfl : t = (k : Int) := by rw [ht, HK.out]; omega
      clear ht
      have hkn : (k : Int) < (n : Int) := by rw [HK.out]; omega
      have hk0 : 0 ≤ (k : Int) := by omega
      obtain ⟨g, rfl, -, hcell⟩ := HR.out.keep HB.out.1 k (by omega)
      obtain ⟨x, HX⟩ : ∃ x, Hid (x = ps k) := ⟨_, rfl⟩
      rw [← HX.out] at hcell
      have hxi : (x : Int) ≤ 20000 := by have := hps.out k (by omega); rw [HX.out]; omega
      have hpl : pre.length = i := by
        have h := congrArg List.length HP.out
        rw [List.length_map, List.length_range] at h; omega
      obtain ⟨fn, tmps, assign, body, hy, hRo⟩ := hY pre ⟨i, hilt⟩ wr HJ.out (by omega)
      have hy2 : (Instr.yield lr #[.int .i64 (k : Int), .int .i64 (x : Int)]).run Tryz.prog wr = .ok (.round lr fn tmps assign body) wr := by
        rw [HX.out, HK.out]; exact hy
      have HPX : Hid ((pre ++ [(⟨i, hilt⟩ : Pl n)]).map (fun y => y.1) = List.range (pre ++ [(⟨i, hilt⟩ : Pl n)]).length) := Lib.hid (by rw [List.length_append, hpl, List.map_append, HP.out]; exact List.range_succ.symm)
      clear hy hpl
      gi_wp2
      refine hRo.mono ?_
      rintro e W3 (⟨rfl, hJ3, hk3⟩ | ⟨rfl, hJx3⟩)
      · have HB3 := Lib.hid (HB.out.trans hk3)
        have HJ3 := Lib.hid hJ3
        clear hJ3 hk3 hy2
        gi_wp2
        go_roundw
        case rel => exact ⟨(k : Int) - 1, i + 1, pre ++ [⟨i, hilt⟩], by omega, by go_num, by have := HK.out; omega, Lib.hid (by rw [List.map_append, HP.out, List.range_succ]; rfl), HJ3, HB3⟩
        case measure => simp [intOf]
      · gi_wp2
        refine bodyPost_ret (results_none rfl _ _ _) rfl ?_
        exact ⟨⟨_, rfl⟩, .inr ⟨_, HPX.out, hJx3⟩⟩
    · obtain rfl : i = n := by omega
      obtain rfl : t = -1 := by omega
      gi_wp2
      go_end0
      exact ⟨⟨_, rfl⟩, .inl ⟨pre, HP.out, HJ.out⟩⟩
theorem back_stops (m : Nat) (hm : 1 ≤ m) (Bb N0 n c : Nat) (p : Option Addr) (ps : Nat → Nat) (hn : n ≤ 20000) (hps : Hid (∀ j, j < n → ps j ≤ 20000)) (w : World) (hN : N0 ≤ w.heap.size) (hB : Bb < w.heap.size)
    (hBb : w.cell? ⟨Bb, 0, none⟩ = some (.slice p n c)) (hr : RowN N0 w p n ps) :
    SeqStopsK Fence.wide m Tryz.prog 250 #[.pointer (some ⟨Bb, 0, none⟩)] (bkE ps n) (Keep3 N0 Bb Bb) (fun ys => ys.map (·.1) = List.range n) (fun pre => pre.map (·.1) = List.range pre.length) n w := fun lr J Jx W hW _ _ hY h0 =>
  it90_in m hm lr Bb N0 n c p ps hn hps J Jx hY W ((hW.cell (p := ⟨Bb, 0, none⟩) hB).trans hBb) (hr.keep (hW.mono hN)) h0
end Go.Proofs.YtpnofkefcoaojaaGreatDoor
