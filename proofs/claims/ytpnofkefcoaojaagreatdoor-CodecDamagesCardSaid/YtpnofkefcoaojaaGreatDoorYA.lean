/- The sanity check: Put of three values. -/
import Derived.Test.YtpnofkefcoaojaaGreatDoorKB
import Derived.BigQuiet
import Derived.Deep.RegionHeld3
import Derived.Test.YtpnofkefcoaojaaGreatDoorKC
import Derived.Deep.QuietTactic
import Derived.Test.YtpnofkefcoaojaaGreatDoorQA
set_option maxHeartbeats 1600000
set_option maxRecDepth 100000
namespace Go.Proofs.YtpnofkefcoaojaaGreatDoor
open Go.RowKit
open Go.Lib
def saneL : Nat → List UInt8
  | 0 => [0]
  | 1 => [1, 0, 1]
  | 2 => [1, 0, 1, 0, 0]
  | _ => [5, 0, 1, 0, 0, 255, 254]
structure PutAt (w : World) (k : Nat) (wr : World) (v : Value) : Prop where
  own : wr.ownsRow w.heap.size 5 1 v (saneL k).length (ubs (saneL k))
  below : Below w.heap.size w wr
theorem presence_three (w : World) : Calls Tryz.prog 75 #[.int .i64 3] w fun e w' => e = .returned (.int .i64 1) ∧ w = w' :=
  (presence_any 3 (by omega) w).mono fun _ _ ⟨h, h2⟩ => ⟨h, h2⟩
theorem PutAt.next {w W w' : World} {v v' : Value} {k : Nat} (hB : Below w.heap.size w W) (hv : ∀ j, v.ownBlock = some j → w.heap.size ≤ j) (hg : Grew w.heap.size W v (saneL k) w' v') : PutAt w k w' v' :=
  ⟨hg.own, hB.grown hg.grown hB.size hv⟩
theorem be_one : be 2 1 = [0, 1] := by decide
theorem be_nul : be 2 0 = [0, 0] := by decide
theorem be_two : be 2 18446744073709551614 = [255, 254] := by decide
theorem wrap_two : IntKind.u64.wrap (-2) = ((18446744073709551614 : Nat) : Int) := by rw [IntKind.wrap_u64]; rfl
theorem or_a : bits .or .u8 0 1 = 1 := by decide
theorem or_c : bits .or .u8 1 4 = 5 := by decide
theorem made1 : ubs (saneL 0) = (madeCells #[Value.int .u8 0] 1).toList := by kernel_rfl
theorem put_three (p : Option Addr) (c : Nat) (w : World) (hs : Ss w p [[49], [], [45, 50]]) (he : Env w) :
    Calls Tryz.prog 34 #[.int .i64 2, .slice p 3 c] w fun e w' => ∃ v, e = .returned (.tuple #[v, .int .i64 0]) ∧ PutAt w 3 w' v := by
  have HC := Lib.hid (checkValues_two p c [[49], [], [45, 50]] w (by simp) hs (by
    intro k hk
    have : k = 0 ∨ k = 1 ∨ k = 2 := by simp at hk; omega
    rcases this with rfl | rfl | rfl
    · exact fit_a
    · exact fit_b
    · exact fit_c) he)
  have HS := Lib.hid hs
  have HV := Lib.hid he
  clear hs he
  obtain ⟨i0, hi, hz0, hz1, hz2⟩ := info_parts infoB5
  go_enter Tryz.func34, Tryz.ntmps34
  go_wp2_with fail
  refine (HC.out).mono ?_
  rintro e w1 ⟨rfl, hb1⟩
  have HB1 := Lib.hid hb1
  clear hb1
  go_wp2_with fail
  refine (presence_three _).mono ?_
  rintro e w' ⟨rfl, rfl⟩
  go_wp2_with (at_make; refine wpList_make_full _ rfl _ _ 39 rfl w.heap.size 5 i0 (.int .u8 0) 1 Tryz.underlying39 hi hz0 hz1 _ _ _ _ 1 rfl rfl (by rfl) (by rfl) ?b2 ?b3 HB1.out.size ?_)
  case b2 => rw [hz2]; omega
  case b3 => unfold maxLen; omega
  intro w2 hown hgrow
  have HP : Hid (PutAt w 0 w2 (.slice (some ⟨w1.heap.size, 0, none⟩) 1 1)) := Lib.hid ⟨(by rw [show ubs (saneL 0) = (madeCells #[Value.int .u8 0] 1).toList from made1]; exact hown), HB1.out.grown hgrow HB1.out.size (fun k h => by cases h)⟩
  clear hown hgrow
  go_wp2_with fail
  go_loopw [7, 22] (fun v i wr => ∃ (k : Nat) (z : Int), k ≤ 3 ∧ z = k ∧ i = .int .i64 z ∧ Hid (PutAt w k wr v)) (fun _ i _ => 3 - (intOf i).toNat)
  case atStart => exact ⟨0, 0, Nat.zero_le _, rfl, rfl, HP⟩
  case round =>
    obtain ⟨k, z, hk, hz, rfl, HK⟩ := hrel
    have hk4 : k = 0 ∨ k = 1 ∨ k = 2 ∨ k = 3 := by omega
    rcases hk4 with rfl | rfl | rfl | rfl
    · obtain rfl : z = 0 := hz
      obtain ⟨b1, o1, x, rfl, hb1, hc1, hx⟩ := (HS.out.below HK.out.below).at (k := 0) (by simp)
      obtain rfl : x = [49] := hx.out.symm
      rw [Nat.add_zero] at hc1
      obtain ⟨g, cap, hv5, hcap, hg, hgl, hcell, hfree, hset⟩ := own_set HK.out.own (by simp [saneL])
      rw [show (saneL 0).length = 1 from rfl] at hv5 hcap
      subst hv5
      have gc : wr.cell? ⟨g, 0, none⟩ = some (.int .u8 0) := hcell 0 (by simp [saneL])
      have gf : wr.frozen? ⟨g, 0, none⟩ = false := hfree 0
      have hw : ((wr.setCell ⟨g, 0, none⟩ (.int .u8 1)).drew).ownsRow w.heap.size 5 1 (.slice (some ⟨g, 0, none⟩) 1 cap) 1 (ubs ((saneL 0).set 0 1)) := hset 0 1 (by simp [saneL])
      have HB2 : Hid (Below w.heap.size w ((wr.setCell ⟨g, 0, none⟩ (.int .u8 1)).drew)) := Lib.hid ((HK.out.below.setCell hg _).drew)
      have HA : Hid (Calls Tryz.prog 77 #[.slice (some ⟨g, 0, none⟩) 1 cap, .string ⟨#[49]⟩, .int .i64 2] ((wr.setCell ⟨g, 0, none⟩ (.int .u8 1)).drew) (App w.heap.size ((wr.setCell ⟨g, 0, none⟩ (.int .u8 1)).drew) (.slice (some ⟨g, 0, none⟩) 1 cap) (saneL 1))) := Lib.hid (by
        have := appendInteger_ok w.heap.size _ ((saneL 0).set 0 1) [49] 1 1 2 _ (by omega) (by simp [saneL]) HB2.out.size hw (by simp) pi_a (by rw [IntKind.wrap_u64]; rfl) (by omega)
        rw [be_one] at this; exact this)
      have hor := or_a
      clear hcell hfree hset hk hw
      go_wp2_with fail
      go_region
      clear hor
      go_wp2_with fail
      refine (width_two _).mono ?_
      rintro e w' ⟨rfl, rfl⟩
      go_wp2_with fail
      refine (HA.out).mono ?_
      rintro e w3 ⟨v3, rfl, hg3⟩
      have HP3 := Lib.hid (PutAt.next HB2.out (by intro j hj; cases hj; exact hg) hg3)
      clear hg3
      go_wp2_with fail
      go_roundw
      case rel => exact ⟨1, 1, by omega, rfl, rfl, HP3⟩
      case measure => simp [intOf]
    · obtain rfl : z = 1 := hz
      obtain ⟨b1, o1, x, rfl, hb1, hc1, hx⟩ := (HS.out.below HK.out.below).at (k := 1) (by simp)
      obtain rfl : x = [] := hx.out.symm
      obtain ⟨g, cap, hv5, hcap, hg, hgl, hcell, hfree, hset⟩ := own_set HK.out.own (by simp [saneL])
      rw [show (saneL 1).length = 3 from rfl] at hv5 hcap
      subst hv5
      have HA : Hid (Calls Tryz.prog 77 #[.slice (some ⟨g, 0, none⟩) 3 cap, .string ⟨#[]⟩, .int .i64 2] wr (App w.heap.size wr (.slice (some ⟨g, 0, none⟩) 3 cap) (saneL 2))) := Lib.hid (by
        have := appendInteger_bad w.heap.size _ (saneL 1) [] 2 wr (by omega) (by simp [saneL]) HK.out.below.size HK.out.own (by simp) rfl (HV.out.below HK.out.below)
        rw [be_nul] at this; exact this)
      have HB2 := Lib.hid HK.out.below
      clear hcell hfree hset hk
      go_wp2_with fail
      refine (width_two _).mono ?_
      rintro e w' ⟨rfl, rfl⟩
      go_wp2_with fail
      refine (HA.out).mono ?_
      rintro e w3 ⟨v3, rfl, hg3⟩
      have HP3 := Lib.hid (PutAt.next HB2.out (by intro j hj; cases hj; exact hg) hg3)
      clear hg3
      go_wp2_with fail
      go_roundw
      case rel => exact ⟨2, 2, by omega, rfl, rfl, HP3⟩
      case measure => simp [intOf]
    · obtain rfl : z = 2 := hz
      obtain ⟨b1, o1, x, rfl, hb1, hc1, hx⟩ := (HS.out.below HK.out.below).at (k := 2) (by simp)
      obtain rfl : x = [45, 50] := hx.out.symm
      obtain ⟨g, cap, hv5, hcap, hg, hgl, hcell, hfree, hset⟩ := own_set HK.out.own (by simp [saneL])
      rw [show (saneL 2).length = 5 from rfl] at hv5 hcap
      subst hv5
      have gc : wr.cell? ⟨g, 0, none⟩ = some (.int .u8 1) := hcell 0 (by simp [saneL])
      have gf : wr.frozen? ⟨g, 0, none⟩ = false := hfree 0
      have hw : ((wr.setCell ⟨g, 0, none⟩ (.int .u8 5)).drew).ownsRow w.heap.size 5 1 (.slice (some ⟨g, 0, none⟩) 5 cap) 5 (ubs ((saneL 2).set 0 5)) := hset 0 5 (by simp [saneL])
      have HB2 : Hid (Below w.heap.size w ((wr.setCell ⟨g, 0, none⟩ (.int .u8 5)).drew)) := Lib.hid ((HK.out.below.setCell hg _).drew)
      have HA : Hid (Calls Tryz.prog 77 #[.slice (some ⟨g, 0, none⟩) 5 cap, .string ⟨#[45, 50]⟩, .int .i64 2] ((wr.setCell ⟨g, 0, none⟩ (.int .u8 5)).drew) (App w.heap.size ((wr.setCell ⟨g, 0, none⟩ (.int .u8 5)).drew) (.slice (some ⟨g, 0, none⟩) 5 cap) (saneL 3))) := Lib.hid (by
        have := appendInteger_ok w.heap.size _ ((saneL 2).set 0 5) [45, 50] (-2) 18446744073709551614 2 _ (by omega) (by simp [saneL]) HB2.out.size hw (by simp) pi_c wrap_two (by omega)
        rw [be_two] at this; exact this)
      have hor := or_c
      clear hcell hfree hset hk hw
      go_wp2_with fail
      go_region
      clear hor
      go_wp2_with fail
      refine (width_two _).mono ?_
      rintro e w' ⟨rfl, rfl⟩
      go_wp2_with fail
      refine (HA.out).mono ?_
      rintro e w3 ⟨v3, rfl, hg3⟩
      have HP3 := Lib.hid (PutAt.next HB2.out (by intro j hj; cases hj; exact hg) hg3)
      clear hg3
      go_wp2_with fail
      go_roundw
      case rel => exact ⟨3, 3, by omega, rfl, rfl, HP3⟩
      case measure => simp [intOf]
    · obtain rfl : z = 3 := hz
      go_wp2_with fail
      go_ret2
      exact ⟨_, rfl, HK.out⟩
end Go.Proofs.YtpnofkefcoaojaaGreatDoor
set_option maxHeartbeats 1600000
set_option maxRecDepth 100000
namespace Go.Proofs.YtpnofkefcoaojaaGreatDoor
open Go.RowKit
open Go.Lib
theorem three_cells (w : World) : Ss (w.alloc (.cells #[.string ⟨#[49]⟩, .string ⟨#[]⟩, .string ⟨#[45, 50]⟩] 9)) (some ⟨w.heap.size, 0, none⟩) [[49], [], [45, 50]] := by
  refine .inr ⟨w.heap.size, 0, rfl, by simp, fun j hj => ?_⟩
  have : j = 0 ∨ j = 1 ∨ j = 2 := by simp at hj; omega
  unfold World.cell?
  rw [heap_alloc_new]
  rcases this with rfl | rfl | rfl <;> rfl
theorem sane_any (w : World) (he : Env w) : Calls Tryz.prog 10 #[] w fun e w' => e = .returned (.bool true) ∧ Below w.heap.size w w' := by
  have hB0 : Below w.heap.size w (w.alloc (.cells #[.string ⟨#[49]⟩, .string ⟨#[]⟩, .string ⟨#[45, 50]⟩] 9)) := (Below.refl _ _).alloc (Nat.le_refl _) _
  have HP := Lib.hid (put_three (some ⟨w.heap.size, 0, none⟩) 3 _ (three_cells w) (he.below hB0))
  have HB0 := Lib.hid hB0
  clear he hB0
  go_enter Tryz.func10, Tryz.ntmps10
  go_wp2_with fail
  refine (HP.out).mono ?_
  rintro e w1 ⟨v, rfl, hp⟩
  have HB1 := Lib.hid (HB0.out.trans (hp.below.mono (by simp)))
  obtain ⟨g, cap, hv5, hcap, hg, hgl, hcell, hfree, hset⟩ := own_set hp.own (by simp [saneL])
  rw [show (saneL 3).length = 7 from rfl] at hv5 hcap
  subst hv5
  have g0 : w1.cell? ⟨g, 0, none⟩ = some (.int .u8 5) := hcell 0 (by simp [saneL])
  have g2 : w1.cell? ⟨g, 2, none⟩ = some (.int .u8 1) := hcell 2 (by simp [saneL])
  have g5 : w1.cell? ⟨g, 5, none⟩ = some (.int .u8 255) := hcell 5 (by simp [saneL])
  have g6 : w1.cell? ⟨g, 6, none⟩ = some (.int .u8 254) := hcell 6 (by simp [saneL])
  clear hcell hfree hset hp
  go_wp2_with fail
  go_ret
  exact ⟨rfl, HB1.out⟩
end Go.Proofs.YtpnofkefcoaojaaGreatDoor
set_option maxHeartbeats 2000000
set_option maxRecDepth 100000
namespace Go.Proofs.YtpnofkefcoaojaaGreatDoor
open Go.RowKit
open Go.Lib
theorem add_lit (b off j : Nat) : (⟨b, off, none⟩ : Addr).add j = ⟨b, off + j, none⟩ := by
  cases j <;> simp [Addr.add]
theorem conv_bytes (w : World) (p : Option Addr) (c : Nat) (l : List UInt8) (h : Bs w p l) : (convert 39 9 (.slice p l.length c)).run Tryz.prog w = .ok (.string ⟨l.toArray⟩) w := by
  rcases h with h0 | ⟨b, off, rfl, hb, hc⟩
  · obtain rfl := List.eq_nil_of_length_eq_zero h0
    cases p with
    | some a => exact run_convert_bytes_back w 39 9 5 a c [] Tryz.underlying39 Tryz.underlying5 Tryz.underlying9 (fun j hj => by simp at hj)
    | none =>
      show (convert 39 9 (.slice none 0 c)).run Tryz.prog w = _
      rw [run_convert_bytes_string w 39 9 5 none 0 c Tryz.underlying39 Tryz.underlying5 Tryz.underlying9]
      simp [Conv.bytesToString]
      try rfl
  · refine run_convert_bytes_back w 39 9 5 ⟨b, off, none⟩ c l Tryz.underlying39 Tryz.underlying5 Tryz.underlying9 (fun j hj => ?_)
    rw [add_lit, hc j hj, List.getD_eq_getElem?_getD, List.getElem?_eq_getElem hj]; rfl
def longT (xs : List (List UInt8)) : Bool := decide (100 < xs.length) || xs.any (fun x => decide (200 < x.length))
theorem long_any (p : Option Addr) (c n : Nat) (xs : List (List UInt8)) (w : World) (hx : Hid (xs.length = n)) (hs : Ss w p xs) :
    Calls Tryz.prog 17 #[.slice p n c] w fun e w' => e = .returned (.bool (longT xs)) ∧ w = w' := by
  have HS := Lib.hid hs
  obtain ⟨v, HV⟩ : ∃ v, Hid (longT xs = v) := ⟨_, rfl⟩
  rw [HV.out]
  clear hs
  by_cases h100 : 100 < n
  · have h1 : (100 : Int) < (n : Int) := by omega
    obtain rfl : v = true := by rw [← HV.out]; unfold longT; rw [decide_eq_true (by rw [hx.out]; exact h100)]; rfl
    go_enter Tryz.func17, Tryz.ntmps17
    go_wp2_with fail
    go_ret
    exact ⟨rfl, rfl⟩
  have h1 : ¬ (100 : Int) < (n : Int) := by omega
  have hni : (n : Int) ≤ 100 := by omega
  have HYES : Hid (∀ j, j < n → 200 < (xs.getD j []).length → v = true) := Lib.hid (fun j hj h => by
    rw [← HV.out]; unfold longT
    rw [Bool.or_eq_true]
    have hj2 : j < xs.length := by rw [hx.out]; exact hj
    rw [List.getD_eq_getElem?_getD, List.getElem?_eq_getElem hj2] at h
    exact .inr (List.any_eq_true.2 ⟨_, List.getElem_mem hj2, decide_eq_true h⟩))
  have HNO : Hid ((∀ j, j < n → ¬ 200 < (xs.getD j []).length) → v = false) := Lib.hid (fun h => by
    rw [← HV.out]; unfold longT
    rw [decide_eq_false (by rw [hx.out]; exact h100), Bool.false_or, List.any_eq_false]
    intro x hx2
    obtain ⟨j, hj, rfl⟩ := List.getElem_of_mem hx2
    have := h j (by rw [← hx.out]; exact hj)
    rw [List.getD_eq_getElem?_getD, List.getElem?_eq_getElem hj] at this
    simpa using this)
  go_enter Tryz.func17, Tryz.ntmps17
  go_wp2_with fail
  go_loopw [3] (fun iv wr => ∃ i : Nat, i ≤ n ∧ iv = .int .i64 i ∧ w = wr ∧ Hid (∀ j, j < i → ¬ 200 < (xs.getD j []).length)) (fun iv _ => n - (intOf iv).toNat)
  case atStart => exact ⟨0, Nat.zero_le _, rfl, rfl, Lib.hid (fun j hj => by omega)⟩
  case round =>
    obtain ⟨i, hi, rfl, rfl, HA⟩ := hrel
    have ii : (i : Int) ≤ (n : Int) := by omega
    by_cases hlt : i < n
    · have ilt : (i : Int) < (n : Int) := by omega
      obtain ⟨b1, o1, x, e1, -, hc1, hx1⟩ := HS.out.at (k := i) (by rw [hx.out]; exact hlt)
      subst e1
      obtain ⟨m, HM⟩ : ∃ m, Hid (x.length = m) := ⟨_, rfl⟩
      have hsz : (⟨x.toArray⟩ : ByteArray).size = m := by rw [← ByteArray.size_data]; simpa using HM.out
      obtain ⟨X, HX⟩ : ∃ X : ByteArray, Hid (⟨x.toArray⟩ = X) := ⟨_, rfl⟩
      rw [HX.out] at hc1 hsz
      by_cases h2 : 200 < m
      · have h3 : (200 : Int) < (m : Int) := by omega
        obtain rfl : v = true := HYES.out i hlt (by rw [hx1.out, HM.out]; exact h2)
        go_wp2_with fail
        go_ret
        exact ⟨rfl, by first | rfl | trivial⟩
      · have h3 : ¬ (200 : Int) < (m : Int) := by omega
        have HA2 : Hid (∀ j, j < i + 1 → ¬ 200 < (xs.getD j []).length) := Lib.hid (fun j hj => by
          by_cases e : j = i
          · rw [e, hx1.out, HM.out]; exact h2
          · exact HA.out j (by omega))
        go_wp2_with fail
        go_roundw
        case rel => exact ⟨i + 1, by omega, by go_num, by first | rfl | trivial, HA2⟩
        case measure => simp [intOf]; omega
    · obtain rfl : i = n := by omega
      have ilt : ¬ (i : Int) < (i : Int) := by omega
      obtain rfl : v = false := HNO.out HA.out
      go_wp2_with fail
      go_ret
      exact ⟨rfl, by first | rfl | trivial⟩
end Go.Proofs.YtpnofkefcoaojaaGreatDoor
namespace Go.Proofs.YtpnofkefcoaojaaGreatDoor
open Go.RowKit
open Go.Lib
theorem heap_put (W : World) (g k : Nat) (v : Value) (cs : Array Value) (t : TypeId) (h : W.heap[g]? = some (.cells cs t (0, 0))) : (W.setCell ⟨g, k, none⟩ v).heap[g]? = some (.cells (cs.setIfInBounds k v) t (0, 0)) := by
  obtain ⟨h1, h2⟩ := Array.getElem?_eq_some_iff.1 h
  unfold World.setCell
  rw [Array.getElem?_eq_getElem (by simpa using h1), Array.getElem_modify]
  simp [h2]
def Vals (W : World) (V n i : Nat) (xs : List (List UInt8)) : Prop := ∃ cs : Array Value, W.heap[V]? = some (.cells cs 9 (0, 0)) ∧ cs.size = n ∧ ∀ j, j < n → cs[j]? = some (.string (if j < i then ⟨(xs.getD j []).toArray⟩ else ⟨#[]⟩))
theorem Vals.put {W : World} {V n i : Nat} {xs : List (List UInt8)} (h : Vals W V n i xs) (hi : i < n) : Vals (W.setCell ⟨V, i, none⟩ (.string ⟨(xs.getD i []).toArray⟩)) V n (i + 1) xs := by
  obtain ⟨cs, h1, h2, h3⟩ := h
  refine ⟨_, heap_put W V i _ _ _ h1, by simp [h2], fun j hj => ?_⟩
  rw [Array.getElem?_setIfInBounds]
  by_cases e : i = j
  · subst e
    rw [if_pos rfl, if_pos (by rw [h2]; exact hi), if_pos (Nat.lt_succ_self _)]
  · rw [if_neg e, h3 j hj]
    congr 2
    by_cases h4 : j < i
    · rw [if_pos h4, if_pos (by omega)]
    · rw [if_neg h4, if_neg (by omega)]
theorem Vals.keep {W W' : World} {V n i : Nat} {xs : List (List UInt8)} (h : Vals W V n i xs) (e : W'.heap[V]? = W.heap[V]?) : Vals W' V n i xs := by
  obtain ⟨cs, h1, h2⟩ := h
  exact ⟨cs, e.trans h1, h2⟩
theorem Vals.reads {W : World} {V n : Nat} {xs : List (List UInt8)} (h : Vals W V n n xs) (hx : xs.length = n) : Ss W (some ⟨V, 0, none⟩) xs := by
  obtain ⟨cs, h1, h2, h3⟩ := h
  refine .inr ⟨V, 0, rfl, (Array.getElem?_eq_some_iff.1 h1).1, fun j hj => ?_⟩
  have h4 := h3 j (by omega)
  rw [if_pos (by omega)] at h4
  rw [Nat.zero_add]
  simp [World.cell?, h1, h4]
theorem Vals.old {W : World} {V n i : Nat} {xs : List (List UInt8)} (h : Vals W V n i xs) (hi : i < n) : W.cell? ⟨V, i, none⟩ = some (.string ⟨#[]⟩) ∧ W.frozen? ⟨V, i, none⟩ = false := by
  obtain ⟨cs, h1, h2, h3⟩ := h
  have h4 := h3 i hi
  rw [if_neg (by omega)] at h4
  exact ⟨by simp [World.cell?, h1, h4], by simp [World.frozen?, h1]⟩
theorem infoS9 : (Tryz.prog.info? 9).map (fun i => (i.zero, i.size, i.bytes)) = some (some (.string ⟨#[]⟩), 1, 16) := by kernel_rfl
theorem make_vals (n : Nat) (hn : n ≤ 10000) : ∃ Z : Array Value, (Z.size = n ∧ ∀ j, j < n → Z[j]? = some (.string ⟨#[]⟩)) ∧ ∀ W, (Instr.makeSlice 30 (.int .i64 (n : Int)) (.int .i64 (n : Int))).run Tryz.prog W = .ok (.slice (some ⟨W.heap.size, 0, none⟩) n n) (W.alloc (.cells Z 9)) := by
  obtain ⟨i0, hi, hz0, hz1, hz2⟩ := info_parts infoS9
  refine ⟨madeCells (Value.cells (.string ⟨#[]⟩)) (n * 1), ⟨by rw [size_madeCells, Nat.mul_one], fun j hj => by simp [madeCells, Value.cells, Nat.mod_one, hj]⟩, fun W => ?_⟩
  have h := run_make (P := Tryz.prog) W 30 9 i0 (.string ⟨#[]⟩) Tryz.underlying30 hi hz0 .i64 .i64 (n : Int) (n : Int) (by omega) (by omega) (by rw [hz2]; omega) (by omega)
  rw [hz1, Int.toNat_natCast] at h
  exact h
end Go.Proofs.YtpnofkefcoaojaaGreatDoor
set_option maxHeartbeats 2000000
set_option maxRecDepth 100000
namespace Go.Proofs.YtpnofkefcoaojaaGreatDoor
open Go.RowKit
open Go.Lib
abbrev Sg := Int × Int × List UInt8
def RdG (w : World) (p : Option Addr) (l : List Sg) : Prop := l.length = 0 ∨ ∃ b off, p = some ⟨b, off, none⟩ ∧ b < w.heap.size ∧ ∀ j, j < l.length → w.cell? ⟨b, off + j * 3, none⟩ = some (.int .i64 (l.getD j (0, 0, [])).1) ∧ w.cell? ⟨b, off + j * 3 + 1, none⟩ = some (.int .i64 (l.getD j (0, 0, [])).2.1) ∧ w.cell? ⟨b, off + j * 3 + 2, none⟩ = some (.string ⟨(l.getD j (0, 0, [])).2.2.toArray⟩)
theorem RdG.below {w w' : World} {p : Option Addr} {l : List Sg} (h : RdG w p l) (hb : Below w.heap.size w w') : RdG w' p l := h.imp id fun ⟨b, off, h1, h2, h3⟩ =>
  ⟨b, off, h1, Nat.lt_of_lt_of_le h2 hb.size, fun j hj => ⟨(hb.cell (p := ⟨b, off + j * 3, none⟩) h2).trans (h3 j hj).1, (hb.cell (p := ⟨b, off + j * 3 + 1, none⟩) h2).trans (h3 j hj).2.1, (hb.cell (p := ⟨b, off + j * 3 + 2, none⟩) h2).trans (h3 j hj).2.2⟩⟩
theorem RdG.at {w : World} {p : Option Addr} {l : List Sg} (h : RdG w p l) {k : Nat} (hk : k < l.length) : ∃ b off x y z, p = some ⟨b, off, none⟩ ∧ b < w.heap.size ∧ w.cell? ⟨b, off + k * 3, none⟩ = some (.int .i64 x) ∧ w.cell? ⟨b, off + k * 3 + 1, none⟩ = some (.int .i64 y) ∧ w.cell? ⟨b, off + k * 3 + 2, none⟩ = some (.string ⟨(z : List UInt8).toArray⟩) ∧ Hid (l.getD k (0, 0, []) = (x, y, z)) := by
  rcases h with h0 | ⟨b, off, h1, h2, h3⟩
  · omega
  · exact ⟨b, off, _, _, _, h1, h2, (h3 k hk).1, (h3 k hk).2.1, (h3 k hk).2.2, Lib.hid rfl⟩
def steepT (l : List Sg) : Bool := decide (10 < l.length) || l.any (fun x => decide (200 < x.2.2.length))
theorem steep_any (p : Option Addr) (c n : Nat) (l : List Sg) (w : World) (hx : Hid (l.length = n)) (hs : RdG w p l) :
    Calls Tryz.prog 9 #[.slice p n c] w fun e w' => e = .returned (.bool (steepT l)) ∧ w = w' := by
  have HS := Lib.hid hs
  obtain ⟨v, HV⟩ : ∃ v, Hid (steepT l = v) := ⟨_, rfl⟩
  rw [HV.out]
  clear hs
  by_cases h10 : 10 < n
  · have h1 : (10 : Int) < (n : Int) := by omega
    obtain rfl : v = true := by rw [← HV.out]; unfold steepT; rw [decide_eq_true (by rw [hx.out]; exact h10)]; rfl
    go_enter Tryz.func9, Tryz.ntmps9
    go_wp2_with fail
    go_ret
    exact ⟨rfl, rfl⟩
  have h1 : ¬ (10 : Int) < (n : Int) := by omega
  have hni : (n : Int) ≤ 10 := by omega
  have HYES : Hid (∀ j, j < n → 200 < (l.getD j (0, 0, [])).2.2.length → v = true) := Lib.hid (fun j hj h => by
    rw [← HV.out]; unfold steepT
    rw [Bool.or_eq_true]
    have hj2 : j < l.length := by rw [hx.out]; exact hj
    rw [List.getD_eq_getElem?_getD, List.getElem?_eq_getElem hj2] at h
    exact .inr (List.any_eq_true.2 ⟨_, List.getElem_mem hj2, decide_eq_true h⟩))
  have HNO : Hid ((∀ j, j < n → ¬ 200 < (l.getD j (0, 0, [])).2.2.length) → v = false) := Lib.hid (fun h => by
    rw [← HV.out]; unfold steepT
    rw [decide_eq_false (by rw [hx.out]; exact h10), Bool.false_or, List.any_eq_false]
    intro x hx2
    obtain ⟨j, hj, rfl⟩ := List.getElem_of_mem hx2
    have := h j (by rw [← hx.out]; exact hj)
    rw [List.getD_eq_getElem?_getD, List.getElem?_eq_getElem hj] at this
    simpa using this)
  go_enter Tryz.func9, Tryz.ntmps9
  go_wp2_with fail
  go_loopw [3] (fun iv wr => ∃ i : Nat, i ≤ n ∧ iv = .int .i64 i ∧ w = wr ∧ Hid (∀ j, j < i → ¬ 200 < (l.getD j (0, 0, [])).2.2.length)) (fun iv _ => n - (intOf iv).toNat)
  case atStart => exact ⟨0, Nat.zero_le _, rfl, rfl, Lib.hid (fun j hj => by omega)⟩
  case round =>
    obtain ⟨i, hi, rfl, rfl, HA⟩ := hrel
    have ii : (i : Int) ≤ (n : Int) := by omega
    by_cases hlt : i < n
    · have ilt : (i : Int) < (n : Int) := by omega
      obtain ⟨b1, o1, x, y, z, e1, -, hc1, hc2, hc3, hx1⟩ := HS.out.at (k := i) (by rw [hx.out]; exact hlt)
      subst e1
      obtain ⟨m, HM⟩ : ∃ m, Hid (z.length = m) := ⟨_, rfl⟩
      have hsz : (⟨z.toArray⟩ : ByteArray).size = m := by rw [← ByteArray.size_data]; simpa using HM.out
      obtain ⟨X, HX⟩ : ∃ X : ByteArray, Hid (⟨z.toArray⟩ = X) := ⟨_, rfl⟩
      rw [HX.out] at hc3 hsz
      by_cases h2 : 200 < m
      · have h3 : (200 : Int) < (m : Int) := by omega
        obtain rfl : v = true := HYES.out i hlt (by rw [hx1.out]; show 200 < z.length; rw [HM.out]; exact h2)
        go_wp2_with fail
        go_ret
        exact ⟨rfl, by first | rfl | trivial⟩
      · have h3 : ¬ (200 : Int) < (m : Int) := by omega
        have HA2 : Hid (∀ j, j < i + 1 → ¬ 200 < (l.getD j (0, 0, [])).2.2.length) := Lib.hid (fun j hj => by
          by_cases e : j = i
          · rw [e, hx1.out]; show ¬ 200 < z.length; rw [HM.out]; exact h2
          · exact HA.out j (by omega))
        go_wp2_with fail
        go_roundw
        case rel => exact ⟨i + 1, by omega, by go_num, by first | rfl | trivial, HA2⟩
        case measure => simp [intOf]; omega
    · obtain rfl : i = n := by omega
      have ilt : ¬ (i : Int) < (i : Int) := by omega
      obtain rfl : v = false := HNO.out HA.out
      go_wp2_with fail
      go_ret
      exact ⟨rfl, by first | rfl | trivial⟩
end Go.Proofs.YtpnofkefcoaojaaGreatDoor
