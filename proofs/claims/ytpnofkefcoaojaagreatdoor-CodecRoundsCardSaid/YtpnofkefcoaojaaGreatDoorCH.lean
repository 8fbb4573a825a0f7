/- The sanity check: integers are appended. -/
import Derived.Test.YtpnofkefcoaojaaGreatDoorQA
import Derived.Test.YtpnofkefcoaojaaGreatDoorKA
import Derived.Lib.AppendStr
import Derived.BigQuiet
import Derived.Deep.RegionHeld3
import Derived.Laws.BitsAllLaws
set_option maxHeartbeats 1600000
set_option maxRecDepth 100000
namespace Go.Proofs.YtpnofkefcoaojaaGreatDoor
open Go.RowKit
open Go.Lib
theorem grown_below {w w' : World} (h : Below w.heap.size w w') (r : Option Nat) : w.grownBy w' r := ⟨h.os, h.tape, h.output, h.size, fun k hk _ => h.block k hk⟩
theorem own_below {w w' : World} {B e size n : Nat} {v : Value} {xs : List Value} (h : w.ownsRow B e size v n xs) (hb : Below w.heap.size w w') : w'.ownsRow B e size v n xs := by
  refine h.kept (row := none) (grown_below hb none) ?_
  cases v.ownBlock with
  | none => exact .inl rfl
  | some a => exact .inr (by simp)
theorem Grew.of_below {B : Nat} {w w' : World} {v : Value} {l : List UInt8} (h : w.ownsRow B 5 1 v l.length (ubs l)) (hb : Below w.heap.size w w') : Grew B w v l w' v := ⟨own_below h hb, grown_below hb _, .inl rfl⟩
theorem appendInteger_ok (B : Nat) (v : Value) (l x : List UInt8) (z : Int) (y n : Nat) (w : World) (hn : n ≤ 8) (hl : l.length ≤ 100000000) (hB : B ≤ w.heap.size) (hv : w.ownsRow B 5 1 v l.length (ubs l)) (hx : x.length ≤ 100) (hp : parseIntB 64 x = .ok z) (hy : IntKind.u64.wrap z = (y : Int)) (hy2 : y < 18446744073709551616) :
    Calls Tryz.prog 77 #[v, .string ⟨x.toArray⟩, .int .i64 (n : Int)] w (App B w v (l ++ be n y)) := by
  have HP := Lib.hid (Tryz.strconv_ParseInt_10_at64_ok ⟨x.toArray⟩ (by rw [← ByteArray.size_data]; simp; omega) z (by simpa using hp) w)
  have HW : Hid (∀ W, Below w.heap.size w W → Calls Tryz.prog 128 #[v, .int .u64 (y : Int), .int .i64 (n : Int)] W (App B W v (l ++ be n y))) := Lib.hid fun W hW => appendNumber_any B v l y n W hn hl (Nat.le_trans hB hW.size) (own_below hv hW) hy2
  have HG := Lib.hid hv
  clear hv hp hx hl hB
  clear hy2 hn
  go_enter Tryz.func77, Tryz.ntmps77
  go_wp2_with fail
  refine (HP.out).mono ?_
  rintro e w1 ⟨rfl, hb1⟩
  have HB1 := Lib.hid (pi_world hb1)
  clear hb1
  go_wp2_with fail
  refine (HW.out _ HB1.out).mono ?_
  rintro e w2 ⟨v2, rfl, hg2⟩
  have HG2 := Lib.hid ((Grew.of_below HG.out HB1.out).trans hg2)
  clear hg2
  go_wp2_with fail
  go_ret
  exact ⟨_, rfl, HG2.out⟩
theorem appendInteger_bad (B : Nat) (v : Value) (l x : List UInt8) (n : Nat) (w : World) (hn : n ≤ 8) (hl : l.length ≤ 100000000) (hB : B ≤ w.heap.size) (hv : w.ownsRow B 5 1 v l.length (ubs l)) (hx : x.length ≤ 100) (hp : parseIntB 64 x = parseIntB 64 []) (he : Env w) :
    Calls Tryz.prog 77 #[v, .string ⟨x.toArray⟩, .int .i64 (n : Int)] w (App B w v (l ++ be n 0)) := by
  obtain ⟨ev, h1, k1⟩ := he.syn
  have HP : Hid (Calls Tryz.prog 127 #[.string ⟨x.toArray⟩, .int .i64 10, .int .i64 64] w fun e w' => Below w.heap.size w w' ∧ ∃ z T N, e = .returned (.tuple #[.int .i64 z, .iface T (.pointer (some ⟨N, 0, none⟩))])) := Lib.hid
    ((Tryz.strconv_ParseInt_10_at64_syntax ⟨x.toArray⟩ (by rw [← ByteArray.size_data]; simp; omega) (by simpa using hp) ev w h1 k1).mono fun e w' ⟨N, h, _, _, hb⟩ => ⟨hb, _, _, N, h⟩)
  have HW : Hid (∀ W, Below w.heap.size w W → Calls Tryz.prog 128 #[v, .int .u64 ((0 : Nat) : Int), .int .i64 (n : Int)] W (App B W v (l ++ be n 0))) := Lib.hid fun W hW => appendNumber_any B v l 0 n W hn hl (Nat.le_trans hB hW.size) (own_below hv hW) (by omega)
  have HG := Lib.hid hv
  clear hv hp hx hl hB he h1 k1
  clear hn
  go_enter Tryz.func77, Tryz.ntmps77
  go_wp2_with fail
  refine (HP.out).mono ?_
  rintro e w1 ⟨hb1, z, T, N, rfl⟩
  have HB1 := Lib.hid hb1
  clear hb1
  go_wp2_with fail
  refine (HW.out _ HB1.out).mono ?_
  rintro e w2 ⟨v2, rfl, hg2⟩
  have HG2 := Lib.hid ((Grew.of_below HG.out HB1.out).trans hg2)
  clear hg2
  go_wp2_with fail
  go_ret
  exact ⟨_, rfl, HG2.out⟩
end Go.Proofs.YtpnofkefcoaojaaGreatDoor
namespace Go.Proofs.YtpnofkefcoaojaaGreatDoor
open Go.RowKit
open Go.Lib
structure Gro (B : Nat) (w : World) (v : Value) (l : List UInt8) (w' : World) (v' : Value) : Prop where
  own : w'.ownsRow B 5 1 v' l.length (ubs l)
  grown : w.grownBy w' v.ownBlock
end Go.Proofs.YtpnofkefcoaojaaGreatDoor
namespace Go.Proofs.YtpnofkefcoaojaaGreatDoor
open Go.RowKit
open Go.Lib
theorem take_at {xs : List (List UInt8)} {i : Nat} (h : i < xs.length) : xs.take (i + 1) = xs.take i ++ [xs.getD i []] := by
  rw [List.take_succ_eq_append_getElem h, List.getD_eq_getElem?_getD, List.getElem?_eq_getElem h]; rfl
structure PutG (w : World) (L : List UInt8) (wr : World) (v : Value) : Prop where
  own : wr.ownsRow w.heap.size 5 1 v L.length (ubs L)
  below : Below w.heap.size w wr
theorem own_ge {W : World} {B n : Nat} {v : Value} {xs : List Value} {g0 : Nat} (h : W.ownsRow B 5 1 v n xs) (e : v.ownBlock = some g0) : B ≤ g0 := by
  obtain ⟨-, ⟨rfl, -⟩ | ⟨g, cap, cur, rfl, hg, -⟩⟩ := h
  · cases e
  · cases e; exact hg
theorem PutG.next {w W w' : World} {v v' : Value} {L L' : List UInt8} (h : PutG w L W v) (hg : Gro w.heap.size W v L' w' v') : PutG w L' w' v' :=
  ⟨hg.own, h.below.grown hg.grown h.below.size (fun _ e => own_ge h.own e)⟩
end Go.Proofs.YtpnofkefcoaojaaGreatDoor
set_option maxHeartbeats 1600000
set_option maxRecDepth 100000
namespace Go.Proofs.YtpnofkefcoaojaaGreatDoor
open Go.RowKit
open Go.Lib
def saneL : Nat → List UInt8
  | 0 => [0]
  | 1 => [1, 0, 1]
  | 2 => [1, 0, 1, 0, 0]
  | _ => [5, 0, 1, 0, 0, 255, 254]
structure PutAt (w : World) (k : Nat) (wr : World) (v : Value) : Prop where
  own : wr.ownsRow w.heap.size 5 1 v (saneL k).length (ubs (saneL k))
  below : Below w.heap.size w wr
theorem presence_three (w : World) : Calls Tryz.prog 75 #[.int .i64 3] w fun e w' => e = .returned (.int .i64 1) ∧ w = w' :=
  (presence_any 3 (by omega) w).mono fun _ _ ⟨h, h2⟩ => ⟨h, h2⟩
theorem PutAt.next {w W w' : World} {v v' : Value} {k : Nat} (hB : Below w.heap.size w W) (hv : ∀ j, v.ownBlock = some j → w.heap.size ≤ j) (hg : Grew w.heap.size W v (saneL k) w' v') : PutAt w k w' v' :=
  ⟨hg.own, hB.grown hg.grown hB.size hv⟩
theorem be_one : be 2 1 = [0, 1] := by decide
theorem be_nul : be 2 0 = [0, 0] := by decide
theorem be_two : be 2 18446744073709551614 = [255, 254] := by decide
theorem wrap_two : IntKind.u64.wrap (-2) = ((18446744073709551614 : Nat) : Int) := by rw [IntKind.wrap_u64]; rfl
theorem or_a : bits .or .u8 0 1 = 1 := by decide
theorem or_c : bits .or .u8 1 4 = 5 := by decide
theorem made1 : ubs (saneL 0) = (madeCells #[Value.int .u8 0] 1).toList := by kernel_rfl
theorem put_three (p : Option Addr) (c : Nat) (w : World) (hs : Ss w p [[49], [], [45, 50]]) (he : Env w) :
    Calls Tryz.prog 34 #[.int .i64 2, .slice p 3 c] w fun e w' => ∃ v, e = .returned (.tuple #[v, .int .i64 0]) ∧ PutAt w 3 w' v := by
  have HC := Lib.hid (checkValues_two p c [[49], [], [45, 50]] w (by simp) hs (by
    intro k hk
    have : k = 0 ∨ k = 1 ∨ k = 2 := by simp at hk; omega
    rcases this with rfl | rfl | rfl
    · exact fit_a
    · exact fit_b
    · exact fit_c) he)
  have HS := Lib.hid hs
  have HV := Lib.hid he
  clear hs he
  obtain ⟨i0, hi, hz0, hz1, hz2⟩ := info_parts infoB5
  go_enter Tryz.func34, Tryz.ntmps34
  go_wp2_with fail
  refine (HC.out).mono ?_
  rintro e w1 ⟨rfl, hb1⟩
  have HB1 := Lib.hid hb1
  clear hb1
  go_wp2_with fail
  refine (presence_three _).mono ?_
  rintro e w' ⟨rfl, rfl⟩
  go_wp2_with (at_make; refine wpList_make_full _ rfl _ _ 39 rfl w.heap.size 5 i0 (.int .u8 0) 1 Tryz.underlying39 hi hz0 hz1 _ _ _ _ 1 rfl rfl (by rfl) (by rfl) ?b2 ?b3 HB1.out.size ?_)
  case b2 => rw [hz2]; omega
  case b3 => unfold maxLen; omega
  intro w2 hown hgrow
  have HP : Hid (PutAt w 0 w2 (.slice (some ⟨w1.heap.size, 0, none⟩) 1 1)) := Lib.hid ⟨(by rw [show ubs (saneL 0) = (madeCells #[Value.int .u8 0] 1).toList from made1]; exact hown), HB1.out.grown hgrow HB1.out.size (fun k h => by cases h)⟩
  clear hown hgrow
  go_wp2_with fail
  go_loopw [7, 22] (fun v i wr => ∃ (k : Nat) (z : Int), k ≤ 3 ∧ z = k ∧ i = .int .i64 z ∧ Hid (PutAt w k wr v)) (fun _ i _ => 3 - (intOf i).toNat)
  case atStart => exact ⟨0, 0, Nat.zero_le _, rfl, rfl, HP⟩
  case round =>
    obtain ⟨k, z, hk, hz, rfl, HK⟩ := hrel
    have hk4 : k = 0 ∨ k = 1 ∨ k = 2 ∨ k = 3 := by omega
    rcases hk4 with rfl | rfl | rfl | rfl
    · obtain rfl : z = 0 := hz
      obtain ⟨b1, o1, x, rfl, hb1, hc1, hx⟩ := (HS.out.below HK.out.below).at (k := 0) (by simp)
      obtain rfl : x = [49] := hx.out.symm
      rw [Nat.add_zero] at hc1
      obtain ⟨g, cap, hv5, hcap, hg, hgl, hcell, hfree, hset⟩ := own_set HK.out.own (by simp [saneL])
      rw [show (saneL 0).length = 1 from rfl] at hv5 hcap
      subst hv5
      have gc : wr.cell? ⟨g, 0, none⟩ = some (.int .u8 0) := hcell 0 (by simp [saneL])
      have gf : wr.frozen? ⟨g, 0, none⟩ = false := hfree 0
      have hw : ((wr.setCell ⟨g, 0, none⟩ (.int .u8 1)).drew).ownsRow w.heap.size 5 1 (.slice (some ⟨g, 0, none⟩) 1 cap) 1 (ubs ((saneL 0).set 0 1)) := hset 0 1 (by simp [saneL])
      have HB2 : Hid (Below w.heap.size w ((wr.setCell ⟨g, 0, none⟩ (.int .u8 1)).drew)) := Lib.hid ((HK.out.below.setCell hg _).drew)
      have HA : Hid (Calls Tryz.prog 77 #[.slice (some ⟨g, 0, none⟩) 1 cap, .string ⟨#[49]⟩, .int .i64 2] ((wr.setCell ⟨g, 0, none⟩ (.int .u8 1)).drew) (App w.heap.size ((wr.setCell ⟨g, 0, none⟩ (.int .u8 1)).drew) (.slice (some ⟨g, 0, none⟩) 1 cap) (saneL 1))) := Lib.hid (by
        have := appendInteger_ok w.heap.size _ ((saneL 0).set 0 1) [49] 1 1 2 _ (by omega) (by simp [saneL]) HB2.out.size hw (by simp) pi_a (by rw [IntKind.wrap_u64]; rfl) (by omega)
        rw [be_one] at this; exact this)
      have hor := or_a
      clear hcell hfree hset hk hw
      go_wp2_with fail
      go_region
      clear hor
      go_wp2_with fail
      refine (width_two _).mono ?_
      rintro e w' ⟨rfl, rfl⟩
      go_wp2_with fail
      refine (HA.out).mono ?_
      rintro e w3 ⟨v3, rfl, hg3⟩
      have HP3 := Lib.hid (PutAt.next HB2.out (by intro j hj; cases hj; exact hg) hg3)
      clear hg3
      go_wp2_with fail
      go_roundw
      case rel => exact ⟨1, 1, by omega, rfl, rfl, HP3⟩
      case measure => simp [intOf]
    · obtain rfl : z = 1 := hz
      obtain ⟨b1, o1, x, rfl, hb1, hc1, hx⟩ := (HS.out.below HK.out.below).at (k := 1) (by simp)
      obtain rfl : x = [] := hx.out.symm
      obtain ⟨g, cap, hv5, hcap, hg, hgl, hcell, hfree, hset⟩ := own_set HK.out.own (by simp [saneL])
      rw [show (saneL 1).length = 3 from rfl] at hv5 hcap
      subst hv5
      have HA : Hid (Calls Tryz.prog 77 #[.slice (some ⟨g, 0, none⟩) 3 cap, .string ⟨#[]⟩, .int .i64 2] wr (App w.heap.size wr (.slice (some ⟨g, 0, none⟩) 3 cap) (saneL 2))) := Lib.hid (by
        have := appendInteger_bad w.heap.size _ (saneL 1) [] 2 wr (by omega) (by simp [saneL]) HK.out.below.size HK.out.own (by simp) rfl (HV.out.below HK.out.below)
        rw [be_nul] at this; exact this)
      have HB2 := Lib.hid HK.out.below
      clear hcell hfree hset hk
      go_wp2_with fail
      refine (width_two _).mono ?_
      rintro e w' ⟨rfl, rfl⟩
      go_wp2_with fail
      refine (HA.out).mono ?_
      rintro e w3 ⟨v3, rfl, hg3⟩
      have HP3 := Lib.hid (PutAt.next HB2.out (by intro j hj; cases hj; exact hg) hg3)
      clear hg3
      go_wp2_with fail
      go_roundw
      case rel => exact ⟨2, 2, by omega, rfl, rfl, HP3⟩
      case measure => simp [intOf]
    · obtain rfl : z = 2 := hz
      obtain ⟨b1, o1, x, rfl, hb1, hc1, hx⟩ := (HS.out.below HK.out.below).at (k := 2) (by simp)
      obtain rfl : x = [45, 50] := hx.out.symm
      obtain ⟨g, cap, hv5, hcap, hg, hgl, hcell, hfree, hset⟩ := own_set HK.out.own (by simp [saneL])
      rw [show (saneL 2).length = 5 from rfl] at hv5 hcap
      subst hv5
      have gc : wr.cell? ⟨g, 0, none⟩ = some (.int .u8 1) := hcell 0 (by simp [saneL])
      have gf : wr.frozen? ⟨g, 0, none⟩ = false := hfree 0
      have hw : ((wr.setCell ⟨g, 0, none⟩ (.int .u8 5)).drew).ownsRow w.heap.size 5 1 (.slice (some ⟨g, 0, none⟩) 5 cap) 5 (ubs ((saneL 2).set 0 5)) := hset 0 5 (by simp [saneL])
      have HB2 : Hid (Below w.heap.size w ((wr.setCell ⟨g, 0, none⟩ (.int .u8 5)).drew)) := Lib.hid ((HK.out.below.setCell hg _).drew)
      have HA : Hid (Calls Tryz.prog 77 #[.slice (some ⟨g, 0, none⟩) 5 cap, .string ⟨#[45, 50]⟩, .int .i64 2] ((wr.setCell ⟨g, 0, none⟩ (.int .u8 5)).drew) (App w.heap.size ((wr.setCell ⟨g, 0, none⟩ (.int .u8 5)).drew) (.slice (some ⟨g, 0, none⟩) 5 cap) (saneL 3))) := Lib.hid (by
        have := appendInteger_ok w.heap.size _ ((saneL 2).set 0 5) [45, 50] (-2) 18446744073709551614 2 _ (by omega) (by simp [saneL]) HB2.out.size hw (by simp) pi_c wrap_two (by omega)
        rw [be_two] at this; exact this)
      have hor := or_c
      clear hcell hfree hset hk hw
      go_wp2_with fail
      go_region
      clear hor
      go_wp2_with fail
      refine (width_two _).mono ?_
      rintro e w' ⟨rfl, rfl⟩
      go_wp2_with fail
      refine (HA.out).mono ?_
      rintro e w3 ⟨v3, rfl, hg3⟩
      have HP3 := Lib.hid (PutAt.next HB2.out (by intro j hj; cases hj; exact hg) hg3)
      clear hg3
      go_wp2_with fail
      go_roundw
      case rel => exact ⟨3, 3, by omega, rfl, rfl, HP3⟩
      case measure => simp [intOf]
    · obtain rfl : z = 3 := hz
      go_wp2_with fail
      go_ret2
      exact ⟨_, rfl, HK.out⟩
end Go.Proofs.YtpnofkefcoaojaaGreatDoor
