/- The sanity check: integers are appended. -/
import Derived.Test.YtpnofkefcoaojaaGreatDoorCF
import Derived.Test.YtpnofkefcoaojaaGreatDoorKA
import Derived.Lib.AppendStr
import Derived.BigQuiet
import Derived.Deep.RegionHeld3
import Derived.Laws.BitsAllLaws
import Derived.Test.YtpnofkefcoaojaaGreatDoorCC
set_option maxHeartbeats 1600000
set_option maxRecDepth 100000
namespace Go.Proofs.YtpnofkefcoaojaaGreatDoor
open Go.RowKit
open Go.Lib
theorem grown_below {w w' : World} (h : Below w.heap.size w w') (r : Option Nat) : w.grownBy w' r := ⟨h.os, h.tape, h.output, h.size, fun k hk _ => h.block k hk⟩
theorem own_below {w w' : World} {B e size n : Nat} {v : Value} {xs : List Value} (h : w.ownsRow B e size v n xs) (hb : Below w.heap.size w w') : w'.ownsRow B e size v n xs := by
  refine h.kept (row := none) (grown_below hb none) ?_
  cases v.ownBlock with
  | none => exact .inl rfl
  | some a => exact .inr (by simp)
theorem Grew.of_below {B : Nat} {w w' : World} {v : Value} {l : List UInt8} (h : w.ownsRow B 5 1 v l.length (ubs l)) (hb : Below w.heap.size w w') : Grew B w v l w' v := ⟨own_below h hb, grown_below hb _, .inl rfl⟩
theorem appendInteger_ok (B : Nat) (v : Value) (l x : List UInt8) (z : Int) (y n : Nat) (w : World) (hn : n ≤ 8) (hl : l.length ≤ 100000000) (hB : B ≤ w.heap.size) (hv : w.ownsRow B 5 1 v l.length (ubs l)) (hx : x.length ≤ 100) (hp : parseIntB 64 x = .ok z) (hy : IntKind.u64.wrap z = (y : Int)) (hy2 : y < 18446744073709551616) :
    Calls Tryz.prog 77 #[v, .string ⟨x.toArray⟩, .int .i64 (n : Int)] w (App B w v (l ++ be n y)) := by
  have HP := Lib.hid (Tryz.strconv_ParseInt_10_at64_ok ⟨x.toArray⟩ (by rw [← ByteArray.size_data]; simp; omega) z (by simpa using hp) w)
  have HW : Hid (∀ W, Below w.heap.size w W → Calls Tryz.prog 128 #[v, .int .u64 (y : Int), .int .i64 (n : Int)] W (App B W v (l ++ be n y))) := Lib.hid fun W hW => appendNumber_any B v l y n W hn hl (Nat.le_trans hB hW.size) (own_below hv hW) hy2
  have HG := Lib.hid hv
  clear hv hp hx hl hB
  clear hy2 hn
  go_enter Tryz.func77, Tryz.ntmps77
  go_wp2_with fail
  refine (HP.out).mono ?_
  rintro e w1 ⟨rfl, hb1⟩
  have HB1 := Lib.hid (pi_world hb1)
  clear hb1
  go_wp2_with fail
  refine (HW.out _ HB1.out).mono ?_
  rintro e w2 ⟨v2, rfl, hg2⟩
  have HG2 := Lib.hid ((Grew.of_below HG.out HB1.out).trans hg2)
  clear hg2
  go_wp2_with fail
  go_ret
  exact ⟨_, rfl, HG2.out⟩
theorem appendInteger_bad (B : Nat) (v : Value) (l x : List UInt8) (n : Nat) (w : World) (hn : n ≤ 8) (hl : l.length ≤ 100000000) (hB : B ≤ w.heap.size) (hv : w.ownsRow B 5 1 v l.length (ubs l)) (hx : x.length ≤ 100) (hp : parseIntB 64 x = parseIntB 64 []) (he : Env w) :
    Calls Tryz.prog 77 #[v, .string ⟨x.toArray⟩, .int .i64 (n : Int)] w (App B w v (l ++ be n 0)) := by
  obtain ⟨ev, h1, k1⟩ := he.syn
  have HP : Hid (Calls Tryz.prog 127 #[.string ⟨x.toArray⟩, .int .i64 10, .int .i64 64] w fun e w' => Below w.heap.size w w' ∧ ∃ z T N, e = .returned (.tuple #[.int .i64 z, .iface T (.pointer (some ⟨N, 0, none⟩))])) := Lib.hid
    ((Tryz.strconv_ParseInt_10_at64_syntax ⟨x.toArray⟩ (by rw [← ByteArray.size_data]; simp; omega) (by simpa using hp) ev w h1 k1).mono fun e w' ⟨N, h, _, _, hb⟩ => ⟨hb, _, _, N, h⟩)
  have HW : Hid (∀ W, Below w.heap.size w W → Calls Tryz.prog 128 #[v, .int .u64 ((0 : Nat) : Int), .int .i64 (n : Int)] W (App B W v (l ++ be n 0))) := Lib.hid fun W hW => appendNumber_any B v l 0 n W hn hl (Nat.le_trans hB hW.size) (own_below hv hW) (by omega)
  have HG := Lib.hid hv
  clear hv hp hx hl hB he h1 k1
  clear hn
  go_enter Tryz.func77, Tryz.ntmps77
  go_wp2_with fail
  refine (HP.out).mono ?_
  rintro e w1 ⟨hb1, z, T, N, rfl⟩
  have HB1 := Lib.hid hb1
  clear hb1
  go_wp2_with fail
  refine (HW.out _ HB1.out).mono ?_
  rintro e w2 ⟨v2, rfl, hg2⟩
  have HG2 := Lib.hid ((Grew.of_below HG.out HB1.out).trans hg2)
  clear hg2
  go_wp2_with fail
  go_ret
  exact ⟨_, rfl, HG2.out⟩
end Go.Proofs.YtpnofkefcoaojaaGreatDoor
namespace Go.Proofs.YtpnofkefcoaojaaGreatDoor
open Go.RowKit
open Go.Lib
structure Gro (B : Nat) (w : World) (v : Value) (l : List UInt8) (w' : World) (v' : Value) : Prop where
  own : w'.ownsRow B 5 1 v' l.length (ubs l)
  grown : w.grownBy w' v.ownBlock
end Go.Proofs.YtpnofkefcoaojaaGreatDoor
namespace Go.Proofs.YtpnofkefcoaojaaGreatDoor
open Go.RowKit
open Go.Lib
structure PutG (w : World) (L : List UInt8) (wr : World) (v : Value) : Prop where
  own : wr.ownsRow w.heap.size 5 1 v L.length (ubs L)
  below : Below w.heap.size w wr
theorem own_ge {W : World} {B n : Nat} {v : Value} {xs : List Value} {g0 : Nat} (h : W.ownsRow B 5 1 v n xs) (e : v.ownBlock = some g0) : B ≤ g0 := by
  obtain ⟨-, ⟨rfl, -⟩ | ⟨g, cap, cur, rfl, hg, -⟩⟩ := h
  · cases e
  · cases e; exact hg
theorem PutG.next {w W w' : World} {v v' : Value} {L L' : List UInt8} (h : PutG w L W v) (hg : Gro w.heap.size W v L' w' v') : PutG w L' w' v' :=
  ⟨hg.own, h.below.grown hg.grown h.below.size (fun _ e => own_ge h.own e)⟩
end Go.Proofs.YtpnofkefcoaojaaGreatDoor
namespace Go.Proofs.YtpnofkefcoaojaaGreatDoor
open Go.RowKit
open Go.Lib
def nb (l : List UInt8) : Nat := l.foldl (fun x c => x * 256 + c.toNat) 0
end Go.Proofs.YtpnofkefcoaojaaGreatDoor
