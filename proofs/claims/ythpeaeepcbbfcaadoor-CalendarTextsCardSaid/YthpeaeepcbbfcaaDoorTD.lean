/- The texts of dates: read. -/
import Derived.Test.YthpeaeepcbbfcaaDoorTC
import Derived.Test.YthpeaeepcbbfcaaDoorBox
namespace Go.Proofs.YthpeaeepcbbfcaaDoor
open Go.RowKit

theorem trim_body (l : List UInt8) : Lib.trimPrefix l [45] = bodyL l ∧ Lib.hasPrefix l [45] = negL l := by
  cases l with
  | nil => exact ⟨rfl, rfl⟩
  | cons c l =>
    by_cases h : c = 45
    · subst h; constructor <;> simp [Lib.trimPrefix, Lib.hasPrefix, bodyL, negL]
    · have h' : (c == 45) = false := by simpa using h
      have h'' : ((45 : UInt8) == c) = false := by simpa using fun e : 45 = c => h e.symm
      constructor <;> simp [Lib.trimPrefix, Lib.hasPrefix, bodyL, negL, h', h'', List.isPrefixOf]
/-- What read returns where the form is wrong. -/
def NoDate (w : World) (e : Ending) (w' : World) : Prop := e = .returned (.tuple #[.agg #[.int .i64 0, .int .i64 0, .int .i64 0], .bool false]) ∧ Below w.heap.size w w'
def CutIs (s b : ByteArray) (neg : Bool) : Prop := ∀ W, Calls Tryd.prog 31 #[.string s, .string ⟨#[45]⟩] W fun e w' => e = .returned (.tuple #[.string b, .bool neg]) ∧ w' = W
def DigIs (x : ByteArray) (v : Int) (ok : Bool) : Prop := ∀ W, Calls Tryd.prog 32 #[.string x] W fun e w' => e = .returned (.tuple #[.int .i64 v, .bool ok]) ∧ W = w'

set_option maxRecDepth 100000 in
set_option maxHeartbeats 1600000 in
theorem read_len (s b : ByteArray) (neg : Bool) (w : World) (hc : Hid (CutIs s b neg)) (h : ((b.size : Int) != 10) = true) : Calls Tryd.prog 15 #[.string s] w (NoDate w) := by
  have HB := Lib.hid (kept_more (o := .cells #[.int .i64 0, .int .i64 0, .int .i64 0] 23) (Below.refl w.heap.size w))
  go_enter Tryd.func15, Tryd.ntmps15
  go_wp2_with fail
  refine (hc.out _).mono ?_
  rintro e w2 ⟨rfl, rfl⟩
  go_wp2_with fail
  exact bodyPost_ret (v := .tuple #[.agg #[.int .i64 0, .int .i64 0, .int .i64 0], .bool false]) (by simp [results, Tryd.results15, go_sem]) rfl ⟨rfl, HB.out⟩
set_option maxRecDepth 100000 in
set_option maxHeartbeats 1600000 in
theorem read_4 (s b : ByteArray) (neg : Bool) (w : World) (hc : Hid (CutIs s b neg)) (hz : b.size = 10) (h4 : ((b[4].toNat : Int) != 45) = true) : Calls Tryd.prog 15 #[.string s] w (NoDate w) := by
  have HB := Lib.hid (kept_more (o := .cells #[.int .i64 0, .int .i64 0, .int .i64 0] 23) (Below.refl w.heap.size w))
  go_enter Tryd.func15, Tryd.ntmps15
  go_wp2_with fail
  refine (hc.out _).mono ?_
  rintro e w2 ⟨rfl, rfl⟩
  go_wp2_with fail
  exact bodyPost_ret (v := .tuple #[.agg #[.int .i64 0, .int .i64 0, .int .i64 0], .bool false]) (by simp [results, Tryd.results15, go_sem]) rfl ⟨rfl, HB.out⟩
set_option maxRecDepth 100000 in
set_option maxHeartbeats 1600000 in
theorem read_7 (s b : ByteArray) (neg : Bool) (w : World) (hc : Hid (CutIs s b neg)) (hz : b.size = 10) (h4 : ((b[4].toNat : Int) != 45) = false) (h7 : ((b[7].toNat : Int) != 45) = true) : Calls Tryd.prog 15 #[.string s] w (NoDate w) := by
  have HB := Lib.hid (kept_more (o := .cells #[.int .i64 0, .int .i64 0, .int .i64 0] 23) (Below.refl w.heap.size w))
  go_enter Tryd.func15, Tryd.ntmps15
  go_wp2_with fail
  refine (hc.out _).mono ?_
  rintro e w2 ⟨rfl, rfl⟩
  go_wp2_with fail
  exact bodyPost_ret (v := .tuple #[.agg #[.int .i64 0, .int .i64 0, .int .i64 0], .bool false]) (by simp [results, Tryd.results15, go_sem]) rfl ⟨rfl, HB.out⟩
set_option maxRecDepth 100000 in
set_option maxHeartbeats 1600000 in
theorem read_d1 (s b : ByteArray) (neg : Bool) (y m d : Int) (a2 a3 : Bool) (w : World) (hc : Hid (CutIs s b neg)) (hz : b.size = 10) (h4 : ((b[4].toNat : Int) != 45) = false) (h7 : ((b[7].toNat : Int) != 45) = false) (d1 : Hid (DigIs (b.extract 0 4) y false)) (d2 : Hid (DigIs (b.extract 5 7) m a2)) (d3 : Hid (DigIs (b.extract 8 10) d a3)) : Calls Tryd.prog 15 #[.string s] w (NoDate w) := by
  have HB := Lib.hid (kept_more (o := .cells #[.int .i64 0, .int .i64 0, .int .i64 0] 23) (Below.refl w.heap.size w))
  go_enter Tryd.func15, Tryd.ntmps15
  go_wp2_with fail
  refine (hc.out _).mono ?_
  rintro e w2 ⟨rfl, rfl⟩
  go_wp2_with fail
  refine (d1.out _).mono ?_
  rintro e w3 ⟨rfl, rfl⟩
  go_wp2_with fail
  refine (d2.out _).mono ?_
  rintro e w3 ⟨rfl, rfl⟩
  go_wp2_with fail
  refine (d3.out _).mono ?_
  rintro e w3 ⟨rfl, rfl⟩
  go_wp2_with fail
  exact bodyPost_ret (v := .tuple #[.agg #[.int .i64 0, .int .i64 0, .int .i64 0], .bool false]) (by simp [results, Tryd.results15, go_sem]) rfl ⟨rfl, HB.out⟩
set_option maxRecDepth 100000 in
set_option maxHeartbeats 1600000 in
theorem read_d2 (s b : ByteArray) (neg : Bool) (y m d : Int) (a3 : Bool) (w : World) (hc : Hid (CutIs s b neg)) (hz : b.size = 10) (h4 : ((b[4].toNat : Int) != 45) = false) (h7 : ((b[7].toNat : Int) != 45) = false) (d1 : Hid (DigIs (b.extract 0 4) y true)) (d2 : Hid (DigIs (b.extract 5 7) m false)) (d3 : Hid (DigIs (b.extract 8 10) d a3)) : Calls Tryd.prog 15 #[.string s] w (NoDate w) := by
  have HB := Lib.hid (kept_more (o := .cells #[.int .i64 0, .int .i64 0, .int .i64 0] 23) (Below.refl w.heap.size w))
  go_enter Tryd.func15, Tryd.ntmps15
  go_wp2_with fail
  refine (hc.out _).mono ?_
  rintro e w2 ⟨rfl, rfl⟩
  go_wp2_with fail
  refine (d1.out _).mono ?_
  rintro e w3 ⟨rfl, rfl⟩
  go_wp2_with fail
  refine (d2.out _).mono ?_
  rintro e w3 ⟨rfl, rfl⟩
  go_wp2_with fail
  refine (d3.out _).mono ?_
  rintro e w3 ⟨rfl, rfl⟩
  go_wp2_with fail
  exact bodyPost_ret (v := .tuple #[.agg #[.int .i64 0, .int .i64 0, .int .i64 0], .bool false]) (by simp [results, Tryd.results15, go_sem]) rfl ⟨rfl, HB.out⟩
set_option maxRecDepth 100000 in
set_option maxHeartbeats 1600000 in
theorem read_d3 (s b : ByteArray) (neg : Bool) (y m d : Int) (w : World) (hc : Hid (CutIs s b neg)) (hz : b.size = 10) (h4 : ((b[4].toNat : Int) != 45) = false) (h7 : ((b[7].toNat : Int) != 45) = false) (d1 : Hid (DigIs (b.extract 0 4) y true)) (d2 : Hid (DigIs (b.extract 5 7) m true)) (d3 : Hid (DigIs (b.extract 8 10) d false)) : Calls Tryd.prog 15 #[.string s] w (NoDate w) := by
  have HB := Lib.hid (kept_more (o := .cells #[.int .i64 0, .int .i64 0, .int .i64 0] 23) (Below.refl w.heap.size w))
  go_enter Tryd.func15, Tryd.ntmps15
  go_wp2_with fail
  refine (hc.out _).mono ?_
  rintro e w2 ⟨rfl, rfl⟩
  go_wp2_with fail
  refine (d1.out _).mono ?_
  rintro e w3 ⟨rfl, rfl⟩
  go_wp2_with fail
  refine (d2.out _).mono ?_
  rintro e w3 ⟨rfl, rfl⟩
  go_wp2_with fail
  refine (d3.out _).mono ?_
  rintro e w3 ⟨rfl, rfl⟩
  go_wp2_with fail
  exact bodyPost_ret (v := .tuple #[.agg #[.int .i64 0, .int .i64 0, .int .i64 0], .bool false]) (by simp [results, Tryd.results15, go_sem]) rfl ⟨rfl, HB.out⟩
set_option maxRecDepth 100000 in
set_option maxHeartbeats 1600000 in
theorem read_zero (s b : ByteArray) (y m d : Int) (w : World) (hc : Hid (CutIs s b true)) (hz : b.size = 10) (h4 : ((b[4].toNat : Int) != 45) = false) (h7 : ((b[7].toNat : Int) != 45) = false) (d1 : Hid (DigIs (b.extract 0 4) y true)) (d2 : Hid (DigIs (b.extract 5 7) m true)) (d3 : Hid (DigIs (b.extract 8 10) d true)) (hy : (y == 0) = true) : Calls Tryd.prog 15 #[.string s] w (NoDate w) := by
  have HB := Lib.hid (kept_more (o := .cells #[.int .i64 0, .int .i64 0, .int .i64 0] 23) (Below.refl w.heap.size w))
  go_enter Tryd.func15, Tryd.ntmps15
  go_wp2_with fail
  refine (hc.out _).mono ?_
  rintro e w2 ⟨rfl, rfl⟩
  go_wp2_with fail
  refine (d1.out _).mono ?_
  rintro e w3 ⟨rfl, rfl⟩
  go_wp2_with fail
  refine (d2.out _).mono ?_
  rintro e w3 ⟨rfl, rfl⟩
  go_wp2_with fail
  refine (d3.out _).mono ?_
  rintro e w3 ⟨rfl, rfl⟩
  go_wp2_with fail
  exact bodyPost_ret (v := .tuple #[.agg #[.int .i64 0, .int .i64 0, .int .i64 0], .bool false]) (by simp [results, Tryd.results15, go_sem]) rfl ⟨rfl, HB.out⟩
set_option maxRecDepth 100000 in
set_option maxHeartbeats 1600000 in
theorem read_neg (s b : ByteArray) (y m d : Int) (w : World) (hc : Hid (CutIs s b true)) (hz : b.size = 10) (h4 : ((b[4].toNat : Int) != 45) = false) (h7 : ((b[7].toNat : Int) != 45) = false) (d1 : Hid (DigIs (b.extract 0 4) y true)) (d2 : Hid (DigIs (b.extract 5 7) m true)) (d3 : Hid (DigIs (b.extract 8 10) d true)) (hy : (y == 0) = false) (y0 : 0 ≤ y) (y1 : y ≤ 9999) : Calls Tryd.prog 15 #[.string s] w (fun e w' => e = .returned (.tuple #[.agg #[.int .i64 (-y), .int .i64 m, .int .i64 d], .bool true]) ∧ Below w.heap.size w w') := by
  have HB := Lib.hid (kept_more (o := .cells #[.int .i64 0, .int .i64 0, .int .i64 0] 23) (Below.refl w.heap.size w))
  go_enter Tryd.func15, Tryd.ntmps15
  go_wp2_with fail
  refine (hc.out _).mono ?_
  rintro e w2 ⟨rfl, rfl⟩
  go_wp2_with fail
  refine (d1.out _).mono ?_
  rintro e w3 ⟨rfl, rfl⟩
  go_wp2_with fail
  refine (d2.out _).mono ?_
  rintro e w3 ⟨rfl, rfl⟩
  go_wp2_with fail
  refine (d3.out _).mono ?_
  rintro e w3 ⟨rfl, rfl⟩
  go_wp2_with fail
  exact bodyPost_ret (v := .tuple #[.agg #[.int .i64 (-y), .int .i64 m, .int .i64 d], .bool true]) (by simp [results, Tryd.results15, go_sem]) rfl ⟨rfl, kept_more (Below.refl _ _)⟩
set_option maxRecDepth 100000 in
set_option maxHeartbeats 1600000 in
theorem read_pos (s b : ByteArray) (y m d : Int) (w : World) (hc : Hid (CutIs s b false)) (hz : b.size = 10) (h4 : ((b[4].toNat : Int) != 45) = false) (h7 : ((b[7].toNat : Int) != 45) = false) (d1 : Hid (DigIs (b.extract 0 4) y true)) (d2 : Hid (DigIs (b.extract 5 7) m true)) (d3 : Hid (DigIs (b.extract 8 10) d true)) : Calls Tryd.prog 15 #[.string s] w (fun e w' => e = .returned (.tuple #[.agg #[.int .i64 y, .int .i64 m, .int .i64 d], .bool true]) ∧ Below w.heap.size w w') := by
  have HB := Lib.hid (kept_more (o := .cells #[.int .i64 0, .int .i64 0, .int .i64 0] 23) (Below.refl w.heap.size w))
  go_enter Tryd.func15, Tryd.ntmps15
  go_wp2_with fail
  refine (hc.out _).mono ?_
  rintro e w2 ⟨rfl, rfl⟩
  go_wp2_with fail
  refine (d1.out _).mono ?_
  rintro e w3 ⟨rfl, rfl⟩
  go_wp2_with fail
  refine (d2.out _).mono ?_
  rintro e w3 ⟨rfl, rfl⟩
  go_wp2_with fail
  refine (d3.out _).mono ?_
  rintro e w3 ⟨rfl, rfl⟩
  go_wp2_with fail
  exact bodyPost_ret (v := .tuple #[.agg #[.int .i64 y, .int .i64 m, .int .i64 d], .bool true]) (by simp [results, Tryd.results15, go_sem]) rfl ⟨rfl, kept_more (Below.refl _ _)⟩
end Go.Proofs.YthpeaeepcbbfcaaDoor
