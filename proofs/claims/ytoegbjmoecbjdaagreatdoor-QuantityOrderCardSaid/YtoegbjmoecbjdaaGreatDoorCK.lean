/- The law QuantityOrder: its walk. -/
import Derived.Test.YtoegbjmoecbjdaaGreatDoorPart20
import Derived.Test.YtoegbjmoecbjdaaGreatDoorF19
set_option maxHeartbeats 3200000
set_option maxRecDepth 100000
namespace Go.Proofs.YtoegbjmoecbjdaaGreatDoor
open Go.RowKit Go.Lib Big
def CmpIs (w : World) (a b : List UInt8) (c : Int) (ok : Bool) : Prop := ∀ W, Below w.heap.size w W → Calls Tryz.prog 24 #[.string ⟨a.toArray⟩, .string ⟨b.toArray⟩] W (CmpTPost (c, ok) W)
theorem cmpIs (w : World) (htab : Tab w) (a b : List UInt8) : CmpIs w a b (cmpT a b).1 (cmpT a b).2 := fun W hb => compare_q ⟨a.toArray⟩ ⟨b.toArray⟩ W (htab.below hb)
def AwakeIs (w : World) : Prop := ∀ W, Below w.heap.size w W → Calls Tryz.prog 21 #[] W fun e w' => e = .returned (.bool true) ∧ Below W.heap.size W w'
def OrdPost (w : World) (e : Ending) (w' : World) : Prop := e = .returned (.bool true) ∧ Below w.heap.size w w'
theorem order_no0 (X Y Z : List UInt8) (a b c d : Int) (o2 o3 o4 : Bool) (w : World) (h1 : Hid (CmpIs w X Y a false)) (h2 : Hid (CmpIs w Y Z b o2)) (h3 : Hid (CmpIs w X Z c o3)) (h4 : Hid (CmpIs w Y X d o4)) (hw : Hid (AwakeIs w)) : Calls Tryz.prog 12 #[.string ⟨X.toArray⟩, .string ⟨Y.toArray⟩, .string ⟨Z.toArray⟩] w (OrdPost w) := by
  have B0 := hiD (Below.refl w.heap.size w)
  go_enter Tryz.func12, Tryz.ntmps12
  go_wp2_with fail
  refine (h1.out _ B0.out).mono ?_
  rintro e w1 ⟨rfl, hb⟩
  have B1 := hiD (B0.out.trans (hb.mono B0.out.size))
  clear hb
  go_wp2_with fail
  refine (h2.out _ B1.out).mono ?_
  rintro e w2 ⟨rfl, hb⟩
  have B2 := hiD (B1.out.trans (hb.mono B1.out.size))
  clear hb
  go_wp2_with fail
  refine (h3.out _ B2.out).mono ?_
  rintro e w3 ⟨rfl, hb⟩
  have B3 := hiD (B2.out.trans (hb.mono B2.out.size))
  clear hb
  go_wp2_with fail
  refine (h4.out _ B3.out).mono ?_
  rintro e w4 ⟨rfl, hb⟩
  have B4 := hiD (B3.out.trans (hb.mono B3.out.size))
  clear hb
  go_wp2_with fail
  refine (hw.out _ B4.out).mono ?_
  rintro e w5 ⟨rfl, hb⟩
  have B5 := hiD (B4.out.trans (hb.mono B4.out.size))
  clear hb
  go_wp2_with fail
  go_ret
  exact ⟨rfl, B5.out⟩
theorem order_no1 (X Y Z : List UInt8) (a b c d : Int) (o3 o4 : Bool) (w : World) (h1 : Hid (CmpIs w X Y a true)) (h2 : Hid (CmpIs w Y Z b false)) (h3 : Hid (CmpIs w X Z c o3)) (h4 : Hid (CmpIs w Y X d o4)) (hw : Hid (AwakeIs w)) : Calls Tryz.prog 12 #[.string ⟨X.toArray⟩, .string ⟨Y.toArray⟩, .string ⟨Z.toArray⟩] w (OrdPost w) := by
  have B0 := hiD (Below.refl w.heap.size w)
  go_enter Tryz.func12, Tryz.ntmps12
  go_wp2_with fail
  refine (h1.out _ B0.out).mono ?_
  rintro e w1 ⟨rfl, hb⟩
  have B1 := hiD (B0.out.trans (hb.mono B0.out.size))
  clear hb
  go_wp2_with fail
  refine (h2.out _ B1.out).mono ?_
  rintro e w2 ⟨rfl, hb⟩
  have B2 := hiD (B1.out.trans (hb.mono B1.out.size))
  clear hb
  go_wp2_with fail
  refine (h3.out _ B2.out).mono ?_
  rintro e w3 ⟨rfl, hb⟩
  have B3 := hiD (B2.out.trans (hb.mono B2.out.size))
  clear hb
  go_wp2_with fail
  refine (h4.out _ B3.out).mono ?_
  rintro e w4 ⟨rfl, hb⟩
  have B4 := hiD (B3.out.trans (hb.mono B3.out.size))
  clear hb
  go_wp2_with fail
  refine (hw.out _ B4.out).mono ?_
  rintro e w5 ⟨rfl, hb⟩
  have B5 := hiD (B4.out.trans (hb.mono B4.out.size))
  clear hb
  go_wp2_with fail
  go_ret
  exact ⟨rfl, B5.out⟩
theorem order_no2 (X Y Z : List UInt8) (a b c d : Int) (o4 : Bool) (w : World) (h1 : Hid (CmpIs w X Y a true)) (h2 : Hid (CmpIs w Y Z b true)) (h3 : Hid (CmpIs w X Z c false)) (h4 : Hid (CmpIs w Y X d o4)) (hw : Hid (AwakeIs w)) : Calls Tryz.prog 12 #[.string ⟨X.toArray⟩, .string ⟨Y.toArray⟩, .string ⟨Z.toArray⟩] w (OrdPost w) := by
  have B0 := hiD (Below.refl w.heap.size w)
  go_enter Tryz.func12, Tryz.ntmps12
  go_wp2_with fail
  refine (h1.out _ B0.out).mono ?_
  rintro e w1 ⟨rfl, hb⟩
  have B1 := hiD (B0.out.trans (hb.mono B0.out.size))
  clear hb
  go_wp2_with fail
  refine (h2.out _ B1.out).mono ?_
  rintro e w2 ⟨rfl, hb⟩
  have B2 := hiD (B1.out.trans (hb.mono B1.out.size))
  clear hb
  go_wp2_with fail
  refine (h3.out _ B2.out).mono ?_
  rintro e w3 ⟨rfl, hb⟩
  have B3 := hiD (B2.out.trans (hb.mono B2.out.size))
  clear hb
  go_wp2_with fail
  refine (h4.out _ B3.out).mono ?_
  rintro e w4 ⟨rfl, hb⟩
  have B4 := hiD (B3.out.trans (hb.mono B3.out.size))
  clear hb
  go_wp2_with fail
  refine (hw.out _ B4.out).mono ?_
  rintro e w5 ⟨rfl, hb⟩
  have B5 := hiD (B4.out.trans (hb.mono B4.out.size))
  clear hb
  go_wp2_with fail
  go_ret
  exact ⟨rfl, B5.out⟩
theorem order_p_tt (X Y Z S U V : List UInt8) (a b c : Int) (w : World) (h1 : Hid (CmpIs w X Y a true)) (h2 : Hid (CmpIs w Y Z b true)) (h3 : Hid (CmpIs w X Z c true)) (h4 : Hid (CmpIs w Y X (-a) true)) (s1 : Hid (TwoIs w 28 X Y S)) (h5 : Hid (CmpIs w S [48] a true)) (u1 : Hid (TwoIs w 26 X Z U)) (u2 : Hid (TwoIs w 26 Y Z V)) (h6 : Hid (CmpIs w U V a true)) (hw : Hid (AwakeIs w)) (a0 : -1 ≤ a) (a1 : a ≤ 1) (hxy2 : (X == Y) = false) (pa : decide (a ≤ 0) = false) (pb : decide (a < 0) = false) (pz : (a == 0) = false) : Calls Tryz.prog 12 #[.string ⟨X.toArray⟩, .string ⟨Y.toArray⟩, .string ⟨Z.toArray⟩] w (OrdPost w) := by
  have B0 := hiD (Below.refl w.heap.size w)
  go_enter Tryz.func12, Tryz.ntmps12
  go_wp2_with fail
  refine (h1.out _ B0.out).mono ?_
  rintro e w1 ⟨rfl, hb⟩
  have B1 := hiD (B0.out.trans (hb.mono B0.out.size))
  clear hb
  go_wp2_with fail
  refine (h2.out _ B1.out).mono ?_
  rintro e w2 ⟨rfl, hb⟩
  have B2 := hiD (B1.out.trans (hb.mono B1.out.size))
  clear hb
  go_wp2_with fail
  refine (h3.out _ B2.out).mono ?_
  rintro e w3 ⟨rfl, hb⟩
  have B3 := hiD (B2.out.trans (hb.mono B2.out.size))
  clear hb
  go_wp2_with fail
  refine (h4.out _ B3.out).mono ?_
  rintro e w4 ⟨rfl, hb⟩
  have B4 := hiD (B3.out.trans (hb.mono B3.out.size))
  clear hb
  go_wp2_with fail
  refine (s1.out _ B4.out).mono ?_
  rintro e w5 ⟨rfl, hb⟩
  have B5 := hiD (B4.out.trans (hb.mono B4.out.size))
  clear hb
  go_wp2_with fail
  refine (h5.out _ B5.out).mono ?_
  rintro e w6 ⟨rfl, hb⟩
  have B6 := hiD (B5.out.trans (hb.mono B5.out.size))
  clear hb
  go_wp2_with fail
  refine (u1.out _ B6.out).mono ?_
  rintro e w7 ⟨rfl, hb⟩
  have B7 := hiD (B6.out.trans (hb.mono B6.out.size))
  clear hb
  go_wp2_with fail
  refine (u2.out _ B7.out).mono ?_
  rintro e w8 ⟨rfl, hb⟩
  have B8 := hiD (B7.out.trans (hb.mono B7.out.size))
  clear hb
  go_wp2_with fail
  refine (h6.out _ B8.out).mono ?_
  rintro e w9 ⟨rfl, hb⟩
  have B9 := hiD (B8.out.trans (hb.mono B8.out.size))
  clear hb
  go_wp2_with fail
  refine (hw.out _ B9.out).mono ?_
  rintro e w10 ⟨rfl, hb⟩
  have B10 := hiD (B9.out.trans (hb.mono B9.out.size))
  clear hb
  go_wp2_with fail
  go_ret
  exact ⟨rfl, B10.out⟩
theorem order_p_tf (X Y Z S U V : List UInt8) (a b c e : Int) (w : World) (h1 : Hid (CmpIs w X Y a true)) (h2 : Hid (CmpIs w Y Z b true)) (h3 : Hid (CmpIs w X Z c true)) (h4 : Hid (CmpIs w Y X (-a) true)) (s1 : Hid (TwoIs w 28 X Y S)) (h5 : Hid (CmpIs w S [48] a true)) (u1 : Hid (TwoIs w 26 X Z U)) (u2 : Hid (TwoIs w 26 Y Z V)) (h6 : Hid (CmpIs w U V e false)) (hw : Hid (AwakeIs w)) (a0 : -1 ≤ a) (a1 : a ≤ 1) (hxy2 : (X == Y) = false) (pa : decide (a ≤ 0) = false) (pb : decide (a < 0) = false) (pz : (a == 0) = false) : Calls Tryz.prog 12 #[.string ⟨X.toArray⟩, .string ⟨Y.toArray⟩, .string ⟨Z.toArray⟩] w (OrdPost w) := by
  have B0 := hiD (Below.refl w.heap.size w)
  go_enter Tryz.func12, Tryz.ntmps12
  go_wp2_with fail
  refine (h1.out _ B0.out).mono ?_
  rintro e w1 ⟨rfl, hb⟩
  have B1 := hiD (B0.out.trans (hb.mono B0.out.size))
  clear hb
  go_wp2_with fail
  refine (h2.out _ B1.out).mono ?_
  rintro e w2 ⟨rfl, hb⟩
  have B2 := hiD (B1.out.trans (hb.mono B1.out.size))
  clear hb
  go_wp2_with fail
  refine (h3.out _ B2.out).mono ?_
  rintro e w3 ⟨rfl, hb⟩
  have B3 := hiD (B2.out.trans (hb.mono B2.out.size))
  clear hb
  go_wp2_with fail
  refine (h4.out _ B3.out).mono ?_
  rintro e w4 ⟨rfl, hb⟩
  have B4 := hiD (B3.out.trans (hb.mono B3.out.size))
  clear hb
  go_wp2_with fail
  refine (s1.out _ B4.out).mono ?_
  rintro e w5 ⟨rfl, hb⟩
  have B5 := hiD (B4.out.trans (hb.mono B4.out.size))
  clear hb
  go_wp2_with fail
  refine (h5.out _ B5.out).mono ?_
  rintro e w6 ⟨rfl, hb⟩
  have B6 := hiD (B5.out.trans (hb.mono B5.out.size))
  clear hb
  go_wp2_with fail
  refine (u1.out _ B6.out).mono ?_
  rintro e w7 ⟨rfl, hb⟩
  have B7 := hiD (B6.out.trans (hb.mono B6.out.size))
  clear hb
  go_wp2_with fail
  refine (u2.out _ B7.out).mono ?_
  rintro e w8 ⟨rfl, hb⟩
  have B8 := hiD (B7.out.trans (hb.mono B7.out.size))
  clear hb
  go_wp2_with fail
  refine (h6.out _ B8.out).mono ?_
  rintro e w9 ⟨rfl, hb⟩
  have B9 := hiD (B8.out.trans (hb.mono B8.out.size))
  clear hb
  go_wp2_with fail
  refine (hw.out _ B9.out).mono ?_
  rintro e w10 ⟨rfl, hb⟩
  have B10 := hiD (B9.out.trans (hb.mono B9.out.size))
  clear hb
  go_wp2_with fail
  go_ret
  exact ⟨rfl, B10.out⟩
theorem order_p_ft (X Y Z S U V : List UInt8) (a b c d : Int) (w : World) (h1 : Hid (CmpIs w X Y a true)) (h2 : Hid (CmpIs w Y Z b true)) (h3 : Hid (CmpIs w X Z c true)) (h4 : Hid (CmpIs w Y X (-a) true)) (s1 : Hid (TwoIs w 28 X Y S)) (h5 : Hid (CmpIs w S [48] d false)) (u1 : Hid (TwoIs w 26 X Z U)) (u2 : Hid (TwoIs w 26 Y Z V)) (h6 : Hid (CmpIs w U V a true)) (hw : Hid (AwakeIs w)) (a0 : -1 ≤ a) (a1 : a ≤ 1) (hxy2 : (X == Y) = false) (pa : decide (a ≤ 0) = false) (pb : decide (a < 0) = false) (pz : (a == 0) = false) : Calls Tryz.prog 12 #[.string ⟨X.toArray⟩, .string ⟨Y.toArray⟩, .string ⟨Z.toArray⟩] w (OrdPost w) := by
  have B0 := hiD (Below.refl w.heap.size w)
  go_enter Tryz.func12, Tryz.ntmps12
  go_wp2_with fail
  refine (h1.out _ B0.out).mono ?_
  rintro e w1 ⟨rfl, hb⟩
  have B1 := hiD (B0.out.trans (hb.mono B0.out.size))
  clear hb
  go_wp2_with fail
  refine (h2.out _ B1.out).mono ?_
  rintro e w2 ⟨rfl, hb⟩
  have B2 := hiD (B1.out.trans (hb.mono B1.out.size))
  clear hb
  go_wp2_with fail
  refine (h3.out _ B2.out).mono ?_
  rintro e w3 ⟨rfl, hb⟩
  have B3 := hiD (B2.out.trans (hb.mono B2.out.size))
  clear hb
  go_wp2_with fail
  refine (h4.out _ B3.out).mono ?_
  rintro e w4 ⟨rfl, hb⟩
  have B4 := hiD (B3.out.trans (hb.mono B3.out.size))
  clear hb
  go_wp2_with fail
  refine (s1.out _ B4.out).mono ?_
  rintro e w5 ⟨rfl, hb⟩
  have B5 := hiD (B4.out.trans (hb.mono B4.out.size))
  clear hb
  go_wp2_with fail
  refine (h5.out _ B5.out).mono ?_
  rintro e w6 ⟨rfl, hb⟩
  have B6 := hiD (B5.out.trans (hb.mono B5.out.size))
  clear hb
  go_wp2_with fail
  refine (u1.out _ B6.out).mono ?_
  rintro e w7 ⟨rfl, hb⟩
  have B7 := hiD (B6.out.trans (hb.mono B6.out.size))
  clear hb
  go_wp2_with fail
  refine (u2.out _ B7.out).mono ?_
  rintro e w8 ⟨rfl, hb⟩
  have B8 := hiD (B7.out.trans (hb.mono B7.out.size))
  clear hb
  go_wp2_with fail
  refine (h6.out _ B8.out).mono ?_
  rintro e w9 ⟨rfl, hb⟩
  have B9 := hiD (B8.out.trans (hb.mono B8.out.size))
  clear hb
  go_wp2_with fail
  refine (hw.out _ B9.out).mono ?_
  rintro e w10 ⟨rfl, hb⟩
  have B10 := hiD (B9.out.trans (hb.mono B9.out.size))
  clear hb
  go_wp2_with fail
  go_ret
  exact ⟨rfl, B10.out⟩
theorem order_p_ff (X Y Z S U V : List UInt8) (a b c d e : Int) (w : World) (h1 : Hid (CmpIs w X Y a true)) (h2 : Hid (CmpIs w Y Z b true)) (h3 : Hid (CmpIs w X Z c true)) (h4 : Hid (CmpIs w Y X (-a) true)) (s1 : Hid (TwoIs w 28 X Y S)) (h5 : Hid (CmpIs w S [48] d false)) (u1 : Hid (TwoIs w 26 X Z U)) (u2 : Hid (TwoIs w 26 Y Z V)) (h6 : Hid (CmpIs w U V e false)) (hw : Hid (AwakeIs w)) (a0 : -1 ≤ a) (a1 : a ≤ 1) (hxy2 : (X == Y) = false) (pa : decide (a ≤ 0) = false) (pb : decide (a < 0) = false) (pz : (a == 0) = false) : Calls Tryz.prog 12 #[.string ⟨X.toArray⟩, .string ⟨Y.toArray⟩, .string ⟨Z.toArray⟩] w (OrdPost w) := by
  have B0 := hiD (Below.refl w.heap.size w)
  go_enter Tryz.func12, Tryz.ntmps12
  go_wp2_with fail
  refine (h1.out _ B0.out).mono ?_
  rintro e w1 ⟨rfl, hb⟩
  have B1 := hiD (B0.out.trans (hb.mono B0.out.size))
  clear hb
  go_wp2_with fail
  refine (h2.out _ B1.out).mono ?_
  rintro e w2 ⟨rfl, hb⟩
  have B2 := hiD (B1.out.trans (hb.mono B1.out.size))
  clear hb
  go_wp2_with fail
  refine (h3.out _ B2.out).mono ?_
  rintro e w3 ⟨rfl, hb⟩
  have B3 := hiD (B2.out.trans (hb.mono B2.out.size))
  clear hb
  go_wp2_with fail
  refine (h4.out _ B3.out).mono ?_
  rintro e w4 ⟨rfl, hb⟩
  have B4 := hiD (B3.out.trans (hb.mono B3.out.size))
  clear hb
  go_wp2_with fail
  refine (s1.out _ B4.out).mono ?_
  rintro e w5 ⟨rfl, hb⟩
  have B5 := hiD (B4.out.trans (hb.mono B4.out.size))
  clear hb
  go_wp2_with fail
  refine (h5.out _ B5.out).mono ?_
  rintro e w6 ⟨rfl, hb⟩
  have B6 := hiD (B5.out.trans (hb.mono B5.out.size))
  clear hb
  go_wp2_with fail
  refine (u1.out _ B6.out).mono ?_
  rintro e w7 ⟨rfl, hb⟩
  have B7 := hiD (B6.out.trans (hb.mono B6.out.size))
  clear hb
  go_wp2_with fail
  refine (u2.out _ B7.out).mono ?_
  rintro e w8 ⟨rfl, hb⟩
  have B8 := hiD (B7.out.trans (hb.mono B7.out.size))
  clear hb
  go_wp2_with fail
  refine (h6.out _ B8.out).mono ?_
  rintro e w9 ⟨rfl, hb⟩
  have B9 := hiD (B8.out.trans (hb.mono B8.out.size))
  clear hb
  go_wp2_with fail
  refine (hw.out _ B9.out).mono ?_
  rintro e w10 ⟨rfl, hb⟩
  have B10 := hiD (B9.out.trans (hb.mono B9.out.size))
  clear hb
  go_wp2_with fail
  go_ret
  exact ⟨rfl, B10.out⟩
theorem order_zn_tt (X Z S U V : List UInt8) (b c : Int) (w : World) (h1 : Hid (CmpIs w X X 0 true)) (h2 : Hid (CmpIs w X Z b true)) (h3 : Hid (CmpIs w X Z c true)) (h4 : Hid (CmpIs w X X 0 true)) (s1 : Hid (TwoIs w 28 X X S)) (h5 : Hid (CmpIs w S [48] 0 true)) (u1 : Hid (TwoIs w 26 X Z U)) (u2 : Hid (TwoIs w 26 X Z V)) (h6 : Hid (CmpIs w U V 0 true)) (hw : Hid (AwakeIs w)) (qa : decide (b ≤ 0) = true) (ra : decide (0 < c) = false) : Calls Tryz.prog 12 #[.string ⟨X.toArray⟩, .string ⟨X.toArray⟩, .string ⟨Z.toArray⟩] w (OrdPost w) := by
  have B0 := hiD (Below.refl w.heap.size w)
  go_enter Tryz.func12, Tryz.ntmps12
  go_wp2_with fail
  refine (h1.out _ B0.out).mono ?_
  rintro e w1 ⟨rfl, hb⟩
  have B1 := hiD (B0.out.trans (hb.mono B0.out.size))
  clear hb
  go_wp2_with fail
  refine (h2.out _ B1.out).mono ?_
  rintro e w2 ⟨rfl, hb⟩
  have B2 := hiD (B1.out.trans (hb.mono B1.out.size))
  clear hb
  go_wp2_with fail
  refine (h3.out _ B2.out).mono ?_
  rintro e w3 ⟨rfl, hb⟩
  have B3 := hiD (B2.out.trans (hb.mono B2.out.size))
  clear hb
  go_wp2_with fail
  refine (h4.out _ B3.out).mono ?_
  rintro e w4 ⟨rfl, hb⟩
  have B4 := hiD (B3.out.trans (hb.mono B3.out.size))
  clear hb
  go_wp2_with fail
  refine (s1.out _ B4.out).mono ?_
  rintro e w5 ⟨rfl, hb⟩
  have B5 := hiD (B4.out.trans (hb.mono B4.out.size))
  clear hb
  go_wp2_with fail
  refine (h5.out _ B5.out).mono ?_
  rintro e w6 ⟨rfl, hb⟩
  have B6 := hiD (B5.out.trans (hb.mono B5.out.size))
  clear hb
  go_wp2_with fail
  refine (u1.out _ B6.out).mono ?_
  rintro e w7 ⟨rfl, hb⟩
  have B7 := hiD (B6.out.trans (hb.mono B6.out.size))
  clear hb
  go_wp2_with fail
  refine (u2.out _ B7.out).mono ?_
  rintro e w8 ⟨rfl, hb⟩
  have B8 := hiD (B7.out.trans (hb.mono B7.out.size))
  clear hb
  go_wp2_with fail
  refine (h6.out _ B8.out).mono ?_
  rintro e w9 ⟨rfl, hb⟩
  have B9 := hiD (B8.out.trans (hb.mono B8.out.size))
  clear hb
  go_wp2_with fail
  refine (hw.out _ B9.out).mono ?_
  rintro e w10 ⟨rfl, hb⟩
  have B10 := hiD (B9.out.trans (hb.mono B9.out.size))
  clear hb
  go_wp2_with fail
  go_ret
  exact ⟨rfl, B10.out⟩
theorem order_zn_tf (X Z S U V : List UInt8) (b c e : Int) (w : World) (h1 : Hid (CmpIs w X X 0 true)) (h2 : Hid (CmpIs w X Z b true)) (h3 : Hid (CmpIs w X Z c true)) (h4 : Hid (CmpIs w X X 0 true)) (s1 : Hid (TwoIs w 28 X X S)) (h5 : Hid (CmpIs w S [48] 0 true)) (u1 : Hid (TwoIs w 26 X Z U)) (u2 : Hid (TwoIs w 26 X Z V)) (h6 : Hid (CmpIs w U V e false)) (hw : Hid (AwakeIs w)) (qa : decide (b ≤ 0) = true) (ra : decide (0 < c) = false) : Calls Tryz.prog 12 #[.string ⟨X.toArray⟩, .string ⟨X.toArray⟩, .string ⟨Z.toArray⟩] w (OrdPost w) := by
  have B0 := hiD (Below.refl w.heap.size w)
  go_enter Tryz.func12, Tryz.ntmps12
  go_wp2_with fail
  refine (h1.out _ B0.out).mono ?_
  rintro e w1 ⟨rfl, hb⟩
  have B1 := hiD (B0.out.trans (hb.mono B0.out.size))
  clear hb
  go_wp2_with fail
  refine (h2.out _ B1.out).mono ?_
  rintro e w2 ⟨rfl, hb⟩
  have B2 := hiD (B1.out.trans (hb.mono B1.out.size))
  clear hb
  go_wp2_with fail
  refine (h3.out _ B2.out).mono ?_
  rintro e w3 ⟨rfl, hb⟩
  have B3 := hiD (B2.out.trans (hb.mono B2.out.size))
  clear hb
  go_wp2_with fail
  refine (h4.out _ B3.out).mono ?_
  rintro e w4 ⟨rfl, hb⟩
  have B4 := hiD (B3.out.trans (hb.mono B3.out.size))
  clear hb
  go_wp2_with fail
  refine (s1.out _ B4.out).mono ?_
  rintro e w5 ⟨rfl, hb⟩
  have B5 := hiD (B4.out.trans (hb.mono B4.out.size))
  clear hb
  go_wp2_with fail
  refine (h5.out _ B5.out).mono ?_
  rintro e w6 ⟨rfl, hb⟩
  have B6 := hiD (B5.out.trans (hb.mono B5.out.size))
  clear hb
  go_wp2_with fail
  refine (u1.out _ B6.out).mono ?_
  rintro e w7 ⟨rfl, hb⟩
  have B7 := hiD (B6.out.trans (hb.mono B6.out.size))
  clear hb
  go_wp2_with fail
  refine (u2.out _ B7.out).mono ?_
  rintro e w8 ⟨rfl, hb⟩
  have B8 := hiD (B7.out.trans (hb.mono B7.out.size))
  clear hb
  go_wp2_with fail
  refine (h6.out _ B8.out).mono ?_
  rintro e w9 ⟨rfl, hb⟩
  have B9 := hiD (B8.out.trans (hb.mono B8.out.size))
  clear hb
  go_wp2_with fail
  refine (hw.out _ B9.out).mono ?_
  rintro e w10 ⟨rfl, hb⟩
  have B10 := hiD (B9.out.trans (hb.mono B9.out.size))
  clear hb
  go_wp2_with fail
  go_ret
  exact ⟨rfl, B10.out⟩
theorem order_zn_ft (X Z S U V : List UInt8) (b c d : Int) (w : World) (h1 : Hid (CmpIs w X X 0 true)) (h2 : Hid (CmpIs w X Z b true)) (h3 : Hid (CmpIs w X Z c true)) (h4 : Hid (CmpIs w X X 0 true)) (s1 : Hid (TwoIs w 28 X X S)) (h5 : Hid (CmpIs w S [48] d false)) (u1 : Hid (TwoIs w 26 X Z U)) (u2 : Hid (TwoIs w 26 X Z V)) (h6 : Hid (CmpIs w U V 0 true)) (hw : Hid (AwakeIs w)) (qa : decide (b ≤ 0) = true) (ra : decide (0 < c) = false) : Calls Tryz.prog 12 #[.string ⟨X.toArray⟩, .string ⟨X.toArray⟩, .string ⟨Z.toArray⟩] w (OrdPost w) := by
  have B0 := hiD (Below.refl w.heap.size w)
  go_enter Tryz.func12, Tryz.ntmps12
  go_wp2_with fail
  refine (h1.out _ B0.out).mono ?_
  rintro e w1 ⟨rfl, hb⟩
  have B1 := hiD (B0.out.trans (hb.mono B0.out.size))
  clear hb
  go_wp2_with fail
  refine (h2.out _ B1.out).mono ?_
  rintro e w2 ⟨rfl, hb⟩
  have B2 := hiD (B1.out.trans (hb.mono B1.out.size))
  clear hb
  go_wp2_with fail
  refine (h3.out _ B2.out).mono ?_
  rintro e w3 ⟨rfl, hb⟩
  have B3 := hiD (B2.out.trans (hb.mono B2.out.size))
  clear hb
  go_wp2_with fail
  refine (h4.out _ B3.out).mono ?_
  rintro e w4 ⟨rfl, hb⟩
  have B4 := hiD (B3.out.trans (hb.mono B3.out.size))
  clear hb
  go_wp2_with fail
  refine (s1.out _ B4.out).mono ?_
  rintro e w5 ⟨rfl, hb⟩
  have B5 := hiD (B4.out.trans (hb.mono B4.out.size))
  clear hb
  go_wp2_with fail
  refine (h5.out _ B5.out).mono ?_
  rintro e w6 ⟨rfl, hb⟩
  have B6 := hiD (B5.out.trans (hb.mono B5.out.size))
  clear hb
  go_wp2_with fail
  refine (u1.out _ B6.out).mono ?_
  rintro e w7 ⟨rfl, hb⟩
  have B7 := hiD (B6.out.trans (hb.mono B6.out.size))
  clear hb
  go_wp2_with fail
  refine (u2.out _ B7.out).mono ?_
  rintro e w8 ⟨rfl, hb⟩
  have B8 := hiD (B7.out.trans (hb.mono B7.out.size))
  clear hb
  go_wp2_with fail
  refine (h6.out _ B8.out).mono ?_
  rintro e w9 ⟨rfl, hb⟩
  have B9 := hiD (B8.out.trans (hb.mono B8.out.size))
  clear hb
  go_wp2_with fail
  refine (hw.out _ B9.out).mono ?_
  rintro e w10 ⟨rfl, hb⟩
  have B10 := hiD (B9.out.trans (hb.mono B9.out.size))
  clear hb
  go_wp2_with fail
  go_ret
  exact ⟨rfl, B10.out⟩
theorem order_zn_ff (X Z S U V : List UInt8) (b c d e : Int) (w : World) (h1 : Hid (CmpIs w X X 0 true)) (h2 : Hid (CmpIs w X Z b true)) (h3 : Hid (CmpIs w X Z c true)) (h4 : Hid (CmpIs w X X 0 true)) (s1 : Hid (TwoIs w 28 X X S)) (h5 : Hid (CmpIs w S [48] d false)) (u1 : Hid (TwoIs w 26 X Z U)) (u2 : Hid (TwoIs w 26 X Z V)) (h6 : Hid (CmpIs w U V e false)) (hw : Hid (AwakeIs w)) (qa : decide (b ≤ 0) = true) (ra : decide (0 < c) = false) : Calls Tryz.prog 12 #[.string ⟨X.toArray⟩, .string ⟨X.toArray⟩, .string ⟨Z.toArray⟩] w (OrdPost w) := by
  have B0 := hiD (Below.refl w.heap.size w)
  go_enter Tryz.func12, Tryz.ntmps12
  go_wp2_with fail
  refine (h1.out _ B0.out).mono ?_
  rintro e w1 ⟨rfl, hb⟩
  have B1 := hiD (B0.out.trans (hb.mono B0.out.size))
  clear hb
  go_wp2_with fail
  refine (h2.out _ B1.out).mono ?_
  rintro e w2 ⟨rfl, hb⟩
  have B2 := hiD (B1.out.trans (hb.mono B1.out.size))
  clear hb
  go_wp2_with fail
  refine (h3.out _ B2.out).mono ?_
  rintro e w3 ⟨rfl, hb⟩
  have B3 := hiD (B2.out.trans (hb.mono B2.out.size))
  clear hb
  go_wp2_with fail
  refine (h4.out _ B3.out).mono ?_
  rintro e w4 ⟨rfl, hb⟩
  have B4 := hiD (B3.out.trans (hb.mono B3.out.size))
  clear hb
  go_wp2_with fail
  refine (s1.out _ B4.out).mono ?_
  rintro e w5 ⟨rfl, hb⟩
  have B5 := hiD (B4.out.trans (hb.mono B4.out.size))
  clear hb
  go_wp2_with fail
  refine (h5.out _ B5.out).mono ?_
  rintro e w6 ⟨rfl, hb⟩
  have B6 := hiD (B5.out.trans (hb.mono B5.out.size))
  clear hb
  go_wp2_with fail
  refine (u1.out _ B6.out).mono ?_
  rintro e w7 ⟨rfl, hb⟩
  have B7 := hiD (B6.out.trans (hb.mono B6.out.size))
  clear hb
  go_wp2_with fail
  refine (u2.out _ B7.out).mono ?_
  rintro e w8 ⟨rfl, hb⟩
  have B8 := hiD (B7.out.trans (hb.mono B7.out.size))
  clear hb
  go_wp2_with fail
  refine (h6.out _ B8.out).mono ?_
  rintro e w9 ⟨rfl, hb⟩
  have B9 := hiD (B8.out.trans (hb.mono B8.out.size))
  clear hb
  go_wp2_with fail
  refine (hw.out _ B9.out).mono ?_
  rintro e w10 ⟨rfl, hb⟩
  have B10 := hiD (B9.out.trans (hb.mono B9.out.size))
  clear hb
  go_wp2_with fail
  go_ret
  exact ⟨rfl, B10.out⟩
theorem order_zp_tt (X Z S U V : List UInt8) (b c : Int) (w : World) (h1 : Hid (CmpIs w X X 0 true)) (h2 : Hid (CmpIs w X Z b true)) (h3 : Hid (CmpIs w X Z c true)) (h4 : Hid (CmpIs w X X 0 true)) (s1 : Hid (TwoIs w 28 X X S)) (h5 : Hid (CmpIs w S [48] 0 true)) (u1 : Hid (TwoIs w 26 X Z U)) (u2 : Hid (TwoIs w 26 X Z V)) (h6 : Hid (CmpIs w U V 0 true)) (hw : Hid (AwakeIs w)) (qa : decide (b ≤ 0) = false) : Calls Tryz.prog 12 #[.string ⟨X.toArray⟩, .string ⟨X.toArray⟩, .string ⟨Z.toArray⟩] w (OrdPost w) := by
  have B0 := hiD (Below.refl w.heap.size w)
  go_enter Tryz.func12, Tryz.ntmps12
  go_wp2_with fail
  refine (h1.out _ B0.out).mono ?_
  rintro e w1 ⟨rfl, hb⟩
  have B1 := hiD (B0.out.trans (hb.mono B0.out.size))
  clear hb
  go_wp2_with fail
  refine (h2.out _ B1.out).mono ?_
  rintro e w2 ⟨rfl, hb⟩
  have B2 := hiD (B1.out.trans (hb.mono B1.out.size))
  clear hb
  go_wp2_with fail
  refine (h3.out _ B2.out).mono ?_
  rintro e w3 ⟨rfl, hb⟩
  have B3 := hiD (B2.out.trans (hb.mono B2.out.size))
  clear hb
  go_wp2_with fail
  refine (h4.out _ B3.out).mono ?_
  rintro e w4 ⟨rfl, hb⟩
  have B4 := hiD (B3.out.trans (hb.mono B3.out.size))
  clear hb
  go_wp2_with fail
  refine (s1.out _ B4.out).mono ?_
  rintro e w5 ⟨rfl, hb⟩
  have B5 := hiD (B4.out.trans (hb.mono B4.out.size))
  clear hb
  go_wp2_with fail
  refine (h5.out _ B5.out).mono ?_
  rintro e w6 ⟨rfl, hb⟩
  have B6 := hiD (B5.out.trans (hb.mono B5.out.size))
  clear hb
  go_wp2_with fail
  refine (u1.out _ B6.out).mono ?_
  rintro e w7 ⟨rfl, hb⟩
  have B7 := hiD (B6.out.trans (hb.mono B6.out.size))
  clear hb
  go_wp2_with fail
  refine (u2.out _ B7.out).mono ?_
  rintro e w8 ⟨rfl, hb⟩
  have B8 := hiD (B7.out.trans (hb.mono B7.out.size))
  clear hb
  go_wp2_with fail
  refine (h6.out _ B8.out).mono ?_
  rintro e w9 ⟨rfl, hb⟩
  have B9 := hiD (B8.out.trans (hb.mono B8.out.size))
  clear hb
  go_wp2_with fail
  refine (hw.out _ B9.out).mono ?_
  rintro e w10 ⟨rfl, hb⟩
  have B10 := hiD (B9.out.trans (hb.mono B9.out.size))
  clear hb
  go_wp2_with fail
  go_ret
  exact ⟨rfl, B10.out⟩
theorem order_zp_tf (X Z S U V : List UInt8) (b c e : Int) (w : World) (h1 : Hid (CmpIs w X X 0 true)) (h2 : Hid (CmpIs w X Z b true)) (h3 : Hid (CmpIs w X Z c true)) (h4 : Hid (CmpIs w X X 0 true)) (s1 : Hid (TwoIs w 28 X X S)) (h5 : Hid (CmpIs w S [48] 0 true)) (u1 : Hid (TwoIs w 26 X Z U)) (u2 : Hid (TwoIs w 26 X Z V)) (h6 : Hid (CmpIs w U V e false)) (hw : Hid (AwakeIs w)) (qa : decide (b ≤ 0) = false) : Calls Tryz.prog 12 #[.string ⟨X.toArray⟩, .string ⟨X.toArray⟩, .string ⟨Z.toArray⟩] w (OrdPost w) := by
  have B0 := hiD (Below.refl w.heap.size w)
  go_enter Tryz.func12, Tryz.ntmps12
  go_wp2_with fail
  refine (h1.out _ B0.out).mono ?_
  rintro e w1 ⟨rfl, hb⟩
  have B1 := hiD (B0.out.trans (hb.mono B0.out.size))
  clear hb
  go_wp2_with fail
  refine (h2.out _ B1.out).mono ?_
  rintro e w2 ⟨rfl, hb⟩
  have B2 := hiD (B1.out.trans (hb.mono B1.out.size))
  clear hb
  go_wp2_with fail
  refine (h3.out _ B2.out).mono ?_
  rintro e w3 ⟨rfl, hb⟩
  have B3 := hiD (B2.out.trans (hb.mono B2.out.size))
  clear hb
  go_wp2_with fail
  refine (h4.out _ B3.out).mono ?_
  rintro e w4 ⟨rfl, hb⟩
  have B4 := hiD (B3.out.trans (hb.mono B3.out.size))
  clear hb
  go_wp2_with fail
  refine (s1.out _ B4.out).mono ?_
  rintro e w5 ⟨rfl, hb⟩
  have B5 := hiD (B4.out.trans (hb.mono B4.out.size))
  clear hb
  go_wp2_with fail
  refine (h5.out _ B5.out).mono ?_
  rintro e w6 ⟨rfl, hb⟩
  have B6 := hiD (B5.out.trans (hb.mono B5.out.size))
  clear hb
  go_wp2_with fail
  refine (u1.out _ B6.out).mono ?_
  rintro e w7 ⟨rfl, hb⟩
  have B7 := hiD (B6.out.trans (hb.mono B6.out.size))
  clear hb
  go_wp2_with fail
  refine (u2.out _ B7.out).mono ?_
  rintro e w8 ⟨rfl, hb⟩
  have B8 := hiD (B7.out.trans (hb.mono B7.out.size))
  clear hb
  go_wp2_with fail
  refine (h6.out _ B8.out).mono ?_
  rintro e w9 ⟨rfl, hb⟩
  have B9 := hiD (B8.out.trans (hb.mono B8.out.size))
  clear hb
  go_wp2_with fail
  refine (hw.out _ B9.out).mono ?_
  rintro e w10 ⟨rfl, hb⟩
  have B10 := hiD (B9.out.trans (hb.mono B9.out.size))
  clear hb
  go_wp2_with fail
  go_ret
  exact ⟨rfl, B10.out⟩
theorem order_zp_ft (X Z S U V : List UInt8) (b c d : Int) (w : World) (h1 : Hid (CmpIs w X X 0 true)) (h2 : Hid (CmpIs w X Z b true)) (h3 : Hid (CmpIs w X Z c true)) (h4 : Hid (CmpIs w X X 0 true)) (s1 : Hid (TwoIs w 28 X X S)) (h5 : Hid (CmpIs w S [48] d false)) (u1 : Hid (TwoIs w 26 X Z U)) (u2 : Hid (TwoIs w 26 X Z V)) (h6 : Hid (CmpIs w U V 0 true)) (hw : Hid (AwakeIs w)) (qa : decide (b ≤ 0) = false) : Calls Tryz.prog 12 #[.string ⟨X.toArray⟩, .string ⟨X.toArray⟩, .string ⟨Z.toArray⟩] w (OrdPost w) := by
  have B0 := hiD (Below.refl w.heap.size w)
  go_enter Tryz.func12, Tryz.ntmps12
  go_wp2_with fail
  refine (h1.out _ B0.out).mono ?_
  rintro e w1 ⟨rfl, hb⟩
  have B1 := hiD (B0.out.trans (hb.mono B0.out.size))
  clear hb
  go_wp2_with fail
  refine (h2.out _ B1.out).mono ?_
  rintro e w2 ⟨rfl, hb⟩
  have B2 := hiD (B1.out.trans (hb.mono B1.out.size))
  clear hb
  go_wp2_with fail
  refine (h3.out _ B2.out).mono ?_
  rintro e w3 ⟨rfl, hb⟩
  have B3 := hiD (B2.out.trans (hb.mono B2.out.size))
  clear hb
  go_wp2_with fail
  refine (h4.out _ B3.out).mono ?_
  rintro e w4 ⟨rfl, hb⟩
  have B4 := hiD (B3.out.trans (hb.mono B3.out.size))
  clear hb
  go_wp2_with fail
  refine (s1.out _ B4.out).mono ?_
  rintro e w5 ⟨rfl, hb⟩
  have B5 := hiD (B4.out.trans (hb.mono B4.out.size))
  clear hb
  go_wp2_with fail
  refine (h5.out _ B5.out).mono ?_
  rintro e w6 ⟨rfl, hb⟩
  have B6 := hiD (B5.out.trans (hb.mono B5.out.size))
  clear hb
  go_wp2_with fail
  refine (u1.out _ B6.out).mono ?_
  rintro e w7 ⟨rfl, hb⟩
  have B7 := hiD (B6.out.trans (hb.mono B6.out.size))
  clear hb
  go_wp2_with fail
  refine (u2.out _ B7.out).mono ?_
  rintro e w8 ⟨rfl, hb⟩
  have B8 := hiD (B7.out.trans (hb.mono B7.out.size))
  clear hb
  go_wp2_with fail
  refine (h6.out _ B8.out).mono ?_
  rintro e w9 ⟨rfl, hb⟩
  have B9 := hiD (B8.out.trans (hb.mono B8.out.size))
  clear hb
  go_wp2_with fail
  refine (hw.out _ B9.out).mono ?_
  rintro e w10 ⟨rfl, hb⟩
  have B10 := hiD (B9.out.trans (hb.mono B9.out.size))
  clear hb
  go_wp2_with fail
  go_ret
  exact ⟨rfl, B10.out⟩
theorem order_zp_ff (X Z S U V : List UInt8) (b c d e : Int) (w : World) (h1 : Hid (CmpIs w X X 0 true)) (h2 : Hid (CmpIs w X Z b true)) (h3 : Hid (CmpIs w X Z c true)) (h4 : Hid (CmpIs w X X 0 true)) (s1 : Hid (TwoIs w 28 X X S)) (h5 : Hid (CmpIs w S [48] d false)) (u1 : Hid (TwoIs w 26 X Z U)) (u2 : Hid (TwoIs w 26 X Z V)) (h6 : Hid (CmpIs w U V e false)) (hw : Hid (AwakeIs w)) (qa : decide (b ≤ 0) = false) : Calls Tryz.prog 12 #[.string ⟨X.toArray⟩, .string ⟨X.toArray⟩, .string ⟨Z.toArray⟩] w (OrdPost w) := by
  have B0 := hiD (Below.refl w.heap.size w)
  go_enter Tryz.func12, Tryz.ntmps12
  go_wp2_with fail
  refine (h1.out _ B0.out).mono ?_
  rintro e w1 ⟨rfl, hb⟩
  have B1 := hiD (B0.out.trans (hb.mono B0.out.size))
  clear hb
  go_wp2_with fail
  refine (h2.out _ B1.out).mono ?_
  rintro e w2 ⟨rfl, hb⟩
  have B2 := hiD (B1.out.trans (hb.mono B1.out.size))
  clear hb
  go_wp2_with fail
  refine (h3.out _ B2.out).mono ?_
  rintro e w3 ⟨rfl, hb⟩
  have B3 := hiD (B2.out.trans (hb.mono B2.out.size))
  clear hb
  go_wp2_with fail
  refine (h4.out _ B3.out).mono ?_
  rintro e w4 ⟨rfl, hb⟩
  have B4 := hiD (B3.out.trans (hb.mono B3.out.size))
  clear hb
  go_wp2_with fail
  refine (s1.out _ B4.out).mono ?_
  rintro e w5 ⟨rfl, hb⟩
  have B5 := hiD (B4.out.trans (hb.mono B4.out.size))
  clear hb
  go_wp2_with fail
  refine (h5.out _ B5.out).mono ?_
  rintro e w6 ⟨rfl, hb⟩
  have B6 := hiD (B5.out.trans (hb.mono B5.out.size))
  clear hb
  go_wp2_with fail
  refine (u1.out _ B6.out).mono ?_
  rintro e w7 ⟨rfl, hb⟩
  have B7 := hiD (B6.out.trans (hb.mono B6.out.size))
  clear hb
  go_wp2_with fail
  refine (u2.out _ B7.out).mono ?_
  rintro e w8 ⟨rfl, hb⟩
  have B8 := hiD (B7.out.trans (hb.mono B7.out.size))
  clear hb
  go_wp2_with fail
  refine (h6.out _ B8.out).mono ?_
  rintro e w9 ⟨rfl, hb⟩
  have B9 := hiD (B8.out.trans (hb.mono B8.out.size))
  clear hb
  go_wp2_with fail
  refine (hw.out _ B9.out).mono ?_
  rintro e w10 ⟨rfl, hb⟩
  have B10 := hiD (B9.out.trans (hb.mono B9.out.size))
  clear hb
  go_wp2_with fail
  go_ret
  exact ⟨rfl, B10.out⟩
theorem order_nn_tt (X Y Z S U V : List UInt8) (a b c : Int) (w : World) (h1 : Hid (CmpIs w X Y a true)) (h2 : Hid (CmpIs w Y Z b true)) (h3 : Hid (CmpIs w X Z c true)) (h4 : Hid (CmpIs w Y X (-a) true)) (s1 : Hid (TwoIs w 28 X Y S)) (h5 : Hid (CmpIs w S [48] a true)) (u1 : Hid (TwoIs w 26 X Z U)) (u2 : Hid (TwoIs w 26 Y Z V)) (h6 : Hid (CmpIs w U V a true)) (hw : Hid (AwakeIs w)) (a0 : -1 ≤ a) (a1 : a ≤ 1) (hxy2 : (X == Y) = false) (pa : decide (a ≤ 0) = true) (pb : decide (a < 0) = true) (pz : (a == 0) = false) (qa : decide (b ≤ 0) = true) (qb : decide (b < 0) = true) (ra : decide (0 < c) = false) (rb : decide (0 ≤ c) = false) : Calls Tryz.prog 12 #[.string ⟨X.toArray⟩, .string ⟨Y.toArray⟩, .string ⟨Z.toArray⟩] w (OrdPost w) := by
  have B0 := hiD (Below.refl w.heap.size w)
  go_enter Tryz.func12, Tryz.ntmps12
  go_wp2_with fail
  refine (h1.out _ B0.out).mono ?_
  rintro e w1 ⟨rfl, hb⟩
  have B1 := hiD (B0.out.trans (hb.mono B0.out.size))
  clear hb
  go_wp2_with fail
  refine (h2.out _ B1.out).mono ?_
  rintro e w2 ⟨rfl, hb⟩
  have B2 := hiD (B1.out.trans (hb.mono B1.out.size))
  clear hb
  go_wp2_with fail
  refine (h3.out _ B2.out).mono ?_
  rintro e w3 ⟨rfl, hb⟩
  have B3 := hiD (B2.out.trans (hb.mono B2.out.size))
  clear hb
  go_wp2_with fail
  refine (h4.out _ B3.out).mono ?_
  rintro e w4 ⟨rfl, hb⟩
  have B4 := hiD (B3.out.trans (hb.mono B3.out.size))
  clear hb
  go_wp2_with fail
  refine (s1.out _ B4.out).mono ?_
  rintro e w5 ⟨rfl, hb⟩
  have B5 := hiD (B4.out.trans (hb.mono B4.out.size))
  clear hb
  go_wp2_with fail
  refine (h5.out _ B5.out).mono ?_
  rintro e w6 ⟨rfl, hb⟩
  have B6 := hiD (B5.out.trans (hb.mono B5.out.size))
  clear hb
  go_wp2_with fail
  refine (u1.out _ B6.out).mono ?_
  rintro e w7 ⟨rfl, hb⟩
  have B7 := hiD (B6.out.trans (hb.mono B6.out.size))
  clear hb
  go_wp2_with fail
  refine (u2.out _ B7.out).mono ?_
  rintro e w8 ⟨rfl, hb⟩
  have B8 := hiD (B7.out.trans (hb.mono B7.out.size))
  clear hb
  go_wp2_with fail
  refine (h6.out _ B8.out).mono ?_
  rintro e w9 ⟨rfl, hb⟩
  have B9 := hiD (B8.out.trans (hb.mono B8.out.size))
  clear hb
  go_wp2_with fail
  refine (hw.out _ B9.out).mono ?_
  rintro e w10 ⟨rfl, hb⟩
  have B10 := hiD (B9.out.trans (hb.mono B9.out.size))
  clear hb
  go_wp2_with fail
  go_ret
  exact ⟨rfl, B10.out⟩
theorem order_nn_tf (X Y Z S U V : List UInt8) (a b c e : Int) (w : World) (h1 : Hid (CmpIs w X Y a true)) (h2 : Hid (CmpIs w Y Z b true)) (h3 : Hid (CmpIs w X Z c true)) (h4 : Hid (CmpIs w Y X (-a) true)) (s1 : Hid (TwoIs w 28 X Y S)) (h5 : Hid (CmpIs w S [48] a true)) (u1 : Hid (TwoIs w 26 X Z U)) (u2 : Hid (TwoIs w 26 Y Z V)) (h6 : Hid (CmpIs w U V e false)) (hw : Hid (AwakeIs w)) (a0 : -1 ≤ a) (a1 : a ≤ 1) (hxy2 : (X == Y) = false) (pa : decide (a ≤ 0) = true) (pb : decide (a < 0) = true) (pz : (a == 0) = false) (qa : decide (b ≤ 0) = true) (qb : decide (b < 0) = true) (ra : decide (0 < c) = false) (rb : decide (0 ≤ c) = false) : Calls Tryz.prog 12 #[.string ⟨X.toArray⟩, .string ⟨Y.toArray⟩, .string ⟨Z.toArray⟩] w (OrdPost w) := by
  have B0 := hiD (Below.refl w.heap.size w)
  go_enter Tryz.func12, Tryz.ntmps12
  go_wp2_with fail
  refine (h1.out _ B0.out).mono ?_
  rintro e w1 ⟨rfl, hb⟩
  have B1 := hiD (B0.out.trans (hb.mono B0.out.size))
  clear hb
  go_wp2_with fail
  refine (h2.out _ B1.out).mono ?_
  rintro e w2 ⟨rfl, hb⟩
  have B2 := hiD (B1.out.trans (hb.mono B1.out.size))
  clear hb
  go_wp2_with fail
  refine (h3.out _ B2.out).mono ?_
  rintro e w3 ⟨rfl, hb⟩
  have B3 := hiD (B2.out.trans (hb.mono B2.out.size))
  clear hb
  go_wp2_with fail
  refine (h4.out _ B3.out).mono ?_
  rintro e w4 ⟨rfl, hb⟩
  have B4 := hiD (B3.out.trans (hb.mono B3.out.size))
  clear hb
  go_wp2_with fail
  refine (s1.out _ B4.out).mono ?_
  rintro e w5 ⟨rfl, hb⟩
  have B5 := hiD (B4.out.trans (hb.mono B4.out.size))
  clear hb
  go_wp2_with fail
  refine (h5.out _ B5.out).mono ?_
  rintro e w6 ⟨rfl, hb⟩
  have B6 := hiD (B5.out.trans (hb.mono B5.out.size))
  clear hb
  go_wp2_with fail
  refine (u1.out _ B6.out).mono ?_
  rintro e w7 ⟨rfl, hb⟩
  have B7 := hiD (B6.out.trans (hb.mono B6.out.size))
  clear hb
  go_wp2_with fail
  refine (u2.out _ B7.out).mono ?_
  rintro e w8 ⟨rfl, hb⟩
  have B8 := hiD (B7.out.trans (hb.mono B7.out.size))
  clear hb
  go_wp2_with fail
  refine (h6.out _ B8.out).mono ?_
  rintro e w9 ⟨rfl, hb⟩
  have B9 := hiD (B8.out.trans (hb.mono B8.out.size))
  clear hb
  go_wp2_with fail
  refine (hw.out _ B9.out).mono ?_
  rintro e w10 ⟨rfl, hb⟩
  have B10 := hiD (B9.out.trans (hb.mono B9.out.size))
  clear hb
  go_wp2_with fail
  go_ret
  exact ⟨rfl, B10.out⟩
theorem order_nn_ft (X Y Z S U V : List UInt8) (a b c d : Int) (w : World) (h1 : Hid (CmpIs w X Y a true)) (h2 : Hid (CmpIs w Y Z b true)) (h3 : Hid (CmpIs w X Z c true)) (h4 : Hid (CmpIs w Y X (-a) true)) (s1 : Hid (TwoIs w 28 X Y S)) (h5 : Hid (CmpIs w S [48] d false)) (u1 : Hid (TwoIs w 26 X Z U)) (u2 : Hid (TwoIs w 26 Y Z V)) (h6 : Hid (CmpIs w U V a true)) (hw : Hid (AwakeIs w)) (a0 : -1 ≤ a) (a1 : a ≤ 1) (hxy2 : (X == Y) = false) (pa : decide (a ≤ 0) = true) (pb : decide (a < 0) = true) (pz : (a == 0) = false) (qa : decide (b ≤ 0) = true) (qb : decide (b < 0) = true) (ra : decide (0 < c) = false) (rb : decide (0 ≤ c) = false) : Calls Tryz.prog 12 #[.string ⟨X.toArray⟩, .string ⟨Y.toArray⟩, .string ⟨Z.toArray⟩] w (OrdPost w) := by
  have B0 := hiD (Below.refl w.heap.size w)
  go_enter Tryz.func12, Tryz.ntmps12
  go_wp2_with fail
  refine (h1.out _ B0.out).mono ?_
  rintro e w1 ⟨rfl, hb⟩
  have B1 := hiD (B0.out.trans (hb.mono B0.out.size))
  clear hb
  go_wp2_with fail
  refine (h2.out _ B1.out).mono ?_
  rintro e w2 ⟨rfl, hb⟩
  have B2 := hiD (B1.out.trans (hb.mono B1.out.size))
  clear hb
  go_wp2_with fail
  refine (h3.out _ B2.out).mono ?_
  rintro e w3 ⟨rfl, hb⟩
  have B3 := hiD (B2.out.trans (hb.mono B2.out.size))
  clear hb
  go_wp2_with fail
  refine (h4.out _ B3.out).mono ?_
  rintro e w4 ⟨rfl, hb⟩
  have B4 := hiD (B3.out.trans (hb.mono B3.out.size))
  clear hb
  go_wp2_with fail
  refine (s1.out _ B4.out).mono ?_
  rintro e w5 ⟨rfl, hb⟩
  have B5 := hiD (B4.out.trans (hb.mono B4.out.size))
  clear hb
  go_wp2_with fail
  refine (h5.out _ B5.out).mono ?_
  rintro e w6 ⟨rfl, hb⟩
  have B6 := hiD (B5.out.trans (hb.mono B5.out.size))
  clear hb
  go_wp2_with fail
  refine (u1.out _ B6.out).mono ?_
  rintro e w7 ⟨rfl, hb⟩
  have B7 := hiD (B6.out.trans (hb.mono B6.out.size))
  clear hb
  go_wp2_with fail
  refine (u2.out _ B7.out).mono ?_
  rintro e w8 ⟨rfl, hb⟩
  have B8 := hiD (B7.out.trans (hb.mono B7.out.size))
  clear hb
  go_wp2_with fail
  refine (h6.out _ B8.out).mono ?_
  rintro e w9 ⟨rfl, hb⟩
  have B9 := hiD (B8.out.trans (hb.mono B8.out.size))
  clear hb
  go_wp2_with fail
  refine (hw.out _ B9.out).mono ?_
  rintro e w10 ⟨rfl, hb⟩
  have B10 := hiD (B9.out.trans (hb.mono B9.out.size))
  clear hb
  go_wp2_with fail
  go_ret
  exact ⟨rfl, B10.out⟩
theorem order_nn_ff (X Y Z S U V : List UInt8) (a b c d e : Int) (w : World) (h1 : Hid (CmpIs w X Y a true)) (h2 : Hid (CmpIs w Y Z b true)) (h3 : Hid (CmpIs w X Z c true)) (h4 : Hid (CmpIs w Y X (-a) true)) (s1 : Hid (TwoIs w 28 X Y S)) (h5 : Hid (CmpIs w S [48] d false)) (u1 : Hid (TwoIs w 26 X Z U)) (u2 : Hid (TwoIs w 26 Y Z V)) (h6 : Hid (CmpIs w U V e false)) (hw : Hid (AwakeIs w)) (a0 : -1 ≤ a) (a1 : a ≤ 1) (hxy2 : (X == Y) = false) (pa : decide (a ≤ 0) = true) (pb : decide (a < 0) = true) (pz : (a == 0) = false) (qa : decide (b ≤ 0) = true) (qb : decide (b < 0) = true) (ra : decide (0 < c) = false) (rb : decide (0 ≤ c) = false) : Calls Tryz.prog 12 #[.string ⟨X.toArray⟩, .string ⟨Y.toArray⟩, .string ⟨Z.toArray⟩] w (OrdPost w) := by
  have B0 := hiD (Below.refl w.heap.size w)
  go_enter Tryz.func12, Tryz.ntmps12
  go_wp2_with fail
  refine (h1.out _ B0.out).mono ?_
  rintro e w1 ⟨rfl, hb⟩
  have B1 := hiD (B0.out.trans (hb.mono B0.out.size))
  clear hb
  go_wp2_with fail
  refine (h2.out _ B1.out).mono ?_
  rintro e w2 ⟨rfl, hb⟩
  have B2 := hiD (B1.out.trans (hb.mono B1.out.size))
  clear hb
  go_wp2_with fail
  refine (h3.out _ B2.out).mono ?_
  rintro e w3 ⟨rfl, hb⟩
  have B3 := hiD (B2.out.trans (hb.mono B2.out.size))
  clear hb
  go_wp2_with fail
  refine (h4.out _ B3.out).mono ?_
  rintro e w4 ⟨rfl, hb⟩
  have B4 := hiD (B3.out.trans (hb.mono B3.out.size))
  clear hb
  go_wp2_with fail
  refine (s1.out _ B4.out).mono ?_
  rintro e w5 ⟨rfl, hb⟩
  have B5 := hiD (B4.out.trans (hb.mono B4.out.size))
  clear hb
  go_wp2_with fail
  refine (h5.out _ B5.out).mono ?_
  rintro e w6 ⟨rfl, hb⟩
  have B6 := hiD (B5.out.trans (hb.mono B5.out.size))
  clear hb
  go_wp2_with fail
  refine (u1.out _ B6.out).mono ?_
  rintro e w7 ⟨rfl, hb⟩
  have B7 := hiD (B6.out.trans (hb.mono B6.out.size))
  clear hb
  go_wp2_with fail
  refine (u2.out _ B7.out).mono ?_
  rintro e w8 ⟨rfl, hb⟩
  have B8 := hiD (B7.out.trans (hb.mono B7.out.size))
  clear hb
  go_wp2_with fail
  refine (h6.out _ B8.out).mono ?_
  rintro e w9 ⟨rfl, hb⟩
  have B9 := hiD (B8.out.trans (hb.mono B8.out.size))
  clear hb
  go_wp2_with fail
  refine (hw.out _ B9.out).mono ?_
  rintro e w10 ⟨rfl, hb⟩
  have B10 := hiD (B9.out.trans (hb.mono B9.out.size))
  clear hb
  go_wp2_with fail
  go_ret
  exact ⟨rfl, B10.out⟩
theorem order_nz_tt (X Y Z S U V : List UInt8) (a b c : Int) (w : World) (h1 : Hid (CmpIs w X Y a true)) (h2 : Hid (CmpIs w Y Z b true)) (h3 : Hid (CmpIs w X Z c true)) (h4 : Hid (CmpIs w Y X (-a) true)) (s1 : Hid (TwoIs w 28 X Y S)) (h5 : Hid (CmpIs w S [48] a true)) (u1 : Hid (TwoIs w 26 X Z U)) (u2 : Hid (TwoIs w 26 Y Z V)) (h6 : Hid (CmpIs w U V a true)) (hw : Hid (AwakeIs w)) (a0 : -1 ≤ a) (a1 : a ≤ 1) (hxy2 : (X == Y) = false) (pa : decide (a ≤ 0) = true) (pb : decide (a < 0) = true) (pz : (a == 0) = false) (qa : decide (b ≤ 0) = true) (qb : decide (b < 0) = false) (ra : decide (0 < c) = false) : Calls Tryz.prog 12 #[.string ⟨X.toArray⟩, .string ⟨Y.toArray⟩, .string ⟨Z.toArray⟩] w (OrdPost w) := by
  have B0 := hiD (Below.refl w.heap.size w)
  go_enter Tryz.func12, Tryz.ntmps12
  go_wp2_with fail
  refine (h1.out _ B0.out).mono ?_
  rintro e w1 ⟨rfl, hb⟩
  have B1 := hiD (B0.out.trans (hb.mono B0.out.size))
  clear hb
  go_wp2_with fail
  refine (h2.out _ B1.out).mono ?_
  rintro e w2 ⟨rfl, hb⟩
  have B2 := hiD (B1.out.trans (hb.mono B1.out.size))
  clear hb
  go_wp2_with fail
  refine (h3.out _ B2.out).mono ?_
  rintro e w3 ⟨rfl, hb⟩
  have B3 := hiD (B2.out.trans (hb.mono B2.out.size))
  clear hb
  go_wp2_with fail
  refine (h4.out _ B3.out).mono ?_
  rintro e w4 ⟨rfl, hb⟩
  have B4 := hiD (B3.out.trans (hb.mono B3.out.size))
  clear hb
  go_wp2_with fail
  refine (s1.out _ B4.out).mono ?_
  rintro e w5 ⟨rfl, hb⟩
  have B5 := hiD (B4.out.trans (hb.mono B4.out.size))
  clear hb
  go_wp2_with fail
  refine (h5.out _ B5.out).mono ?_
  rintro e w6 ⟨rfl, hb⟩
  have B6 := hiD (B5.out.trans (hb.mono B5.out.size))
  clear hb
  go_wp2_with fail
  refine (u1.out _ B6.out).mono ?_
  rintro e w7 ⟨rfl, hb⟩
  have B7 := hiD (B6.out.trans (hb.mono B6.out.size))
  clear hb
  go_wp2_with fail
  refine (u2.out _ B7.out).mono ?_
  rintro e w8 ⟨rfl, hb⟩
  have B8 := hiD (B7.out.trans (hb.mono B7.out.size))
  clear hb
  go_wp2_with fail
  refine (h6.out _ B8.out).mono ?_
  rintro e w9 ⟨rfl, hb⟩
  have B9 := hiD (B8.out.trans (hb.mono B8.out.size))
  clear hb
  go_wp2_with fail
  refine (hw.out _ B9.out).mono ?_
  rintro e w10 ⟨rfl, hb⟩
  have B10 := hiD (B9.out.trans (hb.mono B9.out.size))
  clear hb
  go_wp2_with fail
  go_ret
  exact ⟨rfl, B10.out⟩
theorem order_nz_tf (X Y Z S U V : List UInt8) (a b c e : Int) (w : World) (h1 : Hid (CmpIs w X Y a true)) (h2 : Hid (CmpIs w Y Z b true)) (h3 : Hid (CmpIs w X Z c true)) (h4 : Hid (CmpIs w Y X (-a) true)) (s1 : Hid (TwoIs w 28 X Y S)) (h5 : Hid (CmpIs w S [48] a true)) (u1 : Hid (TwoIs w 26 X Z U)) (u2 : Hid (TwoIs w 26 Y Z V)) (h6 : Hid (CmpIs w U V e false)) (hw : Hid (AwakeIs w)) (a0 : -1 ≤ a) (a1 : a ≤ 1) (hxy2 : (X == Y) = false) (pa : decide (a ≤ 0) = true) (pb : decide (a < 0) = true) (pz : (a == 0) = false) (qa : decide (b ≤ 0) = true) (qb : decide (b < 0) = false) (ra : decide (0 < c) = false) : Calls Tryz.prog 12 #[.string ⟨X.toArray⟩, .string ⟨Y.toArray⟩, .string ⟨Z.toArray⟩] w (OrdPost w) := by
  have B0 := hiD (Below.refl w.heap.size w)
  go_enter Tryz.func12, Tryz.ntmps12
  go_wp2_with fail
  refine (h1.out _ B0.out).mono ?_
  rintro e w1 ⟨rfl, hb⟩
  have B1 := hiD (B0.out.trans (hb.mono B0.out.size))
  clear hb
  go_wp2_with fail
  refine (h2.out _ B1.out).mono ?_
  rintro e w2 ⟨rfl, hb⟩
  have B2 := hiD (B1.out.trans (hb.mono B1.out.size))
  clear hb
  go_wp2_with fail
  refine (h3.out _ B2.out).mono ?_
  rintro e w3 ⟨rfl, hb⟩
  have B3 := hiD (B2.out.trans (hb.mono B2.out.size))
  clear hb
  go_wp2_with fail
  refine (h4.out _ B3.out).mono ?_
  rintro e w4 ⟨rfl, hb⟩
  have B4 := hiD (B3.out.trans (hb.mono B3.out.size))
  clear hb
  go_wp2_with fail
  refine (s1.out _ B4.out).mono ?_
  rintro e w5 ⟨rfl, hb⟩
  have B5 := hiD (B4.out.trans (hb.mono B4.out.size))
  clear hb
  go_wp2_with fail
  refine (h5.out _ B5.out).mono ?_
  rintro e w6 ⟨rfl, hb⟩
  have B6 := hiD (B5.out.trans (hb.mono B5.out.size))
  clear hb
  go_wp2_with fail
  refine (u1.out _ B6.out).mono ?_
  rintro e w7 ⟨rfl, hb⟩
  have B7 := hiD (B6.out.trans (hb.mono B6.out.size))
  clear hb
  go_wp2_with fail
  refine (u2.out _ B7.out).mono ?_
  rintro e w8 ⟨rfl, hb⟩
  have B8 := hiD (B7.out.trans (hb.mono B7.out.size))
  clear hb
  go_wp2_with fail
  refine (h6.out _ B8.out).mono ?_
  rintro e w9 ⟨rfl, hb⟩
  have B9 := hiD (B8.out.trans (hb.mono B8.out.size))
  clear hb
  go_wp2_with fail
  refine (hw.out _ B9.out).mono ?_
  rintro e w10 ⟨rfl, hb⟩
  have B10 := hiD (B9.out.trans (hb.mono B9.out.size))
  clear hb
  go_wp2_with fail
  go_ret
  exact ⟨rfl, B10.out⟩
theorem order_nz_ft (X Y Z S U V : List UInt8) (a b c d : Int) (w : World) (h1 : Hid (CmpIs w X Y a true)) (h2 : Hid (CmpIs w Y Z b true)) (h3 : Hid (CmpIs w X Z c true)) (h4 : Hid (CmpIs w Y X (-a) true)) (s1 : Hid (TwoIs w 28 X Y S)) (h5 : Hid (CmpIs w S [48] d false)) (u1 : Hid (TwoIs w 26 X Z U)) (u2 : Hid (TwoIs w 26 Y Z V)) (h6 : Hid (CmpIs w U V a true)) (hw : Hid (AwakeIs w)) (a0 : -1 ≤ a) (a1 : a ≤ 1) (hxy2 : (X == Y) = false) (pa : decide (a ≤ 0) = true) (pb : decide (a < 0) = true) (pz : (a == 0) = false) (qa : decide (b ≤ 0) = true) (qb : decide (b < 0) = false) (ra : decide (0 < c) = false) : Calls Tryz.prog 12 #[.string ⟨X.toArray⟩, .string ⟨Y.toArray⟩, .string ⟨Z.toArray⟩] w (OrdPost w) := by
  have B0 := hiD (Below.refl w.heap.size w)
  go_enter Tryz.func12, Tryz.ntmps12
  go_wp2_with fail
  refine (h1.out _ B0.out).mono ?_
  rintro e w1 ⟨rfl, hb⟩
  have B1 := hiD (B0.out.trans (hb.mono B0.out.size))
  clear hb
  go_wp2_with fail
  refine (h2.out _ B1.out).mono ?_
  rintro e w2 ⟨rfl, hb⟩
  have B2 := hiD (B1.out.trans (hb.mono B1.out.size))
  clear hb
  go_wp2_with fail
  refine (h3.out _ B2.out).mono ?_
  rintro e w3 ⟨rfl, hb⟩
  have B3 := hiD (B2.out.trans (hb.mono B2.out.size))
  clear hb
  go_wp2_with fail
  refine (h4.out _ B3.out).mono ?_
  rintro e w4 ⟨rfl, hb⟩
  have B4 := hiD (B3.out.trans (hb.mono B3.out.size))
  clear hb
  go_wp2_with fail
  refine (s1.out _ B4.out).mono ?_
  rintro e w5 ⟨rfl, hb⟩
  have B5 := hiD (B4.out.trans (hb.mono B4.out.size))
  clear hb
  go_wp2_with fail
  refine (h5.out _ B5.out).mono ?_
  rintro e w6 ⟨rfl, hb⟩
  have B6 := hiD (B5.out.trans (hb.mono B5.out.size))
  clear hb
  go_wp2_with fail
  refine (u1.out _ B6.out).mono ?_
  rintro e w7 ⟨rfl, hb⟩
  have B7 := hiD (B6.out.trans (hb.mono B6.out.size))
  clear hb
  go_wp2_with fail
  refine (u2.out _ B7.out).mono ?_
  rintro e w8 ⟨rfl, hb⟩
  have B8 := hiD (B7.out.trans (hb.mono B7.out.size))
  clear hb
  go_wp2_with fail
  refine (h6.out _ B8.out).mono ?_
  rintro e w9 ⟨rfl, hb⟩
  have B9 := hiD (B8.out.trans (hb.mono B8.out.size))
  clear hb
  go_wp2_with fail
  refine (hw.out _ B9.out).mono ?_
  rintro e w10 ⟨rfl, hb⟩
  have B10 := hiD (B9.out.trans (hb.mono B9.out.size))
  clear hb
  go_wp2_with fail
  go_ret
  exact ⟨rfl, B10.out⟩
theorem order_nz_ff (X Y Z S U V : List UInt8) (a b c d e : Int) (w : World) (h1 : Hid (CmpIs w X Y a true)) (h2 : Hid (CmpIs w Y Z b true)) (h3 : Hid (CmpIs w X Z c true)) (h4 : Hid (CmpIs w Y X (-a) true)) (s1 : Hid (TwoIs w 28 X Y S)) (h5 : Hid (CmpIs w S [48] d false)) (u1 : Hid (TwoIs w 26 X Z U)) (u2 : Hid (TwoIs w 26 Y Z V)) (h6 : Hid (CmpIs w U V e false)) (hw : Hid (AwakeIs w)) (a0 : -1 ≤ a) (a1 : a ≤ 1) (hxy2 : (X == Y) = false) (pa : decide (a ≤ 0) = true) (pb : decide (a < 0) = true) (pz : (a == 0) = false) (qa : decide (b ≤ 0) = true) (qb : decide (b < 0) = false) (ra : decide (0 < c) = false) : Calls Tryz.prog 12 #[.string ⟨X.toArray⟩, .string ⟨Y.toArray⟩, .string ⟨Z.toArray⟩] w (OrdPost w) := by
  have B0 := hiD (Below.refl w.heap.size w)
  go_enter Tryz.func12, Tryz.ntmps12
  go_wp2_with fail
  refine (h1.out _ B0.out).mono ?_
  rintro e w1 ⟨rfl, hb⟩
  have B1 := hiD (B0.out.trans (hb.mono B0.out.size))
  clear hb
  go_wp2_with fail
  refine (h2.out _ B1.out).mono ?_
  rintro e w2 ⟨rfl, hb⟩
  have B2 := hiD (B1.out.trans (hb.mono B1.out.size))
  clear hb
  go_wp2_with fail
  refine (h3.out _ B2.out).mono ?_
  rintro e w3 ⟨rfl, hb⟩
  have B3 := hiD (B2.out.trans (hb.mono B2.out.size))
  clear hb
  go_wp2_with fail
  refine (h4.out _ B3.out).mono ?_
  rintro e w4 ⟨rfl, hb⟩
  have B4 := hiD (B3.out.trans (hb.mono B3.out.size))
  clear hb
  go_wp2_with fail
  refine (s1.out _ B4.out).mono ?_
  rintro e w5 ⟨rfl, hb⟩
  have B5 := hiD (B4.out.trans (hb.mono B4.out.size))
  clear hb
  go_wp2_with fail
  refine (h5.out _ B5.out).mono ?_
  rintro e w6 ⟨rfl, hb⟩
  have B6 := hiD (B5.out.trans (hb.mono B5.out.size))
  clear hb
  go_wp2_with fail
  refine (u1.out _ B6.out).mono ?_
  rintro e w7 ⟨rfl, hb⟩
  have B7 := hiD (B6.out.trans (hb.mono B6.out.size))
  clear hb
  go_wp2_with fail
  refine (u2.out _ B7.out).mono ?_
  rintro e w8 ⟨rfl, hb⟩
  have B8 := hiD (B7.out.trans (hb.mono B7.out.size))
  clear hb
  go_wp2_with fail
  refine (h6.out _ B8.out).mono ?_
  rintro e w9 ⟨rfl, hb⟩
  have B9 := hiD (B8.out.trans (hb.mono B8.out.size))
  clear hb
  go_wp2_with fail
  refine (hw.out _ B9.out).mono ?_
  rintro e w10 ⟨rfl, hb⟩
  have B10 := hiD (B9.out.trans (hb.mono B9.out.size))
  clear hb
  go_wp2_with fail
  go_ret
  exact ⟨rfl, B10.out⟩
theorem order_np_tt (X Y Z S U V : List UInt8) (a b c : Int) (w : World) (h1 : Hid (CmpIs w X Y a true)) (h2 : Hid (CmpIs w Y Z b true)) (h3 : Hid (CmpIs w X Z c true)) (h4 : Hid (CmpIs w Y X (-a) true)) (s1 : Hid (TwoIs w 28 X Y S)) (h5 : Hid (CmpIs w S [48] a true)) (u1 : Hid (TwoIs w 26 X Z U)) (u2 : Hid (TwoIs w 26 Y Z V)) (h6 : Hid (CmpIs w U V a true)) (hw : Hid (AwakeIs w)) (a0 : -1 ≤ a) (a1 : a ≤ 1) (hxy2 : (X == Y) = false) (pa : decide (a ≤ 0) = true) (pb : decide (a < 0) = true) (pz : (a == 0) = false) (qa : decide (b ≤ 0) = false) (qb : decide (b < 0) = false) : Calls Tryz.prog 12 #[.string ⟨X.toArray⟩, .string ⟨Y.toArray⟩, .string ⟨Z.toArray⟩] w (OrdPost w) := by
  have B0 := hiD (Below.refl w.heap.size w)
  go_enter Tryz.func12, Tryz.ntmps12
  go_wp2_with fail
  refine (h1.out _ B0.out).mono ?_
  rintro e w1 ⟨rfl, hb⟩
  have B1 := hiD (B0.out.trans (hb.mono B0.out.size))
  clear hb
  go_wp2_with fail
  refine (h2.out _ B1.out).mono ?_
  rintro e w2 ⟨rfl, hb⟩
  have B2 := hiD (B1.out.trans (hb.mono B1.out.size))
  clear hb
  go_wp2_with fail
  refine (h3.out _ B2.out).mono ?_
  rintro e w3 ⟨rfl, hb⟩
  have B3 := hiD (B2.out.trans (hb.mono B2.out.size))
  clear hb
  go_wp2_with fail
  refine (h4.out _ B3.out).mono ?_
  rintro e w4 ⟨rfl, hb⟩
  have B4 := hiD (B3.out.trans (hb.mono B3.out.size))
  clear hb
  go_wp2_with fail
  refine (s1.out _ B4.out).mono ?_
  rintro e w5 ⟨rfl, hb⟩
  have B5 := hiD (B4.out.trans (hb.mono B4.out.size))
  clear hb
  go_wp2_with fail
  refine (h5.out _ B5.out).mono ?_
  rintro e w6 ⟨rfl, hb⟩
  have B6 := hiD (B5.out.trans (hb.mono B5.out.size))
  clear hb
  go_wp2_with fail
  refine (u1.out _ B6.out).mono ?_
  rintro e w7 ⟨rfl, hb⟩
  have B7 := hiD (B6.out.trans (hb.mono B6.out.size))
  clear hb
  go_wp2_with fail
  refine (u2.out _ B7.out).mono ?_
  rintro e w8 ⟨rfl, hb⟩
  have B8 := hiD (B7.out.trans (hb.mono B7.out.size))
  clear hb
  go_wp2_with fail
  refine (h6.out _ B8.out).mono ?_
  rintro e w9 ⟨rfl, hb⟩
  have B9 := hiD (B8.out.trans (hb.mono B8.out.size))
  clear hb
  go_wp2_with fail
  refine (hw.out _ B9.out).mono ?_
  rintro e w10 ⟨rfl, hb⟩
  have B10 := hiD (B9.out.trans (hb.mono B9.out.size))
  clear hb
  go_wp2_with fail
  go_ret
  exact ⟨rfl, B10.out⟩
theorem order_np_tf (X Y Z S U V : List UInt8) (a b c e : Int) (w : World) (h1 : Hid (CmpIs w X Y a true)) (h2 : Hid (CmpIs w Y Z b true)) (h3 : Hid (CmpIs w X Z c true)) (h4 : Hid (CmpIs w Y X (-a) true)) (s1 : Hid (TwoIs w 28 X Y S)) (h5 : Hid (CmpIs w S [48] a true)) (u1 : Hid (TwoIs w 26 X Z U)) (u2 : Hid (TwoIs w 26 Y Z V)) (h6 : Hid (CmpIs w U V e false)) (hw : Hid (AwakeIs w)) (a0 : -1 ≤ a) (a1 : a ≤ 1) (hxy2 : (X == Y) = false) (pa : decide (a ≤ 0) = true) (pb : decide (a < 0) = true) (pz : (a == 0) = false) (qa : decide (b ≤ 0) = false) (qb : decide (b < 0) = false) : Calls Tryz.prog 12 #[.string ⟨X.toArray⟩, .string ⟨Y.toArray⟩, .string ⟨Z.toArray⟩] w (OrdPost w) := by
  have B0 := hiD (Below.refl w.heap.size w)
  go_enter Tryz.func12, Tryz.ntmps12
  go_wp2_with fail
  refine (h1.out _ B0.out).mono ?_
  rintro e w1 ⟨rfl, hb⟩
  have B1 := hiD (B0.out.trans (hb.mono B0.out.size))
  clear hb
  go_wp2_with fail
  refine (h2.out _ B1.out).mono ?_
  rintro e w2 ⟨rfl, hb⟩
  have B2 := hiD (B1.out.trans (hb.mono B1.out.size))
  clear hb
  go_wp2_with fail
  refine (h3.out _ B2.out).mono ?_
  rintro e w3 ⟨rfl, hb⟩
  have B3 := hiD (B2.out.trans (hb.mono B2.out.size))
  clear hb
  go_wp2_with fail
  refine (h4.out _ B3.out).mono ?_
  rintro e w4 ⟨rfl, hb⟩
  have B4 := hiD (B3.out.trans (hb.mono B3.out.size))
  clear hb
  go_wp2_with fail
  refine (s1.out _ B4.out).mono ?_
  rintro e w5 ⟨rfl, hb⟩
  have B5 := hiD (B4.out.trans (hb.mono B4.out.size))
  clear hb
  go_wp2_with fail
  refine (h5.out _ B5.out).mono ?_
  rintro e w6 ⟨rfl, hb⟩
  have B6 := hiD (B5.out.trans (hb.mono B5.out.size))
  clear hb
  go_wp2_with fail
  refine (u1.out _ B6.out).mono ?_
  rintro e w7 ⟨rfl, hb⟩
  have B7 := hiD (B6.out.trans (hb.mono B6.out.size))
  clear hb
  go_wp2_with fail
  refine (u2.out _ B7.out).mono ?_
  rintro e w8 ⟨rfl, hb⟩
  have B8 := hiD (B7.out.trans (hb.mono B7.out.size))
  clear hb
  go_wp2_with fail
  refine (h6.out _ B8.out).mono ?_
  rintro e w9 ⟨rfl, hb⟩
  have B9 := hiD (B8.out.trans (hb.mono B8.out.size))
  clear hb
  go_wp2_with fail
  refine (hw.out _ B9.out).mono ?_
  rintro e w10 ⟨rfl, hb⟩
  have B10 := hiD (B9.out.trans (hb.mono B9.out.size))
  clear hb
  go_wp2_with fail
  go_ret
  exact ⟨rfl, B10.out⟩
theorem order_np_ft (X Y Z S U V : List UInt8) (a b c d : Int) (w : World) (h1 : Hid (CmpIs w X Y a true)) (h2 : Hid (CmpIs w Y Z b true)) (h3 : Hid (CmpIs w X Z c true)) (h4 : Hid (CmpIs w Y X (-a) true)) (s1 : Hid (TwoIs w 28 X Y S)) (h5 : Hid (CmpIs w S [48] d false)) (u1 : Hid (TwoIs w 26 X Z U)) (u2 : Hid (TwoIs w 26 Y Z V)) (h6 : Hid (CmpIs w U V a true)) (hw : Hid (AwakeIs w)) (a0 : -1 ≤ a) (a1 : a ≤ 1) (hxy2 : (X == Y) = false) (pa : decide (a ≤ 0) = true) (pb : decide (a < 0) = true) (pz : (a == 0) = false) (qa : decide (b ≤ 0) = false) (qb : decide (b < 0) = false) : Calls Tryz.prog 12 #[.string ⟨X.toArray⟩, .string ⟨Y.toArray⟩, .string ⟨Z.toArray⟩] w (OrdPost w) := by
  have B0 := hiD (Below.refl w.heap.size w)
  go_enter Tryz.func12, Tryz.ntmps12
  go_wp2_with fail
  refine (h1.out _ B0.out).mono ?_
  rintro e w1 ⟨rfl, hb⟩
  have B1 := hiD (B0.out.trans (hb.mono B0.out.size))
  clear hb
  go_wp2_with fail
  refine (h2.out _ B1.out).mono ?_
  rintro e w2 ⟨rfl, hb⟩
  have B2 := hiD (B1.out.trans (hb.mono B1.out.size))
  clear hb
  go_wp2_with fail
  refine (h3.out _ B2.out).mono ?_
  rintro e w3 ⟨rfl, hb⟩
  have B3 := hiD (B2.out.trans (hb.mono B2.out.size))
  clear hb
  go_wp2_with fail
  refine (h4.out _ B3.out).mono ?_
  rintro e w4 ⟨rfl, hb⟩
  have B4 := hiD (B3.out.trans (hb.mono B3.out.size))
  clear hb
  go_wp2_with fail
  refine (s1.out _ B4.out).mono ?_
  rintro e w5 ⟨rfl, hb⟩
  have B5 := hiD (B4.out.trans (hb.mono B4.out.size))
  clear hb
  go_wp2_with fail
  refine (h5.out _ B5.out).mono ?_
  rintro e w6 ⟨rfl, hb⟩
  have B6 := hiD (B5.out.trans (hb.mono B5.out.size))
  clear hb
  go_wp2_with fail
  refine (u1.out _ B6.out).mono ?_
  rintro e w7 ⟨rfl, hb⟩
  have B7 := hiD (B6.out.trans (hb.mono B6.out.size))
  clear hb
  go_wp2_with fail
  refine (u2.out _ B7.out).mono ?_
  rintro e w8 ⟨rfl, hb⟩
  have B8 := hiD (B7.out.trans (hb.mono B7.out.size))
  clear hb
  go_wp2_with fail
  refine (h6.out _ B8.out).mono ?_
  rintro e w9 ⟨rfl, hb⟩
  have B9 := hiD (B8.out.trans (hb.mono B8.out.size))
  clear hb
  go_wp2_with fail
  refine (hw.out _ B9.out).mono ?_
  rintro e w10 ⟨rfl, hb⟩
  have B10 := hiD (B9.out.trans (hb.mono B9.out.size))
  clear hb
  go_wp2_with fail
  go_ret
  exact ⟨rfl, B10.out⟩
theorem order_np_ff (X Y Z S U V : List UInt8) (a b c d e : Int) (w : World) (h1 : Hid (CmpIs w X Y a true)) (h2 : Hid (CmpIs w Y Z b true)) (h3 : Hid (CmpIs w X Z c true)) (h4 : Hid (CmpIs w Y X (-a) true)) (s1 : Hid (TwoIs w 28 X Y S)) (h5 : Hid (CmpIs w S [48] d false)) (u1 : Hid (TwoIs w 26 X Z U)) (u2 : Hid (TwoIs w 26 Y Z V)) (h6 : Hid (CmpIs w U V e false)) (hw : Hid (AwakeIs w)) (a0 : -1 ≤ a) (a1 : a ≤ 1) (hxy2 : (X == Y) = false) (pa : decide (a ≤ 0) = true) (pb : decide (a < 0) = true) (pz : (a == 0) = false) (qa : decide (b ≤ 0) = false) (qb : decide (b < 0) = false) : Calls Tryz.prog 12 #[.string ⟨X.toArray⟩, .string ⟨Y.toArray⟩, .string ⟨Z.toArray⟩] w (OrdPost w) := by
  have B0 := hiD (Below.refl w.heap.size w)
  go_enter Tryz.func12, Tryz.ntmps12
  go_wp2_with fail
  refine (h1.out _ B0.out).mono ?_
  rintro e w1 ⟨rfl, hb⟩
  have B1 := hiD (B0.out.trans (hb.mono B0.out.size))
  clear hb
  go_wp2_with fail
  refine (h2.out _ B1.out).mono ?_
  rintro e w2 ⟨rfl, hb⟩
  have B2 := hiD (B1.out.trans (hb.mono B1.out.size))
  clear hb
  go_wp2_with fail
  refine (h3.out _ B2.out).mono ?_
  rintro e w3 ⟨rfl, hb⟩
  have B3 := hiD (B2.out.trans (hb.mono B2.out.size))
  clear hb
  go_wp2_with fail
  refine (h4.out _ B3.out).mono ?_
  rintro e w4 ⟨rfl, hb⟩
  have B4 := hiD (B3.out.trans (hb.mono B3.out.size))
  clear hb
  go_wp2_with fail
  refine (s1.out _ B4.out).mono ?_
  rintro e w5 ⟨rfl, hb⟩
  have B5 := hiD (B4.out.trans (hb.mono B4.out.size))
  clear hb
  go_wp2_with fail
  refine (h5.out _ B5.out).mono ?_
  rintro e w6 ⟨rfl, hb⟩
  have B6 := hiD (B5.out.trans (hb.mono B5.out.size))
  clear hb
  go_wp2_with fail
  refine (u1.out _ B6.out).mono ?_
  rintro e w7 ⟨rfl, hb⟩
  have B7 := hiD (B6.out.trans (hb.mono B6.out.size))
  clear hb
  go_wp2_with fail
  refine (u2.out _ B7.out).mono ?_
  rintro e w8 ⟨rfl, hb⟩
  have B8 := hiD (B7.out.trans (hb.mono B7.out.size))
  clear hb
  go_wp2_with fail
  refine (h6.out _ B8.out).mono ?_
  rintro e w9 ⟨rfl, hb⟩
  have B9 := hiD (B8.out.trans (hb.mono B8.out.size))
  clear hb
  go_wp2_with fail
  refine (hw.out _ B9.out).mono ?_
  rintro e w10 ⟨rfl, hb⟩
  have B10 := hiD (B9.out.trans (hb.mono B9.out.size))
  clear hb
  go_wp2_with fail
  go_ret
  exact ⟨rfl, B10.out⟩
theorem sgn_bd (r : Rat) : -1 ≤ sgnR r ∧ sgnR r ≤ 1 := by
  rcases sgnR_cases r with ⟨-, h⟩ | ⟨-, h⟩ | ⟨-, h⟩ <;> omega
theorem cmp_bd {x y : List UInt8} (h : (cmpT x y).2 = true) : -1 ≤ (cmpT x y).1 ∧ (cmpT x y).1 ≤ 1 := by
  obtain ⟨a, b, -, -, e⟩ := cmpT_true h
  rw [e]; exact sgn_bd _
theorem cmp_back {x y : List UInt8} (h : (cmpT x y).2 = true) : (cmpT y x).2 = true := by
  obtain ⟨a, b, hx, hy, -⟩ := cmpT_true h
  rw [cmpT_some hy hx]
theorem order_zero (X Z : List UInt8) (w : World) (htab : Tab w) (hw : Hid (AwakeIs w)) (o1 : (cmpT X X).2 = true) (o2 : (cmpT X Z).2 = true) (e0 : (cmpT X X).1 = 0) : Calls Tryz.prog 12 #[.string ⟨X.toArray⟩, .string ⟨X.toArray⟩, .string ⟨Z.toArray⟩] w (OrdPost w) := by
  obtain ⟨-, -, q3, q4, k5, k6⟩ := order_ok o1 o2 o2
  have h1 := cmpIs w htab X X
  have h2 := cmpIs w htab X Z
  have h3 := cmpIs w htab X Z
  have h4 := cmpIs w htab X X
  have s1 := twoSub w htab X X
  have h5 := cmpIs w htab (opT (· - ·) X X) [48]
  have u1 := twoAdd w htab X Z
  have u2 := twoAdd w htab X Z
  have h6 := cmpIs w htab (opT (· + ·) X Z) (opT (· + ·) X Z)
  generalize hS : opT (· - ·) X X = S at *
  generalize hU : opT (· + ·) X Z = U at *
  rw [o1, e0] at h1 h4
  rw [o2] at h2 h3
  rw [e0] at q3 q4 k5 k6
  by_cases hb : (cmpT X Z).1 ≤ 0
  · by_cases e5 : (cmpT S [48]).2 = true
    · rw [e5, k5 e5] at h5
      by_cases e6 : (cmpT U U).2 = true
      · rw [e6, k6 e6] at h6
        exact order_zn_tt X Z _ _ _ _ _ w (hiD h1) (hiD h2) (hiD h3) (hiD h4) (hiD s1) (hiD h5) (hiD u1) (hiD u2) (hiD h6) hw (by simpa using hb) (by simpa using (show ¬ 0 < (cmpT X Z).1 by omega))
      · rw [show (cmpT U U).2 = false by simpa using e6] at h6
        exact order_zn_tf X Z _ _ _ _ _ _ w (hiD h1) (hiD h2) (hiD h3) (hiD h4) (hiD s1) (hiD h5) (hiD u1) (hiD u2) (hiD h6) hw (by simpa using hb) (by simpa using (show ¬ 0 < (cmpT X Z).1 by omega))
    · rw [show (cmpT S [48]).2 = false by simpa using e5] at h5
      by_cases e6 : (cmpT U U).2 = true
      · rw [e6, k6 e6] at h6
        exact order_zn_ft X Z _ _ _ _ _ _ w (hiD h1) (hiD h2) (hiD h3) (hiD h4) (hiD s1) (hiD h5) (hiD u1) (hiD u2) (hiD h6) hw (by simpa using hb) (by simpa using (show ¬ 0 < (cmpT X Z).1 by omega))
      · rw [show (cmpT U U).2 = false by simpa using e6] at h6
        exact order_zn_ff X Z _ _ _ _ _ _ _ w (hiD h1) (hiD h2) (hiD h3) (hiD h4) (hiD s1) (hiD h5) (hiD u1) (hiD u2) (hiD h6) hw (by simpa using hb) (by simpa using (show ¬ 0 < (cmpT X Z).1 by omega))
  · by_cases e5 : (cmpT S [48]).2 = true
    · rw [e5, k5 e5] at h5
      by_cases e6 : (cmpT U U).2 = true
      · rw [e6, k6 e6] at h6
        exact order_zp_tt X Z _ _ _ _ _ w (hiD h1) (hiD h2) (hiD h3) (hiD h4) (hiD s1) (hiD h5) (hiD u1) (hiD u2) (hiD h6) hw (by simpa using hb)
      · rw [show (cmpT U U).2 = false by simpa using e6] at h6
        exact order_zp_tf X Z _ _ _ _ _ _ w (hiD h1) (hiD h2) (hiD h3) (hiD h4) (hiD s1) (hiD h5) (hiD u1) (hiD u2) (hiD h6) hw (by simpa using hb)
    · rw [show (cmpT S [48]).2 = false by simpa using e5] at h5
      by_cases e6 : (cmpT U U).2 = true
      · rw [e6, k6 e6] at h6
        exact order_zp_ft X Z _ _ _ _ _ _ w (hiD h1) (hiD h2) (hiD h3) (hiD h4) (hiD s1) (hiD h5) (hiD u1) (hiD u2) (hiD h6) hw (by simpa using hb)
      · rw [show (cmpT U U).2 = false by simpa using e6] at h6
        exact order_zp_ff X Z _ _ _ _ _ _ _ w (hiD h1) (hiD h2) (hiD h3) (hiD h4) (hiD s1) (hiD h5) (hiD u1) (hiD u2) (hiD h6) hw (by simpa using hb)
theorem order_other (X Y Z : List UInt8) (w : World) (htab : Tab w) (hw : Hid (AwakeIs w)) (o1 : (cmpT X Y).2 = true) (o2 : (cmpT Y Z).2 = true) (o3 : (cmpT X Z).2 = true) (e0 : ¬ (cmpT X Y).1 = 0) : Calls Tryz.prog 12 #[.string ⟨X.toArray⟩, .string ⟨Y.toArray⟩, .string ⟨Z.toArray⟩] w (OrdPost w) := by
  obtain ⟨q1, q2, q3, q4, k5, k6⟩ := order_ok o1 o2 o3
  have o4 := cmp_back o1
  obtain ⟨a0, a1⟩ := cmp_bd o1
  have hxy2 : (X == Y) = false := by
    rw [beq_eq_false_iff_ne]; exact fun h => e0 (q2.2 h)
  have pz : ((cmpT X Y).1 == 0) = false := by rw [beq_eq_false_iff_ne]; exact e0
  have h1 := cmpIs w htab X Y
  have h2 := cmpIs w htab Y Z
  have h3 := cmpIs w htab X Z
  have h4 := cmpIs w htab Y X
  have s1 := twoSub w htab X Y
  have h5 := cmpIs w htab (opT (· - ·) X Y) [48]
  have u1 := twoAdd w htab X Z
  have u2 := twoAdd w htab Y Z
  have h6 := cmpIs w htab (opT (· + ·) X Z) (opT (· + ·) Y Z)
  generalize hS : opT (· - ·) X Y = S at *
  generalize hU : opT (· + ·) X Z = U at *
  generalize hV : opT (· + ·) Y Z = V at *
  rw [o1] at h1
  rw [o2] at h2
  rw [o3] at h3
  rw [o4, q1] at h4
  clear q1 q2
  generalize (cmpT X Y).1 = a at *
  generalize (cmpT Y Z).1 = b at *
  generalize (cmpT X Z).1 = c at *
  by_cases ha : 0 < a
  · by_cases e5 : (cmpT S [48]).2 = true
    · rw [e5, k5 e5] at h5
      by_cases e6 : (cmpT U V).2 = true
      · rw [e6, k6 e6] at h6
        exact order_p_tt X Y Z _ _ _ _ _ _ w (hiD h1) (hiD h2) (hiD h3) (hiD h4) (hiD s1) (hiD h5) (hiD u1) (hiD u2) (hiD h6) hw a0 a1 hxy2 (by simp; omega) (by simp; omega) pz
      · rw [show (cmpT U V).2 = false by simpa using e6] at h6
        exact order_p_tf X Y Z _ _ _ _ _ _ _ w (hiD h1) (hiD h2) (hiD h3) (hiD h4) (hiD s1) (hiD h5) (hiD u1) (hiD u2) (hiD h6) hw a0 a1 hxy2 (by simp; omega) (by simp; omega) pz
    · rw [show (cmpT S [48]).2 = false by simpa using e5] at h5
      by_cases e6 : (cmpT U V).2 = true
      · rw [e6, k6 e6] at h6
        exact order_p_ft X Y Z _ _ _ _ _ _ _ w (hiD h1) (hiD h2) (hiD h3) (hiD h4) (hiD s1) (hiD h5) (hiD u1) (hiD u2) (hiD h6) hw a0 a1 hxy2 (by simp; omega) (by simp; omega) pz
      · rw [show (cmpT U V).2 = false by simpa using e6] at h6
        exact order_p_ff X Y Z _ _ _ _ _ _ _ _ w (hiD h1) (hiD h2) (hiD h3) (hiD h4) (hiD s1) (hiD h5) (hiD u1) (hiD u2) (hiD h6) hw a0 a1 hxy2 (by simp; omega) (by simp; omega) pz
  · by_cases hb : b ≤ 0
    · by_cases hb2 : b < 0
      · by_cases e5 : (cmpT S [48]).2 = true
        · rw [e5, k5 e5] at h5
          by_cases e6 : (cmpT U V).2 = true
          · rw [e6, k6 e6] at h6
            exact order_nn_tt X Y Z _ _ _ _ _ _ w (hiD h1) (hiD h2) (hiD h3) (hiD h4) (hiD s1) (hiD h5) (hiD u1) (hiD u2) (hiD h6) hw a0 a1 hxy2 (by simp; omega) (by simp; omega) pz (by simpa using hb) (by simpa using hb2) (by simp; omega) (by simp; omega)
          · rw [show (cmpT U V).2 = false by simpa using e6] at h6
            exact order_nn_tf X Y Z _ _ _ _ _ _ _ w (hiD h1) (hiD h2) (hiD h3) (hiD h4) (hiD s1) (hiD h5) (hiD u1) (hiD u2) (hiD h6) hw a0 a1 hxy2 (by simp; omega) (by simp; omega) pz (by simpa using hb) (by simpa using hb2) (by simp; omega) (by simp; omega)
        · rw [show (cmpT S [48]).2 = false by simpa using e5] at h5
          by_cases e6 : (cmpT U V).2 = true
          · rw [e6, k6 e6] at h6
            exact order_nn_ft X Y Z _ _ _ _ _ _ _ w (hiD h1) (hiD h2) (hiD h3) (hiD h4) (hiD s1) (hiD h5) (hiD u1) (hiD u2) (hiD h6) hw a0 a1 hxy2 (by simp; omega) (by simp; omega) pz (by simpa using hb) (by simpa using hb2) (by simp; omega) (by simp; omega)
          · rw [show (cmpT U V).2 = false by simpa using e6] at h6
            exact order_nn_ff X Y Z _ _ _ _ _ _ _ _ w (hiD h1) (hiD h2) (hiD h3) (hiD h4) (hiD s1) (hiD h5) (hiD u1) (hiD u2) (hiD h6) hw a0 a1 hxy2 (by simp; omega) (by simp; omega) pz (by simpa using hb) (by simpa using hb2) (by simp; omega) (by simp; omega)
      · by_cases e5 : (cmpT S [48]).2 = true
        · rw [e5, k5 e5] at h5
          by_cases e6 : (cmpT U V).2 = true
          · rw [e6, k6 e6] at h6
            exact order_nz_tt X Y Z _ _ _ _ _ _ w (hiD h1) (hiD h2) (hiD h3) (hiD h4) (hiD s1) (hiD h5) (hiD u1) (hiD u2) (hiD h6) hw a0 a1 hxy2 (by simp; omega) (by simp; omega) pz (by simpa using hb) (by simpa using hb2) (by simp; omega)
          · rw [show (cmpT U V).2 = false by simpa using e6] at h6
            exact order_nz_tf X Y Z _ _ _ _ _ _ _ w (hiD h1) (hiD h2) (hiD h3) (hiD h4) (hiD s1) (hiD h5) (hiD u1) (hiD u2) (hiD h6) hw a0 a1 hxy2 (by simp; omega) (by simp; omega) pz (by simpa using hb) (by simpa using hb2) (by simp; omega)
        · rw [show (cmpT S [48]).2 = false by simpa using e5] at h5
          by_cases e6 : (cmpT U V).2 = true
          · rw [e6, k6 e6] at h6
            exact order_nz_ft X Y Z _ _ _ _ _ _ _ w (hiD h1) (hiD h2) (hiD h3) (hiD h4) (hiD s1) (hiD h5) (hiD u1) (hiD u2) (hiD h6) hw a0 a1 hxy2 (by simp; omega) (by simp; omega) pz (by simpa using hb) (by simpa using hb2) (by simp; omega)
          · rw [show (cmpT U V).2 = false by simpa using e6] at h6
            exact order_nz_ff X Y Z _ _ _ _ _ _ _ _ w (hiD h1) (hiD h2) (hiD h3) (hiD h4) (hiD s1) (hiD h5) (hiD u1) (hiD u2) (hiD h6) hw a0 a1 hxy2 (by simp; omega) (by simp; omega) pz (by simpa using hb) (by simpa using hb2) (by simp; omega)
    · by_cases e5 : (cmpT S [48]).2 = true
      · rw [e5, k5 e5] at h5
        by_cases e6 : (cmpT U V).2 = true
        · rw [e6, k6 e6] at h6
          exact order_np_tt X Y Z _ _ _ _ _ _ w (hiD h1) (hiD h2) (hiD h3) (hiD h4) (hiD s1) (hiD h5) (hiD u1) (hiD u2) (hiD h6) hw a0 a1 hxy2 (by simp; omega) (by simp; omega) pz (by simpa using hb) (by simp; omega)
        · rw [show (cmpT U V).2 = false by simpa using e6] at h6
          exact order_np_tf X Y Z _ _ _ _ _ _ _ w (hiD h1) (hiD h2) (hiD h3) (hiD h4) (hiD s1) (hiD h5) (hiD u1) (hiD u2) (hiD h6) hw a0 a1 hxy2 (by simp; omega) (by simp; omega) pz (by simpa using hb) (by simp; omega)
      · rw [show (cmpT S [48]).2 = false by simpa using e5] at h5
        by_cases e6 : (cmpT U V).2 = true
        · rw [e6, k6 e6] at h6
          exact order_np_ft X Y Z _ _ _ _ _ _ _ w (hiD h1) (hiD h2) (hiD h3) (hiD h4) (hiD s1) (hiD h5) (hiD u1) (hiD u2) (hiD h6) hw a0 a1 hxy2 (by simp; omega) (by simp; omega) pz (by simpa using hb) (by simp; omega)
        · rw [show (cmpT U V).2 = false by simpa using e6] at h6
          exact order_np_ff X Y Z _ _ _ _ _ _ _ _ w (hiD h1) (hiD h2) (hiD h3) (hiD h4) (hiD s1) (hiD h5) (hiD u1) (hiD u2) (hiD h6) hw a0 a1 hxy2 (by simp; omega) (by simp; omega) pz (by simpa using hb) (by simp; omega)
theorem order_any (x y z : ByteArray) (w : World) (htab : Tab w) : Calls Tryz.prog 12 #[.string x, .string y, .string z] w (OrdPost w) := by
  have hw := hiD (show AwakeIs w from fun W hb => awake_any W (htab.below hb))
  have hx : x = ⟨x.data.toList.toArray⟩ := by cases x; simp
  have hy : y = ⟨y.data.toList.toArray⟩ := by cases y; simp
  have hz : z = ⟨z.data.toList.toArray⟩ := by cases z; simp
  rw [hx, hy, hz]
  generalize x.data.toList = X
  generalize y.data.toList = Y
  generalize z.data.toList = Z
  have h1 := cmpIs w htab X Y
  have h2 := cmpIs w htab Y Z
  have h3 := cmpIs w htab X Z
  have h4 := cmpIs w htab Y X
  cases o1 : (cmpT X Y).2 with
  | false => rw [o1] at h1; exact order_no0 X Y Z _ _ _ _ _ _ _ w (hiD h1) (hiD h2) (hiD h3) (hiD h4) hw
  | true =>
    cases o2 : (cmpT Y Z).2 with
    | false => rw [o1] at h1; rw [o2] at h2; exact order_no1 X Y Z _ _ _ _ _ _ w (hiD h1) (hiD h2) (hiD h3) (hiD h4) hw
    | true =>
      cases o3 : (cmpT X Z).2 with
      | false => rw [o1] at h1; rw [o2] at h2; rw [o3] at h3; exact order_no2 X Y Z _ _ _ _ _ w (hiD h1) (hiD h2) (hiD h3) (hiD h4) hw
      | true =>
        by_cases e0 : (cmpT X Y).1 = 0
        · have hxy := (order_ok o1 o2 o3).2.1.1 e0
          subst hxy
          exact order_zero X Z w htab hw o1 o2 e0
        · exact order_other X Y Z w htab hw o1 o2 o3 e0
end Go.Proofs.YtoegbjmoecbjdaaGreatDoor
