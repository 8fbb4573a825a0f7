/- Texts of units: ParseUnit. awake, equal, missing. The law QuantityField: its walk. -/
import Derived.Test.YtoegbjmoecbjdaaGreatDoorPart19
set_option maxHeartbeats 3200000
set_option maxRecDepth 100000
namespace Go.Proofs.YtoegbjmoecbjdaaGreatDoor
open Go.RowKit Go.Lib Big
def TwoIs (w : World) (f : FuncId) (a b r : List UInt8) : Prop := ∀ W, Below w.heap.size w W → Calls Tryz.prog f #[.string ⟨a.toArray⟩, .string ⟨b.toArray⟩] W (TxtPost r W)
def EqIs (a b : List UInt8) : Prop := ∀ W, Calls Tryz.prog 61 #[.string ⟨a.toArray⟩, .string ⟨b.toArray⟩] W fun e w' => e = .returned (.bool true) ∧ W = w'
theorem eqIs {a b : List UInt8} (h : eqT a b = true) : EqIs a b := fun W => by
  have := equal_any ⟨a.toArray⟩ ⟨b.toArray⟩ W
  rw [← h]; exact this
theorem twoAdd (w : World) (htab : Tab w) (a b : List UInt8) : TwoIs w 26 a b (opT (· + ·) a b) := fun W hb => add_q ⟨a.toArray⟩ ⟨b.toArray⟩ W (htab.below hb)
theorem twoSub (w : World) (htab : Tab w) (a b : List UInt8) : TwoIs w 28 a b (opT (· - ·) a b) := fun W hb => sub_q ⟨a.toArray⟩ ⟨b.toArray⟩ W (htab.below hb)
theorem twoMul (w : World) (htab : Tab w) (a b : List UInt8) : TwoIs w 30 a b (opT (· * ·) a b) := fun W hb => mul_q ⟨a.toArray⟩ ⟨b.toArray⟩ W (htab.below hb)
theorem twoDiv (w : World) (htab : Tab w) (a b : List UInt8) : TwoIs w 32 a b (divT a b) := fun W hb => div_q ⟨a.toArray⟩ ⟨b.toArray⟩ W (htab.below hb)
theorem field_walk (X Y Z xy u1 yz u2 mxy v1 myz v2 t1 mxz t2 r1 r2 mx : List UInt8) (w : World) (a1 : Hid (TwoIs w 26 X Y xy)) (a2 : Hid (TwoIs w 26 xy Z u1)) (a3 : Hid (TwoIs w 26 Y Z yz)) (a4 : Hid (TwoIs w 26 X yz u2)) (e1 : Hid (EqIs u1 u2)) (a5 : Hid (TwoIs w 26 Y X xy)) (m1 : Hid (TwoIs w 30 X Y mxy)) (m2 : Hid (TwoIs w 30 mxy Z v1)) (m3 : Hid (TwoIs w 30 Y Z myz)) (m4 : Hid (TwoIs w 30 X myz v2)) (e2 : Hid (EqIs v1 v2)) (m5 : Hid (TwoIs w 30 Y X mxy)) (m6 : Hid (TwoIs w 30 X yz t1)) (m7 : Hid (TwoIs w 30 X Z mxz)) (a6 : Hid (TwoIs w 26 mxy mxz t2)) (e3 : Hid (EqIs t1 t2)) (s1 : Hid (TwoIs w 28 xy Y r1)) (e4 : Hid (EqIs r1 mx)) (d1 : Hid (TwoIs w 32 mxy Y r2)) (e5 : Hid (EqIs r2 mx)) (a7 : Hid (TwoIs w 26 X [48] mx)) (m8 : Hid (TwoIs w 30 X [49] mx)) (hm : Hid (∀ W, Below w.heap.size w W → Calls Tryz.prog 62 #[.string ⟨X.toArray⟩] W (TxtPost mx W))) (hw : Hid (∀ W, Below w.heap.size w W → Calls Tryz.prog 21 #[] W fun e w' => e = .returned (.bool true) ∧ Below W.heap.size W w')) : Calls Tryz.prog 11 #[.string ⟨X.toArray⟩, .string ⟨Y.toArray⟩, .string ⟨Z.toArray⟩] w fun e w' => e = .returned (.bool true) ∧ Below w.heap.size w w' := by
  have B0 := hiD (Below.refl w.heap.size w)
  go_enter Tryz.func11, Tryz.ntmps11
  go_wp2_with fail
  refine (a1.out _ B0.out).mono ?_
  rintro e w1 ⟨rfl, hb⟩
  have B1 := hiD (B0.out.trans (hb.mono B0.out.size))
  clear hb
  go_wp2_with fail
  refine (a2.out _ B1.out).mono ?_
  rintro e w2 ⟨rfl, hb⟩
  have B2 := hiD (B1.out.trans (hb.mono B1.out.size))
  clear hb
  go_wp2_with fail
  refine (a3.out _ B2.out).mono ?_
  rintro e w3 ⟨rfl, hb⟩
  have B3 := hiD (B2.out.trans (hb.mono B2.out.size))
  clear hb
  go_wp2_with fail
  refine (a4.out _ B3.out).mono ?_
  rintro e w4 ⟨rfl, hb⟩
  have B4 := hiD (B3.out.trans (hb.mono B3.out.size))
  clear hb
  go_wp2_with fail
  refine (e1.out _).mono ?_
  rintro e ww ⟨rfl, rfl⟩
  go_wp2_with fail
  refine (a1.out _ B4.out).mono ?_
  rintro e w5 ⟨rfl, hb⟩
  have B5 := hiD (B4.out.trans (hb.mono B4.out.size))
  clear hb
  go_wp2_with fail
  refine (a5.out _ B5.out).mono ?_
  rintro e w6 ⟨rfl, hb⟩
  have B6 := hiD (B5.out.trans (hb.mono B5.out.size))
  clear hb
  go_wp2_with fail
  refine (m1.out _ B6.out).mono ?_
  rintro e w7 ⟨rfl, hb⟩
  have B7 := hiD (B6.out.trans (hb.mono B6.out.size))
  clear hb
  go_wp2_with fail
  refine (m2.out _ B7.out).mono ?_
  rintro e w8 ⟨rfl, hb⟩
  have B8 := hiD (B7.out.trans (hb.mono B7.out.size))
  clear hb
  go_wp2_with fail
  refine (m3.out _ B8.out).mono ?_
  rintro e w9 ⟨rfl, hb⟩
  have B9 := hiD (B8.out.trans (hb.mono B8.out.size))
  clear hb
  go_wp2_with fail
  refine (m4.out _ B9.out).mono ?_
  rintro e w10 ⟨rfl, hb⟩
  have B10 := hiD (B9.out.trans (hb.mono B9.out.size))
  clear hb
  go_wp2_with fail
  refine (e2.out _).mono ?_
  rintro e ww ⟨rfl, rfl⟩
  go_wp2_with fail
  refine (m1.out _ B10.out).mono ?_
  rintro e w11 ⟨rfl, hb⟩
  have B11 := hiD (B10.out.trans (hb.mono B10.out.size))
  clear hb
  go_wp2_with fail
  refine (m5.out _ B11.out).mono ?_
  rintro e w12 ⟨rfl, hb⟩
  have B12 := hiD (B11.out.trans (hb.mono B11.out.size))
  clear hb
  go_wp2_with fail
  refine (a3.out _ B12.out).mono ?_
  rintro e w13 ⟨rfl, hb⟩
  have B13 := hiD (B12.out.trans (hb.mono B12.out.size))
  clear hb
  go_wp2_with fail
  refine (m6.out _ B13.out).mono ?_
  rintro e w14 ⟨rfl, hb⟩
  have B14 := hiD (B13.out.trans (hb.mono B13.out.size))
  clear hb
  go_wp2_with fail
  refine (m1.out _ B14.out).mono ?_
  rintro e w15 ⟨rfl, hb⟩
  have B15 := hiD (B14.out.trans (hb.mono B14.out.size))
  clear hb
  go_wp2_with fail
  refine (m7.out _ B15.out).mono ?_
  rintro e w16 ⟨rfl, hb⟩
  have B16 := hiD (B15.out.trans (hb.mono B15.out.size))
  clear hb
  go_wp2_with fail
  refine (a6.out _ B16.out).mono ?_
  rintro e w17 ⟨rfl, hb⟩
  have B17 := hiD (B16.out.trans (hb.mono B16.out.size))
  clear hb
  go_wp2_with fail
  refine (e3.out _).mono ?_
  rintro e ww ⟨rfl, rfl⟩
  go_wp2_with fail
  refine (a1.out _ B17.out).mono ?_
  rintro e w18 ⟨rfl, hb⟩
  have B18 := hiD (B17.out.trans (hb.mono B17.out.size))
  clear hb
  go_wp2_with fail
  refine (s1.out _ B18.out).mono ?_
  rintro e w19 ⟨rfl, hb⟩
  have B19 := hiD (B18.out.trans (hb.mono B18.out.size))
  clear hb
  go_wp2_with fail
  refine (hm.out _ B19.out).mono ?_
  rintro e w20 ⟨rfl, hb⟩
  have B20 := hiD (B19.out.trans (hb.mono B19.out.size))
  clear hb
  go_wp2_with fail
  refine (e4.out _).mono ?_
  rintro e ww ⟨rfl, rfl⟩
  go_wp2_with fail
  refine (m1.out _ B20.out).mono ?_
  rintro e w21 ⟨rfl, hb⟩
  have B21 := hiD (B20.out.trans (hb.mono B20.out.size))
  clear hb
  go_wp2_with fail
  refine (d1.out _ B21.out).mono ?_
  rintro e w22 ⟨rfl, hb⟩
  have B22 := hiD (B21.out.trans (hb.mono B21.out.size))
  clear hb
  go_wp2_with fail
  refine (hm.out _ B22.out).mono ?_
  rintro e w23 ⟨rfl, hb⟩
  have B23 := hiD (B22.out.trans (hb.mono B22.out.size))
  clear hb
  go_wp2_with fail
  refine (e5.out _).mono ?_
  rintro e ww ⟨rfl, rfl⟩
  go_wp2_with fail
  refine (a7.out _ B23.out).mono ?_
  rintro e w24 ⟨rfl, hb⟩
  have B24 := hiD (B23.out.trans (hb.mono B23.out.size))
  clear hb
  go_wp2_with fail
  refine (hm.out _ B24.out).mono ?_
  rintro e w25 ⟨rfl, hb⟩
  have B25 := hiD (B24.out.trans (hb.mono B24.out.size))
  clear hb
  go_wp2_with fail
  refine (m8.out _ B25.out).mono ?_
  rintro e w26 ⟨rfl, hb⟩
  have B26 := hiD (B25.out.trans (hb.mono B25.out.size))
  clear hb
  go_wp2_with fail
  refine (hm.out _ B26.out).mono ?_
  rintro e w27 ⟨rfl, hb⟩
  have B27 := hiD (B26.out.trans (hb.mono B26.out.size))
  clear hb
  go_wp2_with fail
  refine (hw.out _ B27.out).mono ?_
  rintro e w28 ⟨rfl, hb⟩
  have B28 := hiD (B27.out.trans (hb.mono B27.out.size))
  clear hb
  go_wp2_with fail
  go_ret
  exact ⟨rfl, B28.out⟩
theorem field_any (x y z : ByteArray) (w : World) (htab : Tab w) : Calls Tryz.prog 11 #[.string x, .string y, .string z] w fun e w' => e = .returned (.bool true) ∧ Below w.heap.size w w' := by
  have h := field_walk x.data.toList y.data.toList z.data.toList _ _ _ _ _ _ _ _ _ _ _ _ _ _ w
    (hiD (twoAdd w htab _ _)) (hiD (twoAdd w htab _ _)) (hiD (twoAdd w htab _ _)) (hiD (twoAdd w htab _ _)) (hiD (eqIs (opT_assoc Rat.add_assoc _ _ _))) (hiD (by have := twoAdd w htab y.data.toList x.data.toList; rwa [opT_comm Rat.add_comm] at this))
    (hiD (twoMul w htab _ _)) (hiD (twoMul w htab _ _)) (hiD (twoMul w htab _ _)) (hiD (twoMul w htab _ _)) (hiD (eqIs (opT_assoc Rat.mul_assoc _ _ _))) (hiD (by have := twoMul w htab y.data.toList x.data.toList; rwa [opT_comm Rat.mul_comm] at this))
    (hiD (twoMul w htab _ _)) (hiD (twoMul w htab _ _)) (hiD (twoAdd w htab _ _)) (hiD (eqIs (opT_distrib _ _ _)))
    (hiD (twoSub w htab _ _)) (hiD (eqIs (opT_undo _ _ fun a b _ => by grind))) (hiD (twoDiv w htab _ _)) (hiD (eqIs (divT_undo _ _)))
    (hiD (by have := twoAdd w htab x.data.toList [48]; rwa [opT_right num_zero Rat.add_zero] at this)) (hiD (by have := twoMul w htab x.data.toList [49]; rwa [opT_right num_one Rat.mul_one] at this))
    (hiD fun W hb => missing_any x W (htab.below hb)) (hiD fun W hb => awake_any W (htab.below hb))
  exact h
end Go.Proofs.YtoegbjmoecbjdaaGreatDoor
