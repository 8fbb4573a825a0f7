/- The law QuantityConverts. -/
import Derived.Test.YtigicjakloiliaaGreatDoorUB
import Derived.Test.YtigicjakloiliaaGreatDoorUD
import Derived.Test.YtigicjakloiliaaGreatDoorCS
import Derived.Test.YtigicjakloiliaaGreatDoorSB
set_option maxHeartbeats 3200000
set_option maxRecDepth 100000
namespace Go.Proofs.YtigicjakloiliaaGreatDoor
open Go.RowKit Big
open Go.Lib
theorem qlt_up {K L : Nat} {q : Rat} (h : QLt K q) (hK : K ≤ L) : QLt L q := ⟨pow9_mono h.1 hK, pow9_mono h.2 hK⟩
theorem rconv_any (x : ByteArray) (fu ou : ByteArray) (u0 u1 u2 u3 u4 u5 u6 : Int) (fv ov : ByteArray) (v0 v1 v2 v3 v4 v5 v6 : Int) (w : World) : Calls Tryz.prog 68 #[.string x, .agg #[.string fu, .string ou, .int .i64 u0, .int .i64 u1, .int .i64 u2, .int .i64 u3, .int .i64 u4, .int .i64 u5, .int .i64 u6], .agg #[.string fv, .string ov, .int .i64 v0, .int .i64 v1, .int .i64 v2, .int .i64 v3, .int .i64 v4, .int .i64 v5, .int .i64 v6]] w (ConvPost (convT x.data.toList (tU fu ou u0 u1 u2 u3 u4 u5 u6) (tU fv ov v0 v1 v2 v3 v4 v5 v6)) w) := by
  have lu := valT_lt fu.data.toList
  have lo := valT_lt ou.data.toList
  have lv := valT_lt fv.data.toList
  have lw := valT_lt ov.data.toList
  have lx := valT_lt x.data.toList
  have l2 : QLt 10 (valT fu.data.toList * valT x.data.toList) := qlt_up (lu.mul lx) (by omega)
  have l3 : QLt 16 (valT fu.data.toList * valT x.data.toList + valT ou.data.toList) := qlt_up (l2.add lo) (by omega)
  have l4 : QLt 22 (valT fu.data.toList * valT x.data.toList + valT ou.data.toList - valT ov.data.toList) := qlt_up (l3.sub lw) (by omega)
  have l5 : QLt 27 ((valT fu.data.toList * valT x.data.toList + valT ou.data.toList - valT ov.data.toList) / valT fv.data.toList) := qlt_up (l4.quo lv) (by omega)
  refine rconv_all x fu ou u0 u1 u2 u3 u4 u5 u6 fv ov v0 v1 v2 v3 v4 v5 v6 (valT fu.data.toList) (valT ou.data.toList) (valT fv.data.toList) (valT ov.data.toList) (valT x.data.toList) ⟨(txt ((valT fu.data.toList * valT x.data.toList + valT ou.data.toList - valT ov.data.toList) / valT fv.data.toList)).toArray⟩
    (validT (tU fu ou u0 u1 u2 u3 u4 u5 u6)) (validT (tU fv ov v0 v1 v2 v3 v4 v5 v6)) (decide ([u0, u1, u2, u3, u4, u5, u6] = [v0, v1, v2, v3, v4, v5, v6])) (num x.data.toList).isSome _ _ w (hiD ?_)
    (hiD fun W _ => uread_is fu ou u0 u1 u2 u3 u4 u5 u6 W) (hiD fun W _ => uread_is fv ov v0 v1 v2 v3 v4 v5 v6 W) (fun W => powers_eq u0 u1 u2 u3 u4 u5 u6 v0 v1 v2 v3 v4 v5 v6 W) (hiD fun W _ => get_flag x _ rfl W)
    (hiD fun W u v hu hv => (prod_any u v _ _ 5 5 W (by omega) lu lx hu hv).mono fun e w' h => h.c)
    (hiD fun W u v hu hv => (plus_any u v _ _ 10 5 W (by omega) l2 lo hu hv).mono fun e w' h => h.c)
    (hiD fun W u v hu hv => (minus_any u v _ _ 16 5 W (by omega) l3 lw hu hv).mono fun e w' h => h.c)
    (hiD fun W u v hu hv => (quot_any u v _ _ 22 5 W (by omega) l4 lv hu hv).mono fun e w' h => h.c)
    (hiD fun W u hu => put_any u _ 27 W (by omega) l5 hu)
  unfold convT
  cases h1 : validT (tU fu ou u0 u1 u2 u3 u4 u5 u6) with
  | false => exact .inl ⟨rfl, rfl, rfl⟩
  | true =>
    cases h2 : validT (tU fv ov v0 v1 v2 v3 v4 v5 v6) with
    | false => exact .inr (.inl ⟨rfl, rfl, rfl, rfl⟩)
    | true =>
      simp only [Bool.and_self, if_true]
      by_cases hp : [u0, u1, u2, u3, u4, u5, u6] = [v0, v1, v2, v3, v4, v5, v6]
      · rw [if_pos (show (tU fu ou u0 u1 u2 u3 u4 u5 u6).ps = (tU fv ov v0 v1 v2 v3 v4 v5 v6).ps from hp), decide_eq_true hp]
        cases hx : num x.data.toList with
        | none => exact .inr (.inr (.inr (.inl ⟨(by trivial), (by trivial), (by trivial), (by trivial), (by trivial), (by trivial)⟩)))
        | some a => exact .inr (.inr (.inr (.inr ⟨(by trivial), (by trivial), (by trivial), (by trivial), by rw [valT_some hx]; rfl, (by trivial)⟩)))
      · rw [if_neg (show ¬ (tU fu ou u0 u1 u2 u3 u4 u5 u6).ps = (tU fv ov v0 v1 v2 v3 v4 v5 v6).ps from hp), decide_eq_false hp]
        exact .inr (.inr (.inl ⟨(by trivial), (by trivial), (by trivial), (by trivial), (by trivial)⟩))
theorem converts_walk (x : ByteArray) (fu ou : ByteArray) (u0 u1 u2 u3 u4 u5 u6 : Int) (fv ov : ByteArray) (v0 v1 v2 v3 v4 v5 v6 : Int) (s : ByteArray) (c : Int) (w : World) (h67 : Hid (∀ W, Below w.heap.size w W → Calls Tryz.prog 67 #[.string x, .agg #[.string fu, .string ou, .int .i64 u0, .int .i64 u1, .int .i64 u2, .int .i64 u3, .int .i64 u4, .int .i64 u5, .int .i64 u6], .agg #[.string fv, .string ov, .int .i64 v0, .int .i64 v1, .int .i64 v2, .int .i64 v3, .int .i64 v4, .int .i64 v5, .int .i64 v6]] W fun e w' => e = .returned (.tuple #[.string s, .int .i64 c]) ∧ Below W.heap.size W w')) (h68 : Hid (∀ W, Below w.heap.size w W → Calls Tryz.prog 68 #[.string x, .agg #[.string fu, .string ou, .int .i64 u0, .int .i64 u1, .int .i64 u2, .int .i64 u3, .int .i64 u4, .int .i64 u5, .int .i64 u6], .agg #[.string fv, .string ov, .int .i64 v0, .int .i64 v1, .int .i64 v2, .int .i64 v3, .int .i64 v4, .int .i64 v5, .int .i64 v6]] W fun e w' => e = .returned (.tuple #[.string s, .int .i64 c]) ∧ Below W.heap.size W w')) (hw : Hid (∀ W, Below w.heap.size w W → Calls Tryz.prog 23 #[] W fun e w' => e = .returned (.bool true) ∧ Below W.heap.size W w')) :
    Calls Tryz.prog 12 #[.string x, .agg #[.string fu, .string ou, .int .i64 u0, .int .i64 u1, .int .i64 u2, .int .i64 u3, .int .i64 u4, .int .i64 u5, .int .i64 u6], .agg #[.string fv, .string ov, .int .i64 v0, .int .i64 v1, .int .i64 v2, .int .i64 v3, .int .i64 v4, .int .i64 v5, .int .i64 v6]] w fun e w' => e = .returned (.bool true) ∧ Below w.heap.size w w' := by
  have hk0 : Hid (Keep w ((w.alloc (.cells #[.string fu, .string ou, .int .i64 u0, .int .i64 u1, .int .i64 u2, .int .i64 u3, .int .i64 u4, .int .i64 u5, .int .i64 u6] 53)).alloc (.cells #[.string fv, .string ov, .int .i64 v0, .int .i64 v1, .int .i64 v2, .int .i64 v3, .int .i64 v4, .int .i64 v5, .int .i64 v6] 53)) [(w.heap.size + 1, #[.string fv, .string ov, .int .i64 v0, .int .i64 v1, .int .i64 v2, .int .i64 v3, .int .i64 v4, .int .i64 v5, .int .i64 v6], 53), (w.heap.size, #[.string fu, .string ou, .int .i64 u0, .int .i64 u1, .int .i64 u2, .int .i64 u3, .int .i64 u4, .int .i64 u5, .int .i64 u6], 53)]) := hiD (Keep.two w _ _ 53 53)
  have hx := hk0.out.one _ (List.mem_cons_of_mem _ (List.mem_cons_self ..))
  have cu0 := ceh hx 0
  have cu1 := ceh hx 1
  have cu2 := ceh hx 2
  have cu3 := ceh hx 3
  have cu4 := ceh hx 4
  have cu5 := ceh hx 5
  have cu6 := ceh hx 6
  have cu7 := ceh hx 7
  have cu8 := ceh hx 8
  clear hx
  have hx := hk0.out.one _ (List.mem_cons_self ..)
  have cv0 := ceh hx 0
  have cv1 := ceh hx 1
  have cv2 := ceh hx 2
  have cv3 := ceh hx 3
  have cv4 := ceh hx 4
  have cv5 := ceh hx 5
  have cv6 := ceh hx 6
  have cv7 := ceh hx 7
  have cv8 := ceh hx 8
  clear hx
  go_enter Tryz.func12, Tryz.ntmps12
  go_wp2_with fail
  refine (h67.out _ hk0.out.below).mono ?_
  rintro e w1 ⟨rfl, hb⟩
  have hk1 := hiD (hk0.out.next hb)
  clear hb cu0 cv0 cu1 cv1 cu2 cv2 cu3 cv3 cu4 cv4 cu5 cv5 cu6 cv6 cu7 cv7 cu8 cv8
  have hx := hk1.out.one _ (List.mem_cons_of_mem _ (List.mem_cons_self ..))
  have cu0 := ceh hx 0
  have cu1 := ceh hx 1
  have cu2 := ceh hx 2
  have cu3 := ceh hx 3
  have cu4 := ceh hx 4
  have cu5 := ceh hx 5
  have cu6 := ceh hx 6
  have cu7 := ceh hx 7
  have cu8 := ceh hx 8
  clear hx
  have hx := hk1.out.one _ (List.mem_cons_self ..)
  have cv0 := ceh hx 0
  have cv1 := ceh hx 1
  have cv2 := ceh hx 2
  have cv3 := ceh hx 3
  have cv4 := ceh hx 4
  have cv5 := ceh hx 5
  have cv6 := ceh hx 6
  have cv7 := ceh hx 7
  have cv8 := ceh hx 8
  clear hx
  go_wp2_with fail
  refine (h68.out _ hk1.out.below).mono ?_
  rintro e w2 ⟨rfl, hb⟩
  have hk2 := hiD (hk1.out.next hb)
  clear hb hk1 cu0 cv0 cu1 cv1 cu2 cv2 cu3 cv3 cu4 cv4 cu5 cv5 cu6 cv6 cu7 cv7 cu8 cv8
  go_wp2_with fail
  refine (hw.out _ hk2.out.below).mono ?_
  rintro e w3 ⟨rfl, hb⟩
  have hk3 := hiD (hk2.out.next hb)
  clear hb hk2
  go_wp2_with fail
  go_ret
  exact ⟨rfl, hk3.out.below⟩
theorem converts_any (x : ByteArray) (fu ou : ByteArray) (u0 u1 u2 u3 u4 u5 u6 : Int) (fv ov : ByteArray) (v0 v1 v2 v3 v4 v5 v6 : Int) (w : World) (htab : Tab w) : Calls Tryz.prog 12 #[.string x, .agg #[.string fu, .string ou, .int .i64 u0, .int .i64 u1, .int .i64 u2, .int .i64 u3, .int .i64 u4, .int .i64 u5, .int .i64 u6], .agg #[.string fv, .string ov, .int .i64 v0, .int .i64 v1, .int .i64 v2, .int .i64 v3, .int .i64 v4, .int .i64 v5, .int .i64 v6]] w fun e w' => e = .returned (.bool true) ∧ Below w.heap.size w w' :=
  converts_walk x fu ou u0 u1 u2 u3 u4 u5 u6 fv ov v0 v1 v2 v3 v4 v5 v6 _ _ w (hiD fun W hW => conv_any x fu ou u0 u1 u2 u3 u4 u5 u6 fv ov v0 v1 v2 v3 v4 v5 v6 W (htab.below hW)) (hiD fun W _ => rconv_any x fu ou u0 u1 u2 u3 u4 u5 u6 fv ov v0 v1 v2 v3 v4 v5 v6 W) (hiD fun W hW => awake_any W (htab.below hW))
end Go.Proofs.YtigicjakloiliaaGreatDoor
