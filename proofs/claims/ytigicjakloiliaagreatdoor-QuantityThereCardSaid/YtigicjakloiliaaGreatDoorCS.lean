/- QuantityThere: Convert at any arguments, and the law's walk. -/
import Derived.Test.YtigicjakloiliaaGreatDoorCR
import Derived.Test.YtigicjakloiliaaGreatDoorCK
namespace Go.Proofs.YtigicjakloiliaaGreatDoor
open Go.RowKit Go.Lib Big

theorem valIs (fu ou : ByteArray) (u0 u1 u2 u3 u4 u5 u6 : Int) (w : World) (htab : Tab w) (b : Bool) (h : validT (tU fu ou u0 u1 u2 u3 u4 u5 u6) = b) : ValIs w (.agg #[.string fu, .string ou, .int .i64 u0, .int .i64 u1, .int .i64 u2, .int .i64 u3, .int .i64 u4, .int .i64 u5, .int .i64 u6]) b := fun W hW => Lib.hid (by
  have := validUnit_any fu ou u0 u1 u2 u3 u4 u5 u6 W (htab.below hW)
  rwa [h] at this)
theorem numIs (x : ByteArray) (w : World) (htab : Tab w) (r : Option Rat) (h : num x.data.toList = r) : ∀ W, Below w.heap.size w W → Hid (Calls Tryz.prog 75 #[.string x] W (NumPost r W)) := fun W hW => Lib.hid (by
  have := qread_is x W (htab.below hW)
  rwa [h] at this)
set_option maxRecDepth 100000 in
theorem conv_any (x : ByteArray) (fu ou : ByteArray) (u0 u1 u2 u3 u4 u5 u6 : Int) (fv ov : ByteArray) (v0 v1 v2 v3 v4 v5 v6 : Int) (w : World) (htab : Tab w) : Calls Tryz.prog 67 #[.string x, .agg #[.string fu, .string ou, .int .i64 u0, .int .i64 u1, .int .i64 u2, .int .i64 u3, .int .i64 u4, .int .i64 u5, .int .i64 u6], .agg #[.string fv, .string ov, .int .i64 v0, .int .i64 v1, .int .i64 v2, .int .i64 v3, .int .i64 v4, .int .i64 v5, .int .i64 v6]] w (ConvPost (convT x.data.toList (tU fu ou u0 u1 u2 u3 u4 u5 u6) (tU fv ov v0 v1 v2 v3 v4 v5 v6)) w) := by
  cases hu : validT (tU fu ou u0 u1 u2 u3 u4 u5 u6) with
  | false =>
    have h := conv_no1 x fu ou u0 u1 u2 u3 u4 u5 u6 fv ov v0 v1 v2 v3 v4 v5 v6 w (valIs fu ou u0 u1 u2 u3 u4 u5 u6 w htab _ hu)
    unfold convT; rw [hu]; exact h
  | true =>
    cases hv : validT (tU fv ov v0 v1 v2 v3 v4 v5 v6) with
    | false =>
      have h := conv_no2 x fu ou u0 u1 u2 u3 u4 u5 u6 fv ov v0 v1 v2 v3 v4 v5 v6 w (valIs fu ou u0 u1 u2 u3 u4 u5 u6 w htab _ hu) (valIs fv ov v0 v1 v2 v3 v4 v5 v6 w htab _ hv)
      unfold convT; rw [hu, hv]; exact h
    | true =>
      by_cases hp : [u0, u1, u2, u3, u4, u5, u6] = [v0, v1, v2, v3, v4, v5, v6]
      · have heq : ∀ W, (Op.equalIn 10000 51 (.agg #[.int .i64 u0, .int .i64 u1, .int .i64 u2, .int .i64 u3, .int .i64 u4, .int .i64 u5, .int .i64 u6]) (.agg #[.int .i64 v0, .int .i64 v1, .int .i64 v2, .int .i64 v3, .int .i64 v4, .int .i64 v5, .int .i64 v6])).run Tryz.prog W = .ok true W := fun W => by rw [powers_eq, decide_eq_true hp]
        cases hx : num x.data.toList with
        | none =>
          have h := conv_none x fu ou u0 u1 u2 u3 u4 u5 u6 fv ov v0 v1 v2 v3 v4 v5 v6 w (valIs fu ou u0 u1 u2 u3 u4 u5 u6 w htab _ hu) (valIs fv ov v0 v1 v2 v3 v4 v5 v6 w htab _ hv) heq (numIs x w htab _ hx)
          unfold convT; rw [hu, hv, hx]; simp only [Bool.and_self, if_true]; rw [if_pos (show ((tU fu ou u0 u1 u2 u3 u4 u5 u6)).ps = ((tU fv ov v0 v1 v2 v3 v4 v5 v6)).ps from hp)]; exact h
        | some a =>
          obtain ⟨ku1, ku2, ku3, ku4⟩ := validT_iff.1 hu
          obtain ⟨kv1, kv2, kv3, kv4⟩ := validT_iff.1 hv
          obtain ⟨ou', hou⟩ := Option.isSome_iff_exists.1 ku3
          obtain ⟨ov', hov⟩ := Option.isSome_iff_exists.1 kv3
          have hv0 : valT ((tU fv ov v0 v1 v2 v3 v4 v5 v6)).f ≠ 0 := by grind
          have h := conv_ok x fu ou u0 u1 u2 u3 u4 u5 u6 fv ov v0 v1 v2 v3 v4 v5 v6 a (valT ((tU fu ou u0 u1 u2 u3 u4 u5 u6)).f) ou' (valT ((tU fv ov v0 v1 v2 v3 v4 v5 v6)).f) ov' w (valIs fu ou u0 u1 u2 u3 u4 u5 u6 w htab _ hu) (valIs fv ov v0 v1 v2 v3 v4 v5 v6 w htab _ hv) heq (numIs x w htab _ hx)
            (Lib.hid fun W h => factorOf_is fu ou u0 u1 u2 u3 u4 u5 u6 _ W (htab.below h) ku1) (Lib.hid fun W h => offsetOf_is fu ou u0 u1 u2 u3 u4 u5 u6 _ W (htab.below h) hou)
            (Lib.hid fun W h => factorOf_is fv ov v0 v1 v2 v3 v4 v5 v6 _ W (htab.below h) kv1) (Lib.hid fun W h => offsetOf_is fv ov v0 v1 v2 v3 v4 v5 v6 _ W (htab.below h) hov)
            (Lib.hid fun W y z hy hz => mul_is y z _ _ 20 W (by omega) hy hz) (Lib.hid fun W y z hy hz => add_is y z _ _ 40 W (by omega) hy (hz.more (by omega)))
            (Lib.hid fun W y z hy hz => sub_is y z _ _ 81 W (by omega) hy (hz.more (by omega))) (Lib.hid fun W y z hy hz => quo_is y z _ _ 163 W (by omega) hv0 hy (hz.more (by omega)))
            (Lib.hid fun W y hW hy => qtext_is y _ 326 W (by omega) hy (htab.below hW))
          unfold convT; rw [hu, hv, hx]; simp only [Bool.and_self, if_true]; rw [if_pos (show ((tU fu ou u0 u1 u2 u3 u4 u5 u6)).ps = ((tU fv ov v0 v1 v2 v3 v4 v5 v6)).ps from hp), valT_some hou, valT_some hov]; exact h
      · have heq : ∀ W, (Op.equalIn 10000 51 (.agg #[.int .i64 u0, .int .i64 u1, .int .i64 u2, .int .i64 u3, .int .i64 u4, .int .i64 u5, .int .i64 u6]) (.agg #[.int .i64 v0, .int .i64 v1, .int .i64 v2, .int .i64 v3, .int .i64 v4, .int .i64 v5, .int .i64 v6])).run Tryz.prog W = .ok false W := fun W => by rw [powers_eq, decide_eq_false hp]
        have h := conv_ps x fu ou u0 u1 u2 u3 u4 u5 u6 fv ov v0 v1 v2 v3 v4 v5 v6 w (valIs fu ou u0 u1 u2 u3 u4 u5 u6 w htab _ hu) (valIs fv ov v0 v1 v2 v3 v4 v5 v6 w htab _ hv) heq
        unfold convT; rw [hu, hv]; simp only [Bool.and_self, if_true]; rw [if_neg (show ¬ ((tU fu ou u0 u1 u2 u3 u4 u5 u6)).ps = ((tU fv ov v0 v1 v2 v3 v4 v5 v6)).ps from hp)]; exact h

set_option maxRecDepth 100000 in
set_option maxHeartbeats 1600000 in
theorem there_bad (x : ByteArray) (fu ou : ByteArray) (u0 u1 u2 u3 u4 u5 u6 : Int) (fv ov : ByteArray) (v0 v1 v2 v3 v4 v5 v6 : Int) (ft ot : ByteArray) (t0 t1 t2 t3 t4 t5 t6 : Int) (y : ByteArray) (e1 : Int) (w : World) (h1 : (Hid (∀ W, Below w.heap.size w W → Calls Tryz.prog 67 #[.string x, .agg #[.string fu, .string ou, .int .i64 u0, .int .i64 u1, .int .i64 u2, .int .i64 u3, .int .i64 u4, .int .i64 u5, .int .i64 u6], .agg #[.string fv, .string ov, .int .i64 v0, .int .i64 v1, .int .i64 v2, .int .i64 v3, .int .i64 v4, .int .i64 v5, .int .i64 v6]] W (fun E w' => E = .returned (.tuple #[.string y, .int .i64 e1]) ∧ Below W.heap.size W w')))) (he : e1 ≠ 0) (hw : Hid (AwakeIs w)) : Calls Tryz.prog 15 #[.string x, .agg #[.string fu, .string ou, .int .i64 u0, .int .i64 u1, .int .i64 u2, .int .i64 u3, .int .i64 u4, .int .i64 u5, .int .i64 u6], .agg #[.string fv, .string ov, .int .i64 v0, .int .i64 v1, .int .i64 v2, .int .i64 v3, .int .i64 v4, .int .i64 v5, .int .i64 v6], .agg #[.string ft, .string ot, .int .i64 t0, .int .i64 t1, .int .i64 t2, .int .i64 t3, .int .i64 t4, .int .i64 t5, .int .i64 t6]] w (OrdPost w) := by
  have hk0 : Hid (Keep w (((w.alloc (.cells #[.string fu, .string ou, .int .i64 u0, .int .i64 u1, .int .i64 u2, .int .i64 u3, .int .i64 u4, .int .i64 u5, .int .i64 u6] 53)).alloc (.cells #[.string fv, .string ov, .int .i64 v0, .int .i64 v1, .int .i64 v2, .int .i64 v3, .int .i64 v4, .int .i64 v5, .int .i64 v6] 53)).alloc (.cells #[.string ft, .string ot, .int .i64 t0, .int .i64 t1, .int .i64 t2, .int .i64 t3, .int .i64 t4, .int .i64 t5, .int .i64 t6] 53)) [(w.heap.size + 1 + 1, #[.string ft, .string ot, .int .i64 t0, .int .i64 t1, .int .i64 t2, .int .i64 t3, .int .i64 t4, .int .i64 t5, .int .i64 t6], 53), (w.heap.size + 1, #[.string fv, .string ov, .int .i64 v0, .int .i64 v1, .int .i64 v2, .int .i64 v3, .int .i64 v4, .int .i64 v5, .int .i64 v6], 53), (w.heap.size, #[.string fu, .string ou, .int .i64 u0, .int .i64 u1, .int .i64 u2, .int .i64 u3, .int .i64 u4, .int .i64 u5, .int .i64 u6], 53)]) := Lib.hid (Keep.three w _ _ _ 53 53 53)
  go_enter Tryz.func15, Tryz.ntmps15
  go_wp2_with fail
  refine (h1.out _ hk0.out.below).mono ?_
  rintro e w1 ⟨rfl, hb⟩
  have hk1 := Lib.hid (hk0.out.next hb)
  clear hb hk0 h1
  go_wp2_with fail
  refine (hw.out _ hk1.out.below).mono ?_
  rintro e w9 ⟨rfl, hb⟩
  have hk9 := Lib.hid (hk1.out.next hb)
  clear hb
  go_wp2_with fail
  refine bodyPost_ret (v := .bool true) (by simp [results, Tryz.results15, go_sem]) rfl ?_
  exact ⟨rfl, hk9.out.below⟩

set_option maxRecDepth 100000 in
set_option maxHeartbeats 1600000 in
theorem there_empty (x : ByteArray) (fu ou : ByteArray) (u0 u1 u2 u3 u4 u5 u6 : Int) (fv ov : ByteArray) (v0 v1 v2 v3 v4 v5 v6 : Int) (ft ot : ByteArray) (t0 t1 t2 t3 t4 t5 t6 : Int)  (w : World) (h1 : (Hid (∀ W, Below w.heap.size w W → Calls Tryz.prog 67 #[.string x, .agg #[.string fu, .string ou, .int .i64 u0, .int .i64 u1, .int .i64 u2, .int .i64 u3, .int .i64 u4, .int .i64 u5, .int .i64 u6], .agg #[.string fv, .string ov, .int .i64 v0, .int .i64 v1, .int .i64 v2, .int .i64 v3, .int .i64 v4, .int .i64 v5, .int .i64 v6]] W (fun E w' => E = .returned (.tuple #[.string ⟨#[]⟩, .int .i64 0]) ∧ Below W.heap.size W w')))) (hw : Hid (AwakeIs w)) : Calls Tryz.prog 15 #[.string x, .agg #[.string fu, .string ou, .int .i64 u0, .int .i64 u1, .int .i64 u2, .int .i64 u3, .int .i64 u4, .int .i64 u5, .int .i64 u6], .agg #[.string fv, .string ov, .int .i64 v0, .int .i64 v1, .int .i64 v2, .int .i64 v3, .int .i64 v4, .int .i64 v5, .int .i64 v6], .agg #[.string ft, .string ot, .int .i64 t0, .int .i64 t1, .int .i64 t2, .int .i64 t3, .int .i64 t4, .int .i64 t5, .int .i64 t6]] w (OrdPost w) := by
  have hk0 : Hid (Keep w (((w.alloc (.cells #[.string fu, .string ou, .int .i64 u0, .int .i64 u1, .int .i64 u2, .int .i64 u3, .int .i64 u4, .int .i64 u5, .int .i64 u6] 53)).alloc (.cells #[.string fv, .string ov, .int .i64 v0, .int .i64 v1, .int .i64 v2, .int .i64 v3, .int .i64 v4, .int .i64 v5, .int .i64 v6] 53)).alloc (.cells #[.string ft, .string ot, .int .i64 t0, .int .i64 t1, .int .i64 t2, .int .i64 t3, .int .i64 t4, .int .i64 t5, .int .i64 t6] 53)) [(w.heap.size + 1 + 1, #[.string ft, .string ot, .int .i64 t0, .int .i64 t1, .int .i64 t2, .int .i64 t3, .int .i64 t4, .int .i64 t5, .int .i64 t6], 53), (w.heap.size + 1, #[.string fv, .string ov, .int .i64 v0, .int .i64 v1, .int .i64 v2, .int .i64 v3, .int .i64 v4, .int .i64 v5, .int .i64 v6], 53), (w.heap.size, #[.string fu, .string ou, .int .i64 u0, .int .i64 u1, .int .i64 u2, .int .i64 u3, .int .i64 u4, .int .i64 u5, .int .i64 u6], 53)]) := Lib.hid (Keep.three w _ _ _ 53 53 53)
  go_enter Tryz.func15, Tryz.ntmps15
  go_wp2_with fail
  refine (h1.out _ hk0.out.below).mono ?_
  rintro e w1 ⟨rfl, hb⟩
  have hk1 := Lib.hid (hk0.out.next hb)
  clear hb hk0 h1
  go_wp2_with fail
  refine (hw.out _ hk1.out.below).mono ?_
  rintro e w9 ⟨rfl, hb⟩
  have hk9 := Lib.hid (hk1.out.next hb)
  clear hb
  go_wp2_with fail
  refine bodyPost_ret (v := .bool true) (by simp [results, Tryz.results15, go_sem]) rfl ?_
  exact ⟨rfl, hk9.out.below⟩

set_option maxRecDepth 100000 in
set_option maxHeartbeats 1600000 in
theorem there_yes (x : ByteArray) (fu ou : ByteArray) (u0 u1 u2 u3 u4 u5 u6 : Int) (fv ov : ByteArray) (v0 v1 v2 v3 v4 v5 v6 : Int) (ft ot : ByteArray) (t0 t1 t2 t3 t4 t5 t6 : Int) (y b z d : ByteArray) (g : Int) (w : World) (h1 : (Hid (∀ W, Below w.heap.size w W → Calls Tryz.prog 67 #[.string x, .agg #[.string fu, .string ou, .int .i64 u0, .int .i64 u1, .int .i64 u2, .int .i64 u3, .int .i64 u4, .int .i64 u5, .int .i64 u6], .agg #[.string fv, .string ov, .int .i64 v0, .int .i64 v1, .int .i64 v2, .int .i64 v3, .int .i64 v4, .int .i64 v5, .int .i64 v6]] W (fun E w' => E = .returned (.tuple #[.string y, .int .i64 0]) ∧ Below W.heap.size W w')))) (hy : (y.toList == []) = false) (h2 : (Hid (∀ W, Below w.heap.size w W → Calls Tryz.prog 67 #[.string y, .agg #[.string fv, .string ov, .int .i64 v0, .int .i64 v1, .int .i64 v2, .int .i64 v3, .int .i64 v4, .int .i64 v5, .int .i64 v6], .agg #[.string fu, .string ou, .int .i64 u0, .int .i64 u1, .int .i64 u2, .int .i64 u3, .int .i64 u4, .int .i64 u5, .int .i64 u6]] W (fun E w' => E = .returned (.tuple #[.string b, .int .i64 0]) ∧ Below W.heap.size W w')))) (h3 : (Hid (∀ W, Below w.heap.size w W → Calls Tryz.prog 67 #[.string y, .agg #[.string fv, .string ov, .int .i64 v0, .int .i64 v1, .int .i64 v2, .int .i64 v3, .int .i64 v4, .int .i64 v5, .int .i64 v6], .agg #[.string ft, .string ot, .int .i64 t0, .int .i64 t1, .int .i64 t2, .int .i64 t3, .int .i64 t4, .int .i64 t5, .int .i64 t6]] W (fun E w' => E = .returned (.tuple #[.string z, .int .i64 g]) ∧ Below W.heap.size W w')))) (h4 : (Hid (∀ W, Below w.heap.size w W → Calls Tryz.prog 67 #[.string x, .agg #[.string fu, .string ou, .int .i64 u0, .int .i64 u1, .int .i64 u2, .int .i64 u3, .int .i64 u4, .int .i64 u5, .int .i64 u6], .agg #[.string ft, .string ot, .int .i64 t0, .int .i64 t1, .int .i64 t2, .int .i64 t3, .int .i64 t4, .int .i64 t5, .int .i64 t6]] W (fun E w' => E = .returned (.tuple #[.string d, .int .i64 g]) ∧ Below W.heap.size W w')))) (q1 : Hid (∀ W, Calls Tryz.prog 69 #[.string b, .string x] W fun e w' => e = .returned (.bool true) ∧ W = w')) (q2 : Hid (∀ W, Calls Tryz.prog 69 #[.string z, .string d] W fun e w' => e = .returned (.bool true) ∧ W = w')) (hw : Hid (AwakeIs w)) : Calls Tryz.prog 15 #[.string x, .agg #[.string fu, .string ou, .int .i64 u0, .int .i64 u1, .int .i64 u2, .int .i64 u3, .int .i64 u4, .int .i64 u5, .int .i64 u6], .agg #[.string fv, .string ov, .int .i64 v0, .int .i64 v1, .int .i64 v2, .int .i64 v3, .int .i64 v4, .int .i64 v5, .int .i64 v6], .agg #[.string ft, .string ot, .int .i64 t0, .int .i64 t1, .int .i64 t2, .int .i64 t3, .int .i64 t4, .int .i64 t5, .int .i64 t6]] w (OrdPost w) := by
  have hk0 : Hid (Keep w (((w.alloc (.cells #[.string fu, .string ou, .int .i64 u0, .int .i64 u1, .int .i64 u2, .int .i64 u3, .int .i64 u4, .int .i64 u5, .int .i64 u6] 53)).alloc (.cells #[.string fv, .string ov, .int .i64 v0, .int .i64 v1, .int .i64 v2, .int .i64 v3, .int .i64 v4, .int .i64 v5, .int .i64 v6] 53)).alloc (.cells #[.string ft, .string ot, .int .i64 t0, .int .i64 t1, .int .i64 t2, .int .i64 t3, .int .i64 t4, .int .i64 t5, .int .i64 t6] 53)) [(w.heap.size + 1 + 1, #[.string ft, .string ot, .int .i64 t0, .int .i64 t1, .int .i64 t2, .int .i64 t3, .int .i64 t4, .int .i64 t5, .int .i64 t6], 53), (w.heap.size + 1, #[.string fv, .string ov, .int .i64 v0, .int .i64 v1, .int .i64 v2, .int .i64 v3, .int .i64 v4, .int .i64 v5, .int .i64 v6], 53), (w.heap.size, #[.string fu, .string ou, .int .i64 u0, .int .i64 u1, .int .i64 u2, .int .i64 u3, .int .i64 u4, .int .i64 u5, .int .i64 u6], 53)]) := Lib.hid (Keep.three w _ _ _ 53 53 53)
  go_enter Tryz.func15, Tryz.ntmps15
  go_wp2_with fail
  refine (h1.out _ hk0.out.below).mono ?_
  rintro e w1 ⟨rfl, hb⟩
  have hk1 := Lib.hid (hk0.out.next hb)
  clear hb hk0 h1
  have hx : w1.heap[w.heap.size + 1]? = some (.cells #[.string fv, .string ov, .int .i64 v0, .int .i64 v1, .int .i64 v2, .int .i64 v3, .int .i64 v4, .int .i64 v5, .int .i64 v6] 53 (0, 0)) := hk1.out.one _ (List.mem_cons_of_mem _ (List.mem_cons_self ..))
  have cv_0 := cell_of_heap hx 0
  have cv_1 := cell_of_heap hx 1
  have cv_2 := cell_of_heap hx 2
  have cv_3 := cell_of_heap hx 3
  have cv_4 := cell_of_heap hx 4
  have cv_5 := cell_of_heap hx 5
  have cv_6 := cell_of_heap hx 6
  have cv_7 := cell_of_heap hx 7
  have cv_8 := cell_of_heap hx 8
  clear hx
  have hx : w1.heap[w.heap.size]? = some (.cells #[.string fu, .string ou, .int .i64 u0, .int .i64 u1, .int .i64 u2, .int .i64 u3, .int .i64 u4, .int .i64 u5, .int .i64 u6] 53 (0, 0)) := hk1.out.one _ (List.mem_cons_of_mem _ (List.mem_cons_of_mem _ (List.mem_cons_self ..)))
  have cu_0 := cell_of_heap hx 0
  have cu_1 := cell_of_heap hx 1
  have cu_2 := cell_of_heap hx 2
  have cu_3 := cell_of_heap hx 3
  have cu_4 := cell_of_heap hx 4
  have cu_5 := cell_of_heap hx 5
  have cu_6 := cell_of_heap hx 6
  have cu_7 := cell_of_heap hx 7
  have cu_8 := cell_of_heap hx 8
  clear hx
  go_wp2_with fail
  refine (h2.out _ hk1.out.below).mono ?_
  rintro e w2 ⟨rfl, hb⟩
  have hk2 := Lib.hid (hk1.out.next hb)
  clear hb hk1 h2
  clear cv_0 cv_1 cv_2 cv_3 cv_4 cv_5 cv_6 cv_7 cv_8 cu_0 cu_1 cu_2 cu_3 cu_4 cu_5 cu_6 cu_7 cu_8
  have hx : w2.heap[w.heap.size + 1 + 1]? = some (.cells #[.string ft, .string ot, .int .i64 t0, .int .i64 t1, .int .i64 t2, .int .i64 t3, .int .i64 t4, .int .i64 t5, .int .i64 t6] 53 (0, 0)) := hk2.out.one _ (List.mem_cons_self ..)
  have ct_0 := cell_of_heap hx 0
  have ct_1 := cell_of_heap hx 1
  have ct_2 := cell_of_heap hx 2
  have ct_3 := cell_of_heap hx 3
  have ct_4 := cell_of_heap hx 4
  have ct_5 := cell_of_heap hx 5
  have ct_6 := cell_of_heap hx 6
  have ct_7 := cell_of_heap hx 7
  have ct_8 := cell_of_heap hx 8
  clear hx
  have hx : w2.heap[w.heap.size + 1]? = some (.cells #[.string fv, .string ov, .int .i64 v0, .int .i64 v1, .int .i64 v2, .int .i64 v3, .int .i64 v4, .int .i64 v5, .int .i64 v6] 53 (0, 0)) := hk2.out.one _ (List.mem_cons_of_mem _ (List.mem_cons_self ..))
  have cv_0 := cell_of_heap hx 0
  have cv_1 := cell_of_heap hx 1
  have cv_2 := cell_of_heap hx 2
  have cv_3 := cell_of_heap hx 3
  have cv_4 := cell_of_heap hx 4
  have cv_5 := cell_of_heap hx 5
  have cv_6 := cell_of_heap hx 6
  have cv_7 := cell_of_heap hx 7
  have cv_8 := cell_of_heap hx 8
  clear hx
  go_wp2_with fail
  refine (h3.out _ hk2.out.below).mono ?_
  rintro e w3 ⟨rfl, hb⟩
  have hk3 := Lib.hid (hk2.out.next hb)
  clear hb hk2 h3
  clear ct_0 ct_1 ct_2 ct_3 ct_4 ct_5 ct_6 ct_7 ct_8 cv_0 cv_1 cv_2 cv_3 cv_4 cv_5 cv_6 cv_7 cv_8
  have hx : w3.heap[w.heap.size + 1 + 1]? = some (.cells #[.string ft, .string ot, .int .i64 t0, .int .i64 t1, .int .i64 t2, .int .i64 t3, .int .i64 t4, .int .i64 t5, .int .i64 t6] 53 (0, 0)) := hk3.out.one _ (List.mem_cons_self ..)
  have ct_0 := cell_of_heap hx 0
  have ct_1 := cell_of_heap hx 1
  have ct_2 := cell_of_heap hx 2
  have ct_3 := cell_of_heap hx 3
  have ct_4 := cell_of_heap hx 4
  have ct_5 := cell_of_heap hx 5
  have ct_6 := cell_of_heap hx 6
  have ct_7 := cell_of_heap hx 7
  have ct_8 := cell_of_heap hx 8
  clear hx
  have hx : w3.heap[w.heap.size]? = some (.cells #[.string fu, .string ou, .int .i64 u0, .int .i64 u1, .int .i64 u2, .int .i64 u3, .int .i64 u4, .int .i64 u5, .int .i64 u6] 53 (0, 0)) := hk3.out.one _ (List.mem_cons_of_mem _ (List.mem_cons_of_mem _ (List.mem_cons_self ..)))
  have cu_0 := cell_of_heap hx 0
  have cu_1 := cell_of_heap hx 1
  have cu_2 := cell_of_heap hx 2
  have cu_3 := cell_of_heap hx 3
  have cu_4 := cell_of_heap hx 4
  have cu_5 := cell_of_heap hx 5
  have cu_6 := cell_of_heap hx 6
  have cu_7 := cell_of_heap hx 7
  have cu_8 := cell_of_heap hx 8
  clear hx
  go_wp2_with fail
  refine (h4.out _ hk3.out.below).mono ?_
  rintro e w4 ⟨rfl, hb⟩
  have hk4 := Lib.hid (hk3.out.next hb)
  clear hb hk3 h4
  clear ct_0 ct_1 ct_2 ct_3 ct_4 ct_5 ct_6 ct_7 ct_8 cu_0 cu_1 cu_2 cu_3 cu_4 cu_5 cu_6 cu_7 cu_8
  go_wp2_with fail
  refine (q1.out _).mono ?_
  rintro e w5 ⟨rfl, rfl⟩
  go_wp2_with fail
  refine (q2.out _).mono ?_
  rintro e w6 ⟨rfl, rfl⟩
  go_wp2_with fail
  refine (hw.out _ hk4.out.below).mono ?_
  rintro e w9 ⟨rfl, hb⟩
  have hk9 := Lib.hid (hk4.out.next hb)
  clear hb
  go_wp2_with fail
  refine bodyPost_ret (v := .bool true) (by simp [results, Tryz.results15, go_sem]) rfl ?_
  exact ⟨rfl, hk9.out.below⟩

theorem conv_at (x : ByteArray) (fu ou : ByteArray) (u0 u1 u2 u3 u4 u5 u6 : Int) (fv ov : ByteArray) (v0 v1 v2 v3 v4 v5 v6 : Int) (w : World) (htab : Tab w) (Y : List UInt8) (e : Int) (h : convT x.data.toList (tU fu ou u0 u1 u2 u3 u4 u5 u6) (tU fv ov v0 v1 v2 v3 v4 v5 v6) = (Y, e)) : ∀ W, Below w.heap.size w W → Calls Tryz.prog 67 #[.string x, .agg #[.string fu, .string ou, .int .i64 u0, .int .i64 u1, .int .i64 u2, .int .i64 u3, .int .i64 u4, .int .i64 u5, .int .i64 u6], .agg #[.string fv, .string ov, .int .i64 v0, .int .i64 v1, .int .i64 v2, .int .i64 v3, .int .i64 v4, .int .i64 v5, .int .i64 v6]] W (fun E w' => E = .returned (.tuple #[.string ⟨Y.toArray⟩, .int .i64 e]) ∧ Below W.heap.size W w') := fun W hb => by
  have h1 := conv_any x fu ou u0 u1 u2 u3 u4 u5 u6 fv ov v0 v1 v2 v3 v4 v5 v6 W (htab.below hb)
  rw [h] at h1
  exact h1
set_option maxRecDepth 100000 in
theorem there_any (x : ByteArray) (fu ou : ByteArray) (u0 u1 u2 u3 u4 u5 u6 : Int) (fv ov : ByteArray) (v0 v1 v2 v3 v4 v5 v6 : Int) (ft ot : ByteArray) (t0 t1 t2 t3 t4 t5 t6 : Int) (w : World) (htab : Tab w) : Calls Tryz.prog 15 #[.string x, .agg #[.string fu, .string ou, .int .i64 u0, .int .i64 u1, .int .i64 u2, .int .i64 u3, .int .i64 u4, .int .i64 u5, .int .i64 u6], .agg #[.string fv, .string ov, .int .i64 v0, .int .i64 v1, .int .i64 v2, .int .i64 v3, .int .i64 v4, .int .i64 v5, .int .i64 v6], .agg #[.string ft, .string ot, .int .i64 t0, .int .i64 t1, .int .i64 t2, .int .i64 t3, .int .i64 t4, .int .i64 t5, .int .i64 t6]] w (OrdPost w) := by
  have hw := Lib.hid (show AwakeIs w from fun W hb => awake_any W (htab.below hb))
  obtain ⟨Y, e1, hc1⟩ : ∃ Y e, convT x.data.toList (tU fu ou u0 u1 u2 u3 u4 u5 u6) (tU fv ov v0 v1 v2 v3 v4 v5 v6) = (Y, e) := ⟨_, _, rfl⟩
  have h1 := conv_at x fu ou u0 u1 u2 u3 u4 u5 u6 fv ov v0 v1 v2 v3 v4 v5 v6 w htab Y e1 hc1
  by_cases he : e1 = 0
  · subst he
    by_cases hy : Y = []
    · subst hy
      exact there_empty x fu ou u0 u1 u2 u3 u4 u5 u6 fv ov v0 v1 v2 v3 v4 v5 v6 ft ot t0 t1 t2 t3 t4 t5 t6 w (Lib.hid h1) hw
    · have hok := there_ok (x := x.data.toList) (u := (tU fu ou u0 u1 u2 u3 u4 u5 u6)) (v := (tU fv ov v0 v1 v2 v3 v4 v5 v6)) (w := (tU ft ot t0 t1 t2 t3 t4 t5 t6)) (by rw [hc1]) (by rw [hc1]; exact hy)
      rw [hc1] at hok
      obtain ⟨B, f, hc2⟩ : ∃ Z e, convT Y (tU fv ov v0 v1 v2 v3 v4 v5 v6) (tU fu ou u0 u1 u2 u3 u4 u5 u6) = (Z, e) := ⟨_, _, rfl⟩
      obtain ⟨Z, g, hc3⟩ : ∃ Z e, convT Y (tU fv ov v0 v1 v2 v3 v4 v5 v6) (tU ft ot t0 t1 t2 t3 t4 t5 t6) = (Z, e) := ⟨_, _, rfl⟩
      obtain ⟨D, h, hc4⟩ : ∃ Z e, convT x.data.toList (tU fu ou u0 u1 u2 u3 u4 u5 u6) (tU ft ot t0 t1 t2 t3 t4 t5 t6) = (Z, e) := ⟨_, _, rfl⟩
      dsimp only at hok
      rw [hc2, hc3, hc4] at hok
      obtain ⟨r1, r2, r3, r4⟩ := hok
      dsimp only at r1 r2 r3 r4
      subst r1 r3
      have h2 := conv_at ⟨Y.toArray⟩ fv ov v0 v1 v2 v3 v4 v5 v6 fu ou u0 u1 u2 u3 u4 u5 u6 w htab B 0 hc2
      have h3 := conv_at ⟨Y.toArray⟩ fv ov v0 v1 v2 v3 v4 v5 v6 ft ot t0 t1 t2 t3 t4 t5 t6 w htab Z g hc3
      have h4 := conv_at x fu ou u0 u1 u2 u3 u4 u5 u6 ft ot t0 t1 t2 t3 t4 t5 t6 w htab D g hc4
      have q1 : ∀ W, Calls Tryz.prog 69 #[.string ⟨B.toArray⟩, .string x] W fun e w' => e = .returned (.bool true) ∧ W = w' := fun W => by
        have := equal_any ⟨B.toArray⟩ x W
        rwa [show eqT (⟨B.toArray⟩ : ByteArray).data.toList x.data.toList = true from r2] at this
      have q2 : ∀ W, Calls Tryz.prog 69 #[.string ⟨Z.toArray⟩, .string ⟨D.toArray⟩] W fun e w' => e = .returned (.bool true) ∧ W = w' := fun W => by
        have := equal_any ⟨Z.toArray⟩ ⟨D.toArray⟩ W
        rwa [show eqT (⟨Z.toArray⟩ : ByteArray).data.toList (⟨D.toArray⟩ : ByteArray).data.toList = true from r4] at this
      exact there_yes x fu ou u0 u1 u2 u3 u4 u5 u6 fv ov v0 v1 v2 v3 v4 v5 v6 ft ot t0 t1 t2 t3 t4 t5 t6 _ _ _ _ _ w (Lib.hid h1) (by rw [Lib.toList_data]; simpa using hy) (Lib.hid h2) (Lib.hid h3) (Lib.hid h4) (Lib.hid q1) (Lib.hid q2) hw
  · exact there_bad x fu ou u0 u1 u2 u3 u4 u5 u6 fv ov v0 v1 v2 v3 v4 v5 v6 ft ot t0 t1 t2 t3 t4 t5 t6 _ _ w (Lib.hid h1) he hw
end Go.Proofs.YtigicjakloiliaaGreatDoor
