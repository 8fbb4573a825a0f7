/- QuantityThere: Convert at any arguments, and the law's walk. -/
import Derived.Test.YtigicjakloiliaaGreatDoorCR
import Derived.Test.YtigicjakloiliaaGreatDoorCx
set_option maxRecDepth 100000
namespace Go.Proofs.YtigicjakloiliaaGreatDoor
open Go.RowKit Go.Lib Big
theorem valIs (fu ou : ByteArray) (u0 u1 u2 u3 u4 u5 u6 : Int) (w : World) (htab : Tab w) (b : Bool) (h : validT (tU fu ou u0 u1 u2 u3 u4 u5 u6) = b) : ValIs w (.agg #[.string fu, .string ou, .int .i64 u0, .int .i64 u1, .int .i64 u2, .int .i64 u3, .int .i64 u4, .int .i64 u5, .int .i64 u6]) b := fun W hW => hiD (by
  have := validUnit_any fu ou u0 u1 u2 u3 u4 u5 u6 W (htab.below hW)
  rwa [h] at this)
theorem numIs (x : ByteArray) (w : World) (htab : Tab w) (r : Option Rat) (h : num x.data.toList = r) : ∀ W, Below w.heap.size w W → Hid (Calls Tryz.prog 75 #[.string x] W (NumPost r W)) := fun W hW => hiD (by
  have := qread_is x W (htab.below hW)
  rwa [h] at this)
theorem conv_any (x : ByteArray) (fu ou : ByteArray) (u0 u1 u2 u3 u4 u5 u6 : Int) (fv ov : ByteArray) (v0 v1 v2 v3 v4 v5 v6 : Int) (w : World) (htab : Tab w) : Calls Tryz.prog 67 #[.string x, .agg #[.string fu, .string ou, .int .i64 u0, .int .i64 u1, .int .i64 u2, .int .i64 u3, .int .i64 u4, .int .i64 u5, .int .i64 u6], .agg #[.string fv, .string ov, .int .i64 v0, .int .i64 v1, .int .i64 v2, .int .i64 v3, .int .i64 v4, .int .i64 v5, .int .i64 v6]] w (ConvPost (convT x.data.toList (tU fu ou u0 u1 u2 u3 u4 u5 u6) (tU fv ov v0 v1 v2 v3 v4 v5 v6)) w) := by
  cases hu : validT (tU fu ou u0 u1 u2 u3 u4 u5 u6) with
  | false =>
    have h := conv_no1 x fu ou u0 u1 u2 u3 u4 u5 u6 fv ov v0 v1 v2 v3 v4 v5 v6 w (valIs fu ou u0 u1 u2 u3 u4 u5 u6 w htab _ hu)
    unfold convT; rw [hu]; exact h
  | true =>
    cases hv : validT (tU fv ov v0 v1 v2 v3 v4 v5 v6) with
    | false =>
      have h := conv_no2 x fu ou u0 u1 u2 u3 u4 u5 u6 fv ov v0 v1 v2 v3 v4 v5 v6 w (valIs fu ou u0 u1 u2 u3 u4 u5 u6 w htab _ hu) (valIs fv ov v0 v1 v2 v3 v4 v5 v6 w htab _ hv)
      unfold convT; rw [hu, hv]; exact h
    | true =>
      by_cases hp : [u0, u1, u2, u3, u4, u5, u6] = [v0, v1, v2, v3, v4, v5, v6]
      · have heq : ∀ W, (Op.equalIn 10000 51 (.agg #[.int .i64 u0, .int .i64 u1, .int .i64 u2, .int .i64 u3, .int .i64 u4, .int .i64 u5, .int .i64 u6]) (.agg #[.int .i64 v0, .int .i64 v1, .int .i64 v2, .int .i64 v3, .int .i64 v4, .int .i64 v5, .int .i64 v6])).run Tryz.prog W = .ok true W := fun W => by rw [powers_eq, decide_eq_true hp]
        cases hx : num x.data.toList with
        | none =>
          have h := conv_none x fu ou u0 u1 u2 u3 u4 u5 u6 fv ov v0 v1 v2 v3 v4 v5 v6 w (valIs fu ou u0 u1 u2 u3 u4 u5 u6 w htab _ hu) (valIs fv ov v0 v1 v2 v3 v4 v5 v6 w htab _ hv) heq (numIs x w htab _ hx)
          unfold convT; rw [hu, hv, hx]; simp only [Bool.and_self, if_true]; rw [if_pos (show ((tU fu ou u0 u1 u2 u3 u4 u5 u6)).ps = ((tU fv ov v0 v1 v2 v3 v4 v5 v6)).ps from hp)]; exact h
        | some a =>
          obtain ⟨ku1, ku2, ku3, ku4⟩ := validT_iff.1 hu
          obtain ⟨kv1, kv2, kv3, kv4⟩ := validT_iff.1 hv
          obtain ⟨ou', hou⟩ := Option.isSome_iff_exists.1 ku3
          obtain ⟨ov', hov⟩ := Option.isSome_iff_exists.1 kv3
          have hv0 : valT ((tU fv ov v0 v1 v2 v3 v4 v5 v6)).f ≠ 0 := by grind
          have h := conv_ok x fu ou u0 u1 u2 u3 u4 u5 u6 fv ov v0 v1 v2 v3 v4 v5 v6 a (valT ((tU fu ou u0 u1 u2 u3 u4 u5 u6)).f) ou' (valT ((tU fv ov v0 v1 v2 v3 v4 v5 v6)).f) ov' w (valIs fu ou u0 u1 u2 u3 u4 u5 u6 w htab _ hu) (valIs fv ov v0 v1 v2 v3 v4 v5 v6 w htab _ hv) heq (numIs x w htab _ hx)
            (hiD fun W h => factorOf_is fu ou u0 u1 u2 u3 u4 u5 u6 _ W (htab.below h) ku1) (hiD fun W h => offsetOf_is fu ou u0 u1 u2 u3 u4 u5 u6 _ W (htab.below h) hou)
            (hiD fun W h => factorOf_is fv ov v0 v1 v2 v3 v4 v5 v6 _ W (htab.below h) kv1) (hiD fun W h => offsetOf_is fv ov v0 v1 v2 v3 v4 v5 v6 _ W (htab.below h) hov)
            (hiD fun W y z hy hz => mul_is y z _ _ 20 W (by omega) hy hz) (hiD fun W y z hy hz => add_is y z _ _ 40 W (by omega) hy (hz.more (by omega)))
            (hiD fun W y z hy hz => sub_is y z _ _ 81 W (by omega) hy (hz.more (by omega))) (hiD fun W y z hy hz => quo_is y z _ _ 163 W (by omega) hv0 hy (hz.more (by omega)))
            (hiD fun W y hW hy => qtext_is y _ 326 W (by omega) hy (htab.below hW))
          unfold convT; rw [hu, hv, hx]; simp only [Bool.and_self, if_true]; rw [if_pos (show ((tU fu ou u0 u1 u2 u3 u4 u5 u6)).ps = ((tU fv ov v0 v1 v2 v3 v4 v5 v6)).ps from hp), valT_some hou, valT_some hov]; exact h
      · have heq : ∀ W, (Op.equalIn 10000 51 (.agg #[.int .i64 u0, .int .i64 u1, .int .i64 u2, .int .i64 u3, .int .i64 u4, .int .i64 u5, .int .i64 u6]) (.agg #[.int .i64 v0, .int .i64 v1, .int .i64 v2, .int .i64 v3, .int .i64 v4, .int .i64 v5, .int .i64 v6])).run Tryz.prog W = .ok false W := fun W => by rw [powers_eq, decide_eq_false hp]
        have h := conv_ps x fu ou u0 u1 u2 u3 u4 u5 u6 fv ov v0 v1 v2 v3 v4 v5 v6 w (valIs fu ou u0 u1 u2 u3 u4 u5 u6 w htab _ hu) (valIs fv ov v0 v1 v2 v3 v4 v5 v6 w htab _ hv) heq
        unfold convT; rw [hu, hv]; simp only [Bool.and_self, if_true]; rw [if_neg (show ¬ ((tU fu ou u0 u1 u2 u3 u4 u5 u6)).ps = ((tU fv ov v0 v1 v2 v3 v4 v5 v6)).ps from hp)]; exact h
end Go.Proofs.YtigicjakloiliaaGreatDoor
