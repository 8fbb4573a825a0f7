/- The document's Add, Sub, Mul on texts. -/
import Derived.Test.YtpnofkefcoaojaaGreatDoorU10
import Derived.Test.YtpnofkefcoaojaaGreatDoorX9SA
namespace Go.Proofs.YtpnofkefcoaojaaGreatDoor
open Go.RowKit Big
open Go.Lib
theorem two_any (s t : ByteArray) (w : World) : Calls Tryz.prog 80 #[.string s, .string t] w fun e w' => match num s.data.toList, num t.data.toList with
    | some a, some b => TwoPost a b true w e w'
    | _, _ => ∃ a b, TwoPost a b false w e w' := by
  have gs := fun W => get_any s W
  have gt := fun W => get_any t W
  have rd : ∀ (x : ByteArray) (W : World) (q : Rat), (∀ W, Calls Tryz.prog 31 #[.string x] W (GetPost none W)) → Calls Tryz.prog 31 #[.string x] W (FlagPost q false W) := fun x W q h => (h W).mono fun e w' ⟨q', b, p, n, c, p2, n2, c2, h1, h2, _⟩ => ⟨b, p, n, c, p2, n2, c2, h1, h2, fun h => by cases h⟩
  cases ha : num s.data.toList with
  | none =>
    rw [ha] at gs
    cases hb : num t.data.toList with
    | none => rw [hb] at gt; exact (two_false_false s t 0 0 w (fun W => hiD (rd s W 0 gs)) (fun W => hiD (rd t W 0 gt))).mono fun e w' h => ⟨_, _, h⟩
    | some b => rw [hb] at gt; exact (two_false_true s t 0 b w (fun W => hiD (rd s W 0 gs)) (fun W => hiD (gt W))).mono fun e w' h => ⟨_, _, h⟩
  | some a =>
    rw [ha] at gs
    cases hb : num t.data.toList with
    | none => rw [hb] at gt; exact (two_true_false s t a 0 w (fun W => hiD (gs W)) (fun W => hiD (rd t W 0 gt))).mono fun e w' h => ⟨_, _, h⟩
    | some b => rw [hb] at gt; exact two_true_true s t a b w (fun W => hiD (gs W)) (fun W => hiD (gt W))
theorem QLt.quo {K L : Nat} {a b : Rat} (ha : QLt K a) (hb : QLt L b) : QLt (K + L) (a / b) := by
  by_cases h : b.num.natAbs = 0
  · have hb0 : b = 0 := Rat.num_eq_zero.1 (by omega)
    have e : a / b = 0 := by rw [hb0]; grind
    rw [e]
    exact ⟨Nat.pow_pos B9_pos, Nat.one_lt_pow (by have := ha.2; have := a.den_pos; intro h0; have hK : K = 0 := by omega
                                                  subst hK; rw [Nat.pow_zero] at *; omega) (by rw [B9_eq]; omega)⟩
  · exact lt_of_ratv (quot_parts a b) (pow9_mul ha.1 hb.2) (pow9_mul ha.2 hb.1) (Nat.mul_pos a.den_pos (by omega))
end Go.Proofs.YtpnofkefcoaojaaGreatDoor
