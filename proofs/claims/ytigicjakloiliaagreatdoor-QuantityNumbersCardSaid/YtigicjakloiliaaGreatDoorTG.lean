/- The document's Parse. -/
import Derived.Test.YtigicjakloiliaaGreatDoorRh
import Derived.Test.YtigicjakloiliaaGreatDoorSB
import Derived.Test.YtigicjakloiliaaGreatDoorPart15
set_option maxHeartbeats 3200000
set_option maxRecDepth 100000
namespace Go.Proofs.YtigicjakloiliaaGreatDoor
open Go.RowKit Big
open Go.Lib
theorem rvalid_any (s : ByteArray) (w : World) : Calls Tryz.prog 20 #[.string s] w fun e w' => e = .returned (.bool (num s.data.toList).isSome) ∧ Below w.heap.size w w' := by
  have hg := fun W => Lib.hid (get_flag s _ rfl W)
  generalize (num s.data.toList).isSome = f at hg ⊢
  go_enter Tryz.func20, Tryz.ntmps20
  go_wp2_with fail
  refine (hg _).out.mono ?_
  rintro e w1 ⟨b1, p, n, c, p2, n2, c2, rfl, hb1, -⟩
  have HB : Hid (∀ o1, Below w.heap.size w (w1.alloc o1)) := Lib.hid fun o1 => hb1.alloc hb1.size o1
  clear hb1
  go_wp2_with fail
  go_ret
  exact ⟨rfl, HB.out _⟩
theorem rparse_long (s : ByteArray) (w : World) (h : (1000 : Int) < s.size) : Calls Tryz.prog 18 #[.string s] w (PairPost ([], 4) w) := by
  unfold PairPost
  go_enter Tryz.func18, Tryz.ntmps18
  go_wp2_with fail
  go_ret2
  exact ⟨rfl, Below.refl _ _⟩
theorem rparse_none (s : ByteArray) (q : Rat) (w : World) (h : (s.size : Int) ≤ 1000) (hr : Hid (Calls Tryz.prog 73 #[.string s] w (FlagPost q false w))) : Calls Tryz.prog 18 #[.string s] w (PairPost ([], 1) w) := by
  unfold PairPost
  go_enter Tryz.func18, Tryz.ntmps18
  go_wp2_with fail
  refine hr.out.mono ?_
  rintro e w1 ⟨b1, p, n, c, p2, n2, c2, rfl, hb1, -⟩
  have HB : Hid (∀ o1, Below w.heap.size w (w1.alloc o1)) := Lib.hid fun o1 => hb1.alloc hb1.size o1
  clear hb1
  go_wp2_with fail
  go_ret2
  exact ⟨rfl, HB.out _⟩
theorem rparse_far (s : ByteArray) (q : Rat) (w : World) (h : (s.size : Int) ≤ 1000) (hr : Hid (Calls Tryz.prog 73 #[.string s] w (FlagPost q true w)))
    (ht : Hid (∀ W x, QAt W x q → Calls Tryz.prog 74 #[x] W fun e w' => e = .returned (.tuple #[.string ⟨#[]⟩, .bool false]) ∧ Below W.heap.size W w')) : Calls Tryz.prog 18 #[.string s] w (PairPost ([], 4) w) := by
  unfold PairPost
  go_enter Tryz.func18, Tryz.ntmps18
  go_wp2_with fail
  refine hr.out.mono ?_
  rintro e w1 ⟨b1, p, n, c, p2, n2, c2, rfl, hb1, hq⟩
  have HB : Hid (∀ o1, Below w.heap.size w (w1.alloc o1)) := Lib.hid fun o1 => hb1.alloc hb1.size o1
  have h74 := Lib.hid (ht.out _ _ ((hq rfl).below (below_alloc9 w1 (.cells #[.bool b1, .slice p n c, .slice p2 n2 c2] 38))))
  clear hb1 hq ht
  go_wp2_with fail
  refine h74.out.mono ?_
  rintro e w2 ⟨rfl, hb2⟩
  have HB2 := Lib.hid ((HB.out _).trans (hb2.mono (HB.out _).size))
  clear hb2 h74
  go_wp2_with fail
  go_ret2
  exact ⟨rfl, HB2.out⟩
theorem rparse_ok (s : ByteArray) (q : Rat) (l : List UInt8) (w : World) (h : (s.size : Int) ≤ 1000) (hr : Hid (Calls Tryz.prog 73 #[.string s] w (FlagPost q true w)))
    (ht : Hid (∀ W x, QAt W x q → Calls Tryz.prog 74 #[x] W fun e w' => e = .returned (.tuple #[.string ⟨l.toArray⟩, .bool true]) ∧ Below W.heap.size W w')) : Calls Tryz.prog 18 #[.string s] w (PairPost (l, 0) w) := by
  unfold PairPost
  go_enter Tryz.func18, Tryz.ntmps18
  go_wp2_with fail
  refine hr.out.mono ?_
  rintro e w1 ⟨b1, p, n, c, p2, n2, c2, rfl, hb1, hq⟩
  have HB : Hid (∀ o1, Below w.heap.size w (w1.alloc o1)) := Lib.hid fun o1 => hb1.alloc hb1.size o1
  have h74 := Lib.hid (ht.out _ _ ((hq rfl).below (below_alloc9 w1 (.cells #[.bool b1, .slice p n c, .slice p2 n2 c2] 38))))
  clear hb1 hq ht
  go_wp2_with fail
  refine h74.out.mono ?_
  rintro e w2 ⟨rfl, hb2⟩
  have HB2 := Lib.hid ((HB.out _).trans (hb2.mono (HB.out _).size))
  clear hb2 h74
  go_wp2_with fail
  go_ret2
  exact ⟨rfl, HB2.out⟩
theorem B64_B9 (K : Nat) : B64 ^ K ≤ B9 ^ (3 * K) := by
  rw [Nat.pow_mul]
  exact Nat.pow_le_pow_left (by rw [B64_eq, B9_eq]; omega) K
theorem rparse_any (s : ByteArray) (w : World) : Calls Tryz.prog 18 #[.string s] w (PairPost (parseT s.data.toList) w) := by
  have hlen : s.data.toList.length = s.size := by simp
  unfold parseT
  by_cases h : 1000 < s.size
  · rw [if_pos (by omega)]
    exact rparse_long s w (by omega)
  · rw [if_neg (by omega)]
    have hp := plain_any s w (by omega)
    cases hr : readL s.data.toList with
    | none =>
      rw [hr] at hp
      refine rparse_none s 0 w (by omega) (Lib.hid (hp.mono ?_))
      rintro e w' ⟨q, b, p, n, c, p2, n2, c2, h1, h2, -⟩
      exact ⟨b, p, n, c, p2, n2, c2, h1, h2, fun h => by cases h⟩
    | some x =>
      obtain ⟨sg, n, d⟩ := x
      rw [hr] at hp
      simp only
      have hb := readL_lt1000 hr (Nat.le_refl _) (by omega)
      have hd := readL_pos hr
      have hq : QLt (3 * 60) (ratv sg n d) := lt_of_ratv rfl (Nat.lt_of_lt_of_le hb.1 (B64_B9 60)) (Nat.lt_of_lt_of_le hb.2 (B64_B9 60)) hd
      have ht := fun W x (hx : QAt W x (ratv sg n d)) => text_q x _ (3 * 60) W (by omega) hq hx
      unfold TextPost9 at ht
      by_cases he : txt (ratv sg n d) = []
      · rw [if_pos he]
        rw [he] at ht
        exact rparse_far s _ w (by omega) (Lib.hid hp) (Lib.hid ht)
      · rw [if_neg he]
        have hf : (!(txt (ratv sg n d)).isEmpty) = true := by simpa using he
        rw [hf] at ht
        exact rparse_ok s _ _ w (by omega) (Lib.hid hp) (Lib.hid ht)
end Go.Proofs.YtigicjakloiliaaGreatDoor
