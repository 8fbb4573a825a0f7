/- The program's Fits. -/
import Derived.Test.YtpnofkefcoaojaaGreatDoorTB
import Derived.Test.YtpnofkefcoaojaaGreatDoorCE
import Derived.WalkKit
import Derived.WalkSpells
import Derived.WalkLawsBesides
import Derived.Lib.Hide
import Derived.Laws.Externs
import Derived.Shelf.Spec.BitsCarry
import Derived.Laws.CopyOwn
set_option maxHeartbeats 3200000
set_option maxRecDepth 100000
namespace Go.Proofs.YtpnofkefcoaojaaGreatDoor
open Go.RowKit Big
open Go.Lib
def fitT (kind : Int) (l : List UInt8) : Bool :=
  if kind = 1 then l.isEmpty || (intT 8 l).isSome else if kind = 2 then l.isEmpty || (intT 16 l).isSome else if kind = 3 then l.isEmpty || (intT 32 l).isSome
  else if kind = 4 then l.isEmpty || (intT 64 l).isSome else if kind = 5 then l.isEmpty || (num l).isSome else false
theorem pfits1_nil (z : Int) (f : Bool) (w : World) (h76 : Hid (∀ W, Below w.heap.size w W → Calls Tryz.prog 93 #[.string ⟨#[]⟩, .int .i64 8] W fun e w' => e = .returned (.tuple #[.int .i64 z, .bool f]) ∧ Below W.heap.size W w')) : Calls Tryz.prog 46 #[.int .i64 1, .string ⟨#[]⟩] w fun e w' => e = .returned (.bool true) ∧ Below w.heap.size w w' := by
  go_enter Tryz.func46, Tryz.ntmps46
  go_wp2_with fail
  refine (h76.out _ (Below.refl _ _)).mono ?_
  rintro e w1 ⟨rfl, hb⟩
  have B1 := hiD (hb)
  clear hb
  go_wp2_with fail
  go_ret
  exact ⟨rfl, B1.out⟩
theorem pfits1_some (l : List UInt8) (_hl : ¬ l = []) (hl2 : l.isEmpty = false) (z : Int) (f : Bool) (w : World) (h76 : Hid (∀ W, Below w.heap.size w W → Calls Tryz.prog 93 #[.string ⟨l.toArray⟩, .int .i64 8] W fun e w' => e = .returned (.tuple #[.int .i64 z, .bool f]) ∧ Below W.heap.size W w')) : Calls Tryz.prog 46 #[.int .i64 1, .string ⟨l.toArray⟩] w fun e w' => e = .returned (.bool f) ∧ Below w.heap.size w w' := by
  go_enter Tryz.func46, Tryz.ntmps46
  go_wp2_with fail
  refine (h76.out _ (Below.refl _ _)).mono ?_
  rintro e w1 ⟨rfl, hb⟩
  have B1 := hiD (hb)
  clear hb
  go_wp2_with fail
  go_ret
  exact ⟨rfl, B1.out⟩
theorem pfits2_nil (z : Int) (f : Bool) (w : World) (h76 : Hid (∀ W, Below w.heap.size w W → Calls Tryz.prog 93 #[.string ⟨#[]⟩, .int .i64 16] W fun e w' => e = .returned (.tuple #[.int .i64 z, .bool f]) ∧ Below W.heap.size W w')) : Calls Tryz.prog 46 #[.int .i64 2, .string ⟨#[]⟩] w fun e w' => e = .returned (.bool true) ∧ Below w.heap.size w w' := by
  go_enter Tryz.func46, Tryz.ntmps46
  go_wp2_with fail
  refine (h76.out _ (Below.refl _ _)).mono ?_
  rintro e w1 ⟨rfl, hb⟩
  have B1 := hiD (hb)
  clear hb
  go_wp2_with fail
  go_ret
  exact ⟨rfl, B1.out⟩
theorem pfits2_some (l : List UInt8) (_hl : ¬ l = []) (hl2 : l.isEmpty = false) (z : Int) (f : Bool) (w : World) (h76 : Hid (∀ W, Below w.heap.size w W → Calls Tryz.prog 93 #[.string ⟨l.toArray⟩, .int .i64 16] W fun e w' => e = .returned (.tuple #[.int .i64 z, .bool f]) ∧ Below W.heap.size W w')) : Calls Tryz.prog 46 #[.int .i64 2, .string ⟨l.toArray⟩] w fun e w' => e = .returned (.bool f) ∧ Below w.heap.size w w' := by
  go_enter Tryz.func46, Tryz.ntmps46
  go_wp2_with fail
  refine (h76.out _ (Below.refl _ _)).mono ?_
  rintro e w1 ⟨rfl, hb⟩
  have B1 := hiD (hb)
  clear hb
  go_wp2_with fail
  go_ret
  exact ⟨rfl, B1.out⟩
theorem pfits3_nil (z : Int) (f : Bool) (w : World) (h76 : Hid (∀ W, Below w.heap.size w W → Calls Tryz.prog 93 #[.string ⟨#[]⟩, .int .i64 32] W fun e w' => e = .returned (.tuple #[.int .i64 z, .bool f]) ∧ Below W.heap.size W w')) : Calls Tryz.prog 46 #[.int .i64 3, .string ⟨#[]⟩] w fun e w' => e = .returned (.bool true) ∧ Below w.heap.size w w' := by
  go_enter Tryz.func46, Tryz.ntmps46
  go_wp2_with fail
  refine (h76.out _ (Below.refl _ _)).mono ?_
  rintro e w1 ⟨rfl, hb⟩
  have B1 := hiD (hb)
  clear hb
  go_wp2_with fail
  go_ret
  exact ⟨rfl, B1.out⟩
theorem pfits3_some (l : List UInt8) (_hl : ¬ l = []) (hl2 : l.isEmpty = false) (z : Int) (f : Bool) (w : World) (h76 : Hid (∀ W, Below w.heap.size w W → Calls Tryz.prog 93 #[.string ⟨l.toArray⟩, .int .i64 32] W fun e w' => e = .returned (.tuple #[.int .i64 z, .bool f]) ∧ Below W.heap.size W w')) : Calls Tryz.prog 46 #[.int .i64 3, .string ⟨l.toArray⟩] w fun e w' => e = .returned (.bool f) ∧ Below w.heap.size w w' := by
  go_enter Tryz.func46, Tryz.ntmps46
  go_wp2_with fail
  refine (h76.out _ (Below.refl _ _)).mono ?_
  rintro e w1 ⟨rfl, hb⟩
  have B1 := hiD (hb)
  clear hb
  go_wp2_with fail
  go_ret
  exact ⟨rfl, B1.out⟩
theorem pfits4_nil (z : Int) (f : Bool) (w : World) (h76 : Hid (∀ W, Below w.heap.size w W → Calls Tryz.prog 93 #[.string ⟨#[]⟩, .int .i64 64] W fun e w' => e = .returned (.tuple #[.int .i64 z, .bool f]) ∧ Below W.heap.size W w')) : Calls Tryz.prog 46 #[.int .i64 4, .string ⟨#[]⟩] w fun e w' => e = .returned (.bool true) ∧ Below w.heap.size w w' := by
  go_enter Tryz.func46, Tryz.ntmps46
  go_wp2_with fail
  refine (h76.out _ (Below.refl _ _)).mono ?_
  rintro e w1 ⟨rfl, hb⟩
  have B1 := hiD (hb)
  clear hb
  go_wp2_with fail
  go_ret
  exact ⟨rfl, B1.out⟩
theorem pfits4_some (l : List UInt8) (_hl : ¬ l = []) (hl2 : l.isEmpty = false) (z : Int) (f : Bool) (w : World) (h76 : Hid (∀ W, Below w.heap.size w W → Calls Tryz.prog 93 #[.string ⟨l.toArray⟩, .int .i64 64] W fun e w' => e = .returned (.tuple #[.int .i64 z, .bool f]) ∧ Below W.heap.size W w')) : Calls Tryz.prog 46 #[.int .i64 4, .string ⟨l.toArray⟩] w fun e w' => e = .returned (.bool f) ∧ Below w.heap.size w w' := by
  go_enter Tryz.func46, Tryz.ntmps46
  go_wp2_with fail
  refine (h76.out _ (Below.refl _ _)).mono ?_
  rintro e w1 ⟨rfl, hb⟩
  have B1 := hiD (hb)
  clear hb
  go_wp2_with fail
  go_ret
  exact ⟨rfl, B1.out⟩
theorem pfits5_nil (w : World) : Calls Tryz.prog 46 #[.int .i64 5, .string ⟨#[]⟩] w fun e w' => e = .returned (.bool true) ∧ Below w.heap.size w w' := by
  go_enter Tryz.func46, Tryz.ntmps46
  go_wp2_with fail
  go_ret
  exact ⟨rfl, Below.refl _ _⟩
theorem pfits5_some (l : List UInt8) (_hl : ¬ l = []) (hl2 : l.isEmpty = false) (f : Bool) (w : World) (h19 : Hid (∀ W, Below w.heap.size w W → Calls Tryz.prog 92 #[.string ⟨l.toArray⟩] W fun e w' => e = .returned (.bool f) ∧ Below W.heap.size W w')) : Calls Tryz.prog 46 #[.int .i64 5, .string ⟨l.toArray⟩] w fun e w' => e = .returned (.bool f) ∧ Below w.heap.size w w' := by
  go_enter Tryz.func46, Tryz.ntmps46
  go_wp2_with fail
  refine (h19.out _ (Below.refl _ _)).mono ?_
  rintro e w1 ⟨rfl, hb⟩
  have B1 := hiD (hb)
  clear hb
  go_wp2_with fail
  go_ret
  exact ⟨rfl, B1.out⟩
theorem pfits_no (x : ByteArray) (k : Int) (h1 : ¬ k = 1) (h2 : ¬ k = 2) (h3 : ¬ k = 3) (h4 : ¬ k = 4) (h5 : ¬ k = 5) (w : World) : Calls Tryz.prog 46 #[.int .i64 k, .string x] w fun e w' => e = .returned (.bool false) ∧ Below w.heap.size w w' := by
  go_enter Tryz.func46, Tryz.ntmps46
  go_wp2_with fail
  go_ret
  exact ⟨rfl, Below.refl _ _⟩
theorem pfits_list (k : Int) (l : List UInt8) (w : World) (h : Env w) : Calls Tryz.prog 46 #[.int .i64 k, .string ⟨l.toArray⟩] w fun e w' => e = .returned (.bool (fitT k l)) ∧ Below w.heap.size w w' := by
  have hi : ∀ (B : Nat), B = 8 ∨ B = 16 ∨ B = 32 ∨ B = 64 → ∀ W, Below w.heap.size w W → Calls Tryz.prog 93 #[.string ⟨l.toArray⟩, .int .i64 (B : Int)] W (IntPost (intT B l) W) := fun B hB W hW => integer_any B hB ⟨l.toArray⟩ W (h.below hW)
  have hv : ∀ W, Below w.heap.size w W → Calls Tryz.prog 92 #[.string ⟨l.toArray⟩] W fun e w' => e = .returned (.bool (num l).isSome) ∧ Below W.heap.size W w' := fun W hW => by
    have h := valid_any ⟨l.toArray⟩ W (h.below hW).tab
    rw [num_is] at h
    exact h
  unfold fitT
  by_cases h1 : k = 1
  · subst h1
    simp only [if_true, Int.reduceEq, if_false]
    by_cases hl : l = []
    · subst hl; exact pfits1_nil _ _ w (hiD (hi 8 (by omega)))
    · have hl2 : l.isEmpty = false := by simpa using hl
      rw [hl2, Bool.false_or]
      exact pfits1_some l hl hl2 _ _ w (hiD (hi 8 (by omega)))
  by_cases h2 : k = 2
  · subst h2
    simp only [if_true, Int.reduceEq, if_false]
    by_cases hl : l = []
    · subst hl; exact pfits2_nil _ _ w (hiD (hi 16 (by omega)))
    · have hl2 : l.isEmpty = false := by simpa using hl
      rw [hl2, Bool.false_or]
      exact pfits2_some l hl hl2 _ _ w (hiD (hi 16 (by omega)))
  by_cases h3 : k = 3
  · subst h3
    simp only [if_true, Int.reduceEq, if_false]
    by_cases hl : l = []
    · subst hl; exact pfits3_nil _ _ w (hiD (hi 32 (by omega)))
    · have hl2 : l.isEmpty = false := by simpa using hl
      rw [hl2, Bool.false_or]
      exact pfits3_some l hl hl2 _ _ w (hiD (hi 32 (by omega)))
  by_cases h4 : k = 4
  · subst h4
    simp only [if_true, Int.reduceEq, if_false]
    by_cases hl : l = []
    · subst hl; exact pfits4_nil _ _ w (hiD (hi 64 (by omega)))
    · have hl2 : l.isEmpty = false := by simpa using hl
      rw [hl2, Bool.false_or]
      exact pfits4_some l hl hl2 _ _ w (hiD (hi 64 (by omega)))
  by_cases h5 : k = 5
  · subst h5
    simp only [if_true, Int.reduceEq, if_false]
    by_cases hl : l = []
    · subst hl; exact pfits5_nil w
    · have hl2 : l.isEmpty = false := by simpa using hl
      rw [hl2, Bool.false_or]
      exact pfits5_some l hl hl2 _ w (hiD hv)
  simp only [h1, h2, h3, h4, h5, if_false]
  exact pfits_no _ k h1 h2 h3 h4 h5 w
end Go.Proofs.YtpnofkefcoaojaaGreatDoor
set_option maxHeartbeats 1600000
set_option maxRecDepth 100000
namespace Go.Proofs.YtpnofkefcoaojaaGreatDoor
open Go.RowKit
open Go.Lib
theorem fit_a : fitT 2 [49] = true := by decide +kernel
theorem fit_b : fitT 2 [] = true := by decide
theorem fit_c : fitT 2 [45, 50] = true := by decide +kernel
theorem pi_a : parseIntB 64 [49] = .ok 1 := by decide
theorem pi_c : parseIntB 64 [45, 50] = .ok (-2) := by decide
theorem width_two (w : World) : Calls Tryz.prog 13 #[.int .i64 2] w fun e w' => e = .returned (.int .i64 2) ∧ w = w' := by
  go_enter Tryz.func13, Tryz.ntmps13
  go_wp2_with fail
  go_ret
  exact ⟨rfl, rfl⟩
theorem isType_two (w : World) : Calls Tryz.prog 39 #[.int .i64 2] w fun e w' => e = .returned (.bool true) ∧ w = w' := by
  go_enter Tryz.func39, Tryz.ntmps39
  go_wp2_with fail
  refine (width_two _).mono ?_
  rintro e w' ⟨rfl, rfl⟩
  go_wp2_with fail
  go_ret
  exact ⟨rfl, rfl⟩
theorem isCount_any (n : Nat) (hn : (n : Int) ≤ 4096) (w : World) : Calls Tryz.prog 59 #[.int .i64 (n : Int)] w fun e w' => e = .returned (.bool true) ∧ w = w' := by
  go_enter Tryz.func59, Tryz.ntmps59
  go_wp2_with fail
  go_ret
  exact ⟨rfl, rfl⟩
theorem presence_any (n : Nat) (hn : (n : Int) ≤ 4096) (w : World) : Calls Tryz.prog 75 #[.int .i64 (n : Int)] w fun e w' => e = .returned (.int .i64 (((n : Int) + 7) / 8)) ∧ w = w' := by
  go_enter Tryz.func75, Tryz.ntmps75
  go_wp2_with fail
  go_ret
  exact ⟨rfl, rfl⟩
def Ss (w : World) (p : Option Addr) (xs : List (List UInt8)) : Prop := xs.length = 0 ∨ ∃ b off, p = some ⟨b, off, none⟩ ∧ b < w.heap.size ∧ ∀ j, j < xs.length → w.cell? ⟨b, off + j, none⟩ = some (.string ⟨(xs.getD j []).toArray⟩)
theorem Ss.below {w w' : World} {p : Option Addr} {xs : List (List UInt8)} (h : Ss w p xs) (hb : Below w.heap.size w w') : Ss w' p xs := by
  rcases h with h0 | ⟨b, off, hp, hlt, hc⟩
  · exact .inl h0
  · exact .inr ⟨b, off, hp, Nat.lt_of_lt_of_le hlt hb.size, fun j hj => (hb.cell (p := ⟨b, off + j, none⟩) hlt).trans (hc j hj)⟩
theorem Ss.at {w : World} {p : Option Addr} {xs : List (List UInt8)} (h : Ss w p xs) {k : Nat} (hk : k < xs.length) : ∃ (b off : Nat) (x : List UInt8), p = some ⟨b, off, none⟩ ∧ b < w.heap.size ∧ w.cell? ⟨b, off + k, none⟩ = some (.string ⟨x.toArray⟩) ∧ Hid (xs.getD k [] = x) := by
  rcases h with h0 | ⟨b, off, h1, h2, h3⟩
  · omega
  · exact ⟨b, off, _, h1, h2, h3 k hk, rfl⟩
theorem checkValues_two (p : Option Addr) (c : Nat) (xs : List (List UInt8)) (w : World) (hn : xs.length ≤ 4096) (hs : Ss w p xs) (hf : ∀ k, k < xs.length → fitT 2 (xs.getD k []) = true) (he : Env w) :
    Calls Tryz.prog 44 #[.int .i64 2, .slice p xs.length c] w fun e w' => e = .returned (.int .i64 0) ∧ Below w.heap.size w w' := by
  have HS := Lib.hid hs
  have HF := Lib.hid hf
  have HV := Lib.hid he
  clear hs hf he
  obtain ⟨n, HN⟩ : ∃ n, Hid (n = xs.length) := ⟨_, rfl⟩
  rw [← HN.out] at hn ⊢
  have hn' : (n : Int) ≤ 4096 := by omega
  go_enter Tryz.func44, Tryz.ntmps44
  go_wp2_with fail
  refine (isType_two _).mono ?_
  rintro e w' ⟨rfl, rfl⟩
  go_wp2_with fail
  refine (isCount_any n hn' _).mono ?_
  rintro e w' ⟨rfl, rfl⟩
  go_wp2_with fail
  go_loopw [16] (fun i wr => ∃ k : Nat, k ≤ n ∧ i = .int .i64 k ∧ Hid (Below w.heap.size w wr)) (fun i _ => n - (intOf i).toNat)
  case atStart => exact ⟨0, Nat.zero_le _, rfl, Lib.hid (Below.refl _ _)⟩
  case round =>
    obtain ⟨k, hk, rfl, HB⟩ := hrel
    by_cases hlt : k < n
    · obtain ⟨b1, o1, x, rfl, hb1, hc1, hx⟩ := (HS.out.below HB.out).at (k := k) (by rw [← HN.out]; exact hlt)
      have HC := Lib.hid (pfits_list 2 x wr (HV.out.below HB.out))
      have hft : Hid (fitT 2 x = true) := Lib.hid (by rw [← hx.out]; exact HF.out k (by rw [← HN.out]; exact hlt))
      rw [hft.out] at HC
      go_wp2_with fail
      refine (HC.out).mono ?_
      rintro e w2 ⟨rfl, hb2⟩
      have HB2 := Lib.hid (HB.out.trans (hb2.mono HB.out.size))
      clear hb2
      go_wp2_with fail
      go_roundw
      case rel => exact ⟨k + 1, by omega, by go_num, HB2⟩
      case measure => simp [intOf]; omega
    · obtain rfl : k = n := by omega
      go_wp2_with fail
      go_ret
      exact ⟨rfl, HB.out⟩
end Go.Proofs.YtpnofkefcoaojaaGreatDoor
set_option maxRecDepth 100000
set_option maxHeartbeats 800000
namespace Go.Proofs.YtpnofkefcoaojaaGreatDoor
end Go.Proofs.YtpnofkefcoaojaaGreatDoor
namespace Big
theorem Canon.of_last {B : Nat} {l : List Nat} (h : Dig B l) (k : Nat) (hk : l.length = k + 1) (h0 : l.getD k 0 ≠ 0) : Canon B l := by
  refine ⟨h, ?_⟩
  rw [List.getLast?_eq_getElem?, hk, Nat.add_sub_cancel]
  rw [List.getD_eq_getElem?_getD] at h0
  intro e; rw [e] at h0; simp at h0
theorem Canon.zero_iff {B : Nat} (hB : 0 < B) {l : List Nat} (h : Canon B l) : val B l = 0 ↔ l = [] := by
  constructor
  · intro h0
    cases l with
    | nil => rfl
    | cons x t =>
      have := h.pow_le t.length (by simp)
      have hp : 0 < B ^ t.length := Nat.pow_pos hB
      omega
  · rintro rfl; rfl
end Big
namespace Go.Proofs.YtpnofkefcoaojaaGreatDoor
open Go.RowKit
end Go.Proofs.YtpnofkefcoaojaaGreatDoor
namespace Go.Proofs.YtpnofkefcoaojaaGreatDoor
open Go.RowKit Big
end Go.Proofs.YtpnofkefcoaojaaGreatDoor
