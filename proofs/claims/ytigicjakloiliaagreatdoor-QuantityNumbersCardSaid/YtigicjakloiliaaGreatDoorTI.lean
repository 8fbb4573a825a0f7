/- The law QuantityNumbers. -/
import Derived.Test.YtigicjakloiliaaGreatDoorTG
import Derived.Test.YtigicjakloiliaaGreatDoorTH
import Derived.Test.YtigicjakloiliaaGreatDoorPart19
set_option maxHeartbeats 3200000
set_option maxRecDepth 100000
namespace Go.Proofs.YtigicjakloiliaaGreatDoor
open Go.RowKit Big
open Go.Lib
theorem rint_any (s : ByteArray) (w : World) : Calls Tryz.prog 22 #[.string s] w (IntPost (smallT s.data.toList) w) := by
  have h40 := get_flag s _ rfl w
  cases hq : num s.data.toList with
  | none =>
    rw [hq] at h40
    have e : smallT s.data.toList = none := by unfold smallT intT; rw [hq]
    rw [e]
    exact rint_no s 0 w (Lib.hid h40)
  | some q =>
    rw [hq] at h40
    have lq := num_lt9 hq
    have h44 := fun W u (hu : QAt W u q) => whole_any u q 5 W (by omega) (by omega) lq hu
    by_cases hd : q.den = 1
    · have hdt : decide (q.den = 1) = true := by simpa using hd
      rw [hdt] at h44
      have h78 := Lib.hid (fun W => natOf_any 9007199254740992 W (by omega))
      have h77 := Lib.hid (fun W u v (hu : Nat9 W u q.num.natAbs) (hv : Nat9 W v 9007199254740992) => (natCmp_nat u v q.num.natAbs 9007199254740992 5 W (by unfold most; omega) lq.1 (by rw [B9_eq]; omega) hu hv).mono fun e w' (h : CmpPost _ _ _ e w') => (show e = .returned (.int .i64 (cmp3 q.num.natAbs 9007199254740992)) ∧ Below W.heap.size W w' from by
        obtain ⟨h1, k, h2⟩ := h
        exact ⟨h1, by rw [← h2]; exact below_drewN _ _ _⟩))
      have hi : intT 64 s.data.toList = if -9223372036854775808 ≤ q.num ∧ q.num < 9223372036854775808 then some q.num else none := by
        unfold intT
        rw [hq]
        simp only [hd, true_and]
        rfl
      by_cases hN : q.num.natAbs ≤ 9007199254740992
      · have e : smallT s.data.toList = some q.num := by
          unfold smallT
          rw [hi, if_pos (by omega)]
          simp only []
          rw [if_pos (by omega)]
        rw [e]
        exact rint_yes s q (cmp3 q.num.natAbs 9007199254740992) (by unfold cmp3; split <;> (try split) <;> omega) (Lib.hid hN) (Lib.hid h44) h78 h77 w (Lib.hid h40)
      · have e : smallT s.data.toList = none := by
          unfold smallT
          rw [hi]
          by_cases hr : -9223372036854775808 ≤ q.num ∧ q.num < 9223372036854775808
          · rw [if_pos hr]
            simp only []
            rw [if_neg (by omega)]
          · rw [if_neg hr]
        rw [e]
        exact rint_far s q (cmp3 q.num.natAbs 9007199254740992) (by unfold cmp3; rw [if_neg (by omega), if_pos (by omega)]; omega) (Lib.hid h44) h78 h77 w (Lib.hid h40)
    · have hdt : decide (q.den = 1) = false := by simpa using hd
      rw [hdt] at h44
      have e : smallT s.data.toList = none := by
        unfold smallT intT
        rw [hq]
        simp [hd]
      rw [e]
      exact rint_frac s q (Lib.hid h44) w (Lib.hid h40)
theorem parseT_same {l : List UInt8} {q : Rat} (h : num l = some q) : parseT l = (l, 0) := by
  have hl := num_len h
  have hne : l ≠ [] := fun e => by rw [e, num_nil] at h; cases h
  unfold parseT
  rw [if_neg (by omega)]
  cases hr : readL l with
  | none => rw [num_none_of hr] at h; cases h
  | some t =>
    obtain ⟨sg, n, d⟩ := t
    have hd := readL_pos hr
    rw [num_of hr hl hd] at h
    split at h
    · rename_i he
      simp only
      rw [he, if_neg hne]
    · cases h
theorem parseT_ok {l x : List UInt8} (h : parseT l = (x, 0)) : ∃ q, num x = some q := by
  unfold parseT at h
  split at h
  · simp at h
  · split at h
    · split at h
      · simp at h
      · rename_i he
        simp only [Prod.mk.injEq, and_true] at h
        rw [← h]
        exact ⟨_, num_txt he⟩
    · simp at h
theorem numbers_bad (s x : ByteArray) (er : Int) (he : ¬ er = 0) (y : ByteArray) (g : Int) (f is : Bool) (n : Int) (w : World) (h17 : Hid (∀ W, Below w.heap.size w W → Calls Tryz.prog 17 #[.string s] W fun e w' => e = .returned (.tuple #[.string x, .int .i64 er]) ∧ Below W.heap.size W w')) (h18 : Hid (∀ W, Below w.heap.size w W → Calls Tryz.prog 18 #[.string s] W fun e w' => e = .returned (.tuple #[.string x, .int .i64 er]) ∧ Below W.heap.size W w')) (h19 : Hid (∀ W, Below w.heap.size w W → Calls Tryz.prog 19 #[.string s] W fun e w' => e = .returned (.bool f) ∧ Below W.heap.size W w')) (h20 : Hid (∀ W, Below w.heap.size w W → Calls Tryz.prog 20 #[.string s] W fun e w' => e = .returned (.bool f) ∧ Below W.heap.size W w'))
    (h21 : Hid (∀ W, Below w.heap.size w W → Calls Tryz.prog 21 #[.string s] W fun e w' => e = .returned (.tuple #[.int .i64 n, .bool is]) ∧ Below W.heap.size W w')) (h22 : Hid (∀ W, Below w.heap.size w W → Calls Tryz.prog 22 #[.string s] W fun e w' => e = .returned (.tuple #[.int .i64 n, .bool is]) ∧ Below W.heap.size W w')) (h23 : Hid (∀ W, Below w.heap.size w W → Calls Tryz.prog 17 #[.string x] W fun e w' => e = .returned (.tuple #[.string y, .int .i64 g]) ∧ Below W.heap.size W w')) (hw : Hid (∀ W, Below w.heap.size w W → Calls Tryz.prog 23 #[] W fun e w' => e = .returned (.bool true) ∧ Below W.heap.size W w')) : Calls Tryz.prog 3 #[.string s] w fun e w' => e = .returned (.bool true) ∧ Below w.heap.size w w' := by
  go_enter Tryz.func3, Tryz.ntmps3
  go_wp2_with fail
  refine (h17.out _ (Below.refl _ _)).mono ?_
  rintro e w1 ⟨rfl, hb⟩
  have B1 := Lib.hid (hb)
  clear hb
  go_wp2_with fail
  refine (h18.out _ B1.out).mono ?_
  rintro e w2 ⟨rfl, hb⟩
  have B2 := Lib.hid (Below.trans B1.out (hb.mono B1.out.size))
  clear hb
  go_wp2_with fail
  refine (h19.out _ B2.out).mono ?_
  rintro e w3 ⟨rfl, hb⟩
  have B3 := Lib.hid (Below.trans B2.out (hb.mono B2.out.size))
  clear hb
  go_wp2_with fail
  refine (h20.out _ B3.out).mono ?_
  rintro e w4 ⟨rfl, hb⟩
  have B4 := Lib.hid (Below.trans B3.out (hb.mono B3.out.size))
  clear hb
  go_wp2_with fail
  refine (h21.out _ B4.out).mono ?_
  rintro e w5 ⟨rfl, hb⟩
  have B5 := Lib.hid (Below.trans B4.out (hb.mono B4.out.size))
  clear hb
  go_wp2_with fail
  refine (h22.out _ B5.out).mono ?_
  rintro e w6 ⟨rfl, hb⟩
  have B6 := Lib.hid (Below.trans B5.out (hb.mono B5.out.size))
  clear hb
  go_wp2_with fail
  refine (h23.out _ B6.out).mono ?_
  rintro e w7 ⟨rfl, hb⟩
  have B7 := Lib.hid (Below.trans B6.out (hb.mono B6.out.size))
  clear hb
  go_wp2_with fail
  refine (hw.out _ B7.out).mono ?_
  rintro e w8 ⟨rfl, hb⟩
  have B8 := Lib.hid (Below.trans B7.out (hb.mono B7.out.size))
  clear hb
  go_wp2_with fail
  go_ret
  exact ⟨rfl, B8.out⟩
theorem numbers_ok (s x : ByteArray) (f is : Bool) (n : Int) (w : World) (h17 : Hid (∀ W, Below w.heap.size w W → Calls Tryz.prog 17 #[.string s] W fun e w' => e = .returned (.tuple #[.string x, .int .i64 0]) ∧ Below W.heap.size W w')) (h18 : Hid (∀ W, Below w.heap.size w W → Calls Tryz.prog 18 #[.string s] W fun e w' => e = .returned (.tuple #[.string x, .int .i64 0]) ∧ Below W.heap.size W w')) (h19 : Hid (∀ W, Below w.heap.size w W → Calls Tryz.prog 19 #[.string s] W fun e w' => e = .returned (.bool f) ∧ Below W.heap.size W w')) (h20 : Hid (∀ W, Below w.heap.size w W → Calls Tryz.prog 20 #[.string s] W fun e w' => e = .returned (.bool f) ∧ Below W.heap.size W w')) (h24 : Hid (∀ W, Below w.heap.size w W → Calls Tryz.prog 19 #[.string x] W fun e w' => e = .returned (.bool true) ∧ Below W.heap.size W w'))
    (h21 : Hid (∀ W, Below w.heap.size w W → Calls Tryz.prog 21 #[.string s] W fun e w' => e = .returned (.tuple #[.int .i64 n, .bool is]) ∧ Below W.heap.size W w')) (h22 : Hid (∀ W, Below w.heap.size w W → Calls Tryz.prog 22 #[.string s] W fun e w' => e = .returned (.tuple #[.int .i64 n, .bool is]) ∧ Below W.heap.size W w')) (h23 : Hid (∀ W, Below w.heap.size w W → Calls Tryz.prog 17 #[.string x] W fun e w' => e = .returned (.tuple #[.string x, .int .i64 0]) ∧ Below W.heap.size W w')) (hw : Hid (∀ W, Below w.heap.size w W → Calls Tryz.prog 23 #[] W fun e w' => e = .returned (.bool true) ∧ Below W.heap.size W w')) : Calls Tryz.prog 3 #[.string s] w fun e w' => e = .returned (.bool true) ∧ Below w.heap.size w w' := by
  go_enter Tryz.func3, Tryz.ntmps3
  go_wp2_with fail
  refine (h17.out _ (Below.refl _ _)).mono ?_
  rintro e w1 ⟨rfl, hb⟩
  have B1 := Lib.hid (hb)
  clear hb
  go_wp2_with fail
  refine (h18.out _ B1.out).mono ?_
  rintro e w2 ⟨rfl, hb⟩
  have B2 := Lib.hid (Below.trans B1.out (hb.mono B1.out.size))
  clear hb
  go_wp2_with fail
  refine (h19.out _ B2.out).mono ?_
  rintro e w3 ⟨rfl, hb⟩
  have B3 := Lib.hid (Below.trans B2.out (hb.mono B2.out.size))
  clear hb
  go_wp2_with fail
  refine (h20.out _ B3.out).mono ?_
  rintro e w4 ⟨rfl, hb⟩
  have B4 := Lib.hid (Below.trans B3.out (hb.mono B3.out.size))
  clear hb
  go_wp2_with fail
  refine (h24.out _ B4.out).mono ?_
  rintro e w5 ⟨rfl, hb⟩
  have B5 := Lib.hid (Below.trans B4.out (hb.mono B4.out.size))
  clear hb
  go_wp2_with fail
  refine (h21.out _ B5.out).mono ?_
  rintro e w6 ⟨rfl, hb⟩
  have B6 := Lib.hid (Below.trans B5.out (hb.mono B5.out.size))
  clear hb
  go_wp2_with fail
  refine (h22.out _ B6.out).mono ?_
  rintro e w7 ⟨rfl, hb⟩
  have B7 := Lib.hid (Below.trans B6.out (hb.mono B6.out.size))
  clear hb
  go_wp2_with fail
  refine (h23.out _ B7.out).mono ?_
  rintro e w8 ⟨rfl, hb⟩
  have B8 := Lib.hid (Below.trans B7.out (hb.mono B7.out.size))
  clear hb
  go_wp2_with fail
  refine (hw.out _ B8.out).mono ?_
  rintro e w9 ⟨rfl, hb⟩
  have B9 := Lib.hid (Below.trans B8.out (hb.mono B8.out.size))
  clear hb
  go_wp2_with fail
  go_ret
  exact ⟨rfl, B9.out⟩
theorem numbers_any (s : ByteArray) (w : World) (h : Env w) : Calls Tryz.prog 3 #[.string s] w fun e w' => e = .returned (.bool true) ∧ Below w.heap.size w w' := by
  have h17 := fun (t : ByteArray) W (hW : Below w.heap.size w W) => qparse_any t W (h.below hW).tab
  have h18 := fun W (_ : Below w.heap.size w W) => rparse_any s W
  have h19 := fun (t : ByteArray) W (hW : Below w.heap.size w W) => valid_any t W (h.below hW).tab
  have h20 := Lib.hid fun W (_ : Below w.heap.size w W) => rvalid_any s W
  have h21 := Lib.hid fun W (hW : Below w.heap.size w W) => pint_any s W (h.below hW)
  have h22 := Lib.hid fun W (_ : Below w.heap.size w W) => rint_any s W
  have hw := Lib.hid (fun W (hW : Below w.heap.size w W) => awake_any W (h.below hW).tab)
  have h19s := h19 s
  rw [num_is] at h19s
  unfold PairPost at h17 h18
  have h17s := h17 s
  cases hp : parseT s.data.toList with
  | mk l e =>
    rw [hp] at h17s h18
    by_cases he : e = 0
    · subst he
      obtain ⟨q, hq⟩ := parseT_ok hp
      have h17x := h17 ⟨l.toArray⟩
      have ex : parseT (⟨l.toArray⟩ : ByteArray).data.toList = (l, 0) := parseT_same hq
      rw [ex] at h17x
      have h19x := h19 ⟨l.toArray⟩
      have ev : isNum (⟨l.toArray⟩ : ByteArray).data.toList = true := by rw [num_is]; show (num l).isSome = true; rw [hq]; rfl
      rw [ev] at h19x
      exact numbers_ok s ⟨l.toArray⟩ _ _ _ w (Lib.hid h17s) (Lib.hid h18) (Lib.hid h19s) h20 (Lib.hid h19x) h21 h22 (Lib.hid h17x) hw
    · exact numbers_bad s ⟨l.toArray⟩ e he _ _ _ _ _ w (Lib.hid h17s) (Lib.hid h18) (Lib.hid h19s) h20 h21 h22 (Lib.hid (h17 ⟨l.toArray⟩)) hw
end Go.Proofs.YtigicjakloiliaaGreatDoor
