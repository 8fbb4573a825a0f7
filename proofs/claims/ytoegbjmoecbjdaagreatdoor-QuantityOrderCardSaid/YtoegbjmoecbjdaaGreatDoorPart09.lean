/- Numbers as rational numbers, and their texts. The four operations and Compare on texts: the laws of a field and of an order. -/
import Derived.Test.YtoegbjmoecbjdaaGreatDoorPart08
set_option maxHeartbeats 1600000
set_option maxRecDepth 100000
namespace Go.Proofs.YtoegbjmoecbjdaaGreatDoor
open Go.RowKit Go.Lib Big
theorem dec_one_iff (y : Nat) : decDigits y = [49] ↔ y = 1 := by
  constructor
  · intro h
    have h1 := congrArg List.length h
    rw [decDigits_length] at h1
    have hy : y < 10 := by
      have := lt_pow_nDigits y
      rw [h1] at this; simpa using this
    rw [decDigits_one hy] at h
    match y, hy with
    | 0, _ => revert h; decide
    | 1, _ => rfl
    | 2, _ => revert h; decide
    | 3, _ => revert h; decide
    | 4, _ => revert h; decide
    | 5, _ => revert h; decide
    | 6, _ => revert h; decide
    | 7, _ => revert h; decide
    | 8, _ => revert h; decide
    | 9, _ => revert h; decide
  · rintro rfl
    rw [decDigits_one (by omega)]; rfl
theorem dec_size (y : Nat) : (⟨(decDigits y).toArray⟩ : ByteArray).size = nDigits y := by rw [size_toArray, decDigits_length]
theorem dec_list (y : Nat) : ((⟨(decDigits y).toArray⟩ : ByteArray).toList == [49]) = decide (y = 1) := by
  rw [Lib.toList_data]
  by_cases h : y = 1
  · rw [(dec_one_iff y).2 h]; subst h; decide
  · have h2 : decDigits y ≠ [49] := fun e => h ((dec_one_iff y).1 e)
    simp only [h, decide_false]
    rw [beq_eq_false_iff_ne]
    simpa using h2
theorem ratText_any (x : Value) (s : Bool) (a b K D : Nat) (w : World) (hK : K ≤ 1000000) (hD : D ≤ 100000) (ha : a < B64 ^ K) (hb : b < B64 ^ K) (hb0 : 0 < b) (hx : RatAt w x s a b) (htab : Tab w) : Calls Tryz.prog 117 #[x, .int .i64 D] w (TextPost (ratText s a b D) w) := by
  obtain ⟨u, v, rfl, hu, hv, hs⟩ := hx
  have hD' : (D : Int) ≤ 100000 := by omega
  have hL : (D : Int) / 19 + 1 = ((D / 19 + 1 : Nat) : Int) := by omega
  have hlow : ∀ W : World, Below w.heap.size w W → Calls Tryz.prog 157 #[u, v, .int .i64 ((D / 19 + 1 : Nat) : Int)] W (LowPost a b (D / 19 + 1) W) := fun W hW =>
    lowest_nat u v a b (D / 19 + 1) K W (by omega) (by omega) ha hb hb0 (hu.below hW) (hv.below hW)
  unfold ratText
  by_cases hfit : a / Nat.gcd a b < B64 ^ (D / 19 + 1) ∧ b / Nat.gcd a b < B64 ^ (D / 19 + 1)
  · have hok : ∀ W : World, Below w.heap.size w W → Hid (Calls Tryz.prog 157 #[u, v, .int .i64 ((D / 19 + 1 : Nat) : Int)] W (LowOk ⟨(decDigits (a / Nat.gcd a b)).toArray⟩ ⟨(decDigits (b / Nat.gcd a b)).toArray⟩ W)) := fun W hW => hiD ((hlow W hW).mono fun e w' h => by
      obtain ⟨hbl, h | h⟩ := h
      · obtain ⟨-, -, tv, uv, he, h1, h2⟩ := h
        refine ⟨hbl, tv, uv, he, fun W2 hW2 => ⟨hiD ?_, hiD ?_⟩⟩
        · exact text_any tv _ (D / 19 + 1) W2 (by omega) hfit.1 (h1.below hW2) (((htab.below hW).below hbl).below hW2)
        · exact text_any uv _ (D / 19 + 1) W2 (by omega) hfit.2 (h2.below hW2) (((htab.below hW).below hbl).below hW2)
      · exact absurd hfit h.1)
    generalize a / Nat.gcd a b = n at hok ⊢
    generalize b / Nat.gcd a b = d at hok ⊢
    by_cases h1 : D < nDigits n
    · rw [if_neg (by omega)]
      exact ratText_far1 s u v D w hD' _ hL _ _ hok (by rw [dec_size]; exact h1)
    · by_cases h2 : D < nDigits d
      · rw [if_neg (by omega)]
        exact ratText_far2 s u v D w hD' _ hL _ _ hok (by rw [dec_size]; exact h1) (by rw [dec_size]; exact h2)
      · rw [if_pos (by omega)]
        have k1 : ¬ D < (⟨(decDigits n).toArray⟩ : ByteArray).size := by rw [dec_size]; exact h1
        have k2 : ¬ D < (⟨(decDigits d).toArray⟩ : ByteArray).size := by rw [dec_size]; exact h2
        have z1 : ((⟨(decDigits n).toArray⟩ : ByteArray).size : Int) ≤ 100000 := by omega
        have z2 : ((⟨(decDigits d).toArray⟩ : ByteArray).size : Int) ≤ 100000 := by omega
        have hone := dec_list d
        by_cases hd1 : d = 1
        · rw [decide_eq_true hd1] at hone
          rw [if_pos hd1]
          cases s
          · exact (ratText_near_ft u v D w hD' _ hL _ _ hok k1 k2 z1 hone z2).mono fun e w' h => ⟨h.2, by rw [h.1]; simp⟩
          · exact (ratText_near_tt u v D w hD' _ hL _ _ hok k1 k2 z1 hone z2).mono fun e w' h => ⟨h.2, by rw [h.1]; simp; rfl⟩
        · rw [decide_eq_false hd1] at hone
          rw [if_neg hd1]
          cases s
          · exact (ratText_near_ff u v D w hD' _ hL _ _ hok k1 k2 z1 hone z2).mono fun e w' h => ⟨h.2, by rw [h.1]; simp; rfl⟩
          · exact (ratText_near_tf u v D w hD' _ hL _ _ hok k1 k2 z1 hone z2).mono fun e w' h => ⟨h.2, by rw [h.1]; simp; rfl⟩
  · have hbad : ¬ (nDigits (a / Nat.gcd a b) ≤ D ∧ nDigits (b / Nat.gcd a b) ≤ D) := by
      intro h
      apply hfit
      constructor
      · apply Decidable.byContradiction; intro h2; have := long_of_limbs h2; omega
      · apply Decidable.byContradiction; intro h2; have := long_of_limbs h2; omega
    rw [if_neg hbad]
    refine ratText_long s u v D w hD' _ hL fun W hW => hiD ((hlow W hW).mono fun e w' h => ?_)
    obtain ⟨hbl, h | h⟩ := h
    · exact absurd ⟨h.1, h.2.1⟩ hfit
    · exact ⟨h.2, hbl⟩
def numText (s : Bool) (a b : Nat) : List UInt8 := (ratText s a b 40).getD []
theorem qtext_any (x : Value) (s : Bool) (a b K : Nat) (w : World) (hK : K ≤ 1000000) (ha : a < B64 ^ K) (hb : b < B64 ^ K) (hb0 : 0 < b) (hx : RatAt w x s a b) (htab : Tab w) : Calls Tryz.prog 64 #[x] w fun e w' => e = .returned (.string ⟨(numText s a b).toArray⟩) ∧ Below w.heap.size w w' := by
  have ht : ∀ o, Hid (Calls Tryz.prog 117 #[x, .int .i64 40] (w.alloc o) fun e w' => Below (w.alloc o).heap.size (w.alloc o) w' ∧ ∃ f, e = .returned (.tuple #[.string ⟨(numText s a b).toArray⟩, .bool f])) := fun o => hiD (by
    have h := ratText_any x s a b K 40 (w.alloc o) hK (by omega) ha hb hb0 (hx.below (bea w o)) (htab.below (bea w o))
    refine h.mono fun e w' h => ⟨h.1, ?_⟩
    unfold numText
    cases hr : ratText s a b 40 with
    | none => have := h.2; rw [hr] at this; exact ⟨_, this⟩
    | some l => have := h.2; rw [hr] at this; exact ⟨_, this⟩)
  obtain ⟨u, v, rfl, -, -, -⟩ := hx
  clear ha hb htab
  go_enter Tryz.func64, Tryz.ntmps64
  go_wp2_with fail
  refine (ht _).out.mono ?_
  rintro e w2 ⟨hb2, f, rfl⟩
  have hbw := hiD ((bea w _).trans (hb2.mono (bea w (.cells #[.bool s, u, v] 66)).size))
  clear hb2
  go_wp2_with fail
  go_ret
  exact ⟨rfl, hbw.out⟩
theorem dval_B64 {l : List UInt8} (h : allDig l = true) (hl : l.length ≤ 90) : dval l < B64 ^ 20 := by
  have h1 := dval_lt l (allDig_all h)
  have h2 : 10 ^ l.length ≤ 10 ^ 90 := Nat.pow_le_pow_right (by omega) hl
  have h3 : (10 ^ 90 : Nat) ≤ B64 ^ 20 := by rw [B64_eq]; decide
  omega
theorem readAbs_lt {l : List UInt8} {n d : Nat} (h : readAbs l = some (n, d)) (hl : l.length ≤ 90) : n < B64 ^ 20 ∧ d < B64 ^ 20 ∧ 0 < d := by
  unfold readAbs at h
  obtain ⟨k1, k2, k3⟩ := cut_len l 46
  obtain ⟨m1, m2, m3⟩ := cut_len l 47
  have h3 : (10 ^ 90 : Nat) < B64 ^ 20 := by rw [B64_eq]; decide
  have h1 : 1 < B64 ^ 20 := by rw [B64_eq]; decide
  split at h
  · split at h
    · rename_i hd
      rw [Bool.and_eq_true] at hd
      simp only [Option.some.injEq, Prod.mk.injEq] at h
      obtain ⟨rfl, rfl⟩ := h
      have e1 : allDig ((Lib.cut l [46]).1 ++ (Lib.cut l [46]).2.1) = true := by
        unfold allDig
        rw [List.all_append, allDig_all hd.1, allDig_all hd.2]
        have := hd.1
        unfold allDig at this
        simp at this ⊢
        intro h; exact absurd h this.2
      refine ⟨dval_B64 e1 (by rw [List.length_append]; omega), ?_, Nat.pow_pos (by omega)⟩
      have : 10 ^ (Lib.cut l [46]).2.1.length ≤ 10 ^ 90 := Nat.pow_le_pow_right (by omega) (by omega)
      omega
    · cases h
  · split at h
    · split at h
      · rename_i hd
        rw [Bool.and_eq_true, Bool.and_eq_true] at hd
        simp only [Option.some.injEq, Prod.mk.injEq] at h
        obtain ⟨rfl, rfl⟩ := h
        refine ⟨dval_B64 hd.1.1 (by omega), dval_B64 hd.1.2 (by omega), ?_⟩
        have := hd.2
        simp at this; omega
      · cases h
    · split at h
      · rename_i hd
        simp only [Option.some.injEq, Prod.mk.injEq] at h
        obtain ⟨rfl, rfl⟩ := h
        exact ⟨dval_B64 hd hl, h1, by omega⟩
      · cases h
theorem readL_lt {l : List UInt8} {s : Bool} {n d : Nat} (h : readL l = some (s, n, d)) (hl : l.length ≤ 90) : n < B64 ^ 20 ∧ d < B64 ^ 20 ∧ 0 < d := by
  unfold readL at h
  rw [Option.map_eq_some_iff] at h
  obtain ⟨⟨n', d'⟩, h1, h2⟩ := h
  cases h2
  exact readAbs_lt h1 (Nat.le_trans (trim_len l) hl)
def readQ (l : List UInt8) : Option (Bool × Nat × Nat) :=
  if 82 < l.length then none else
  match readL l with
  | some (s, n, d) => if numText (s && !(n == 0)) n d = l then some (s && !(n == 0), n, d) else none
  | none => none
theorem qread_long (s : ByteArray) (w : World) (h : (82 : Int) < s.size) : Calls Tryz.prog 67 #[.string s] w (ReadPost none w) := by
  have hres := hiD (Res.start w)
  go_enter Tryz.func67, Tryz.ntmps67
  go_wp2_with fail
  refine bodyPost_ret (v := .tuple #[.agg #[.bool false, .slice none 0 0, .slice none 0 0], .bool false]) (by simp [results, Tryz.results67, go_sem]) rfl ?_
  exact ⟨hres.out.below, rfl⟩
theorem qread_none (s : ByteArray) (w : World) (h : (s.size : Int) ≤ 82) (hr : ∀ W, Hid (Calls Tryz.prog 63 #[.string s] W (ReadPost none W))) : Calls Tryz.prog 67 #[.string s] w (ReadPost none w) := by
  have hres := hiD (Res.start w)
  go_enter Tryz.func67, Tryz.ntmps67
  go_wp2_with fail
  refine (hr _).out.mono ?_
  rintro e w2 ⟨hb2, rfl⟩
  have hres2 := hiD ((hres.out.next hb2).next (bea w2 (.cells #[.bool false, .slice none 0 0, .slice none 0 0] 66)))
  obtain ⟨z0, z1, z2, l0, l1, l2, f0, f1, f2⟩ := hres2.out.slots
  have q3 := hiD (hres2.out.put3 (Nat.le_refl _) false none none 0 0 0 0).below
  clear hb2
  go_wp2_with fail
  refine bodyPost_ret (v := .tuple #[.agg #[.bool false, .slice none 0 0, .slice none 0 0], .bool false]) (by simp [results, Tryz.results67, go_sem, l0, l1, l2]) rfl ?_
  exact ⟨q3.out, rfl⟩
structure Boxed (w W : World) (g : Nat) (sg : Bool) (u v : Value) (n d : Nat) : Prop where
  res : Res w.heap.size w W
  box : W.heap[g]? = some (.cells #[.bool sg, u, v] 66 (0, 0))
  top : NatAt W u n
  bot : NatAt W v d
  gt : w.heap.size < g
  sign : sg = true → 0 < n
theorem Boxed.next {w W W' : World} {g : Nat} {sg : Bool} {u v : Value} {n d : Nat} (h : Boxed w W g sg u v n d) (hb : Below W.heap.size W W') : Boxed w W' g sg u v n d := by
  have hg : g < W.heap.size := by
    rcases Nat.lt_or_ge g W.heap.size with h1 | h1
    · exact h1
    · have := h.box; rw [Array.getElem?_eq_none h1] at this; cases this
  exact ⟨h.res.next hb, (hb.block g hg).trans h.box, h.top.below hb, h.bot.below hb, h.gt, h.sign⟩
theorem Boxed.start {w w2 : World} {sg : Bool} {u v : Value} {n d : Nat} (hr : Res w.heap.size w w2) (hx : RatAt w2 (.agg #[.bool sg, u, v]) sg n d) : Boxed w (w2.alloc (.cells #[.bool sg, u, v] 66)) w2.heap.size sg u v n d := by
  obtain ⟨u', v', he, h1, h2, h3⟩ := hx
  cases he
  exact ⟨hr.next (bea _ _), heap_new _ _, h1.below (bea _ _), h2.below (bea _ _), by have := hr.size; omega, h3⟩
theorem Boxed.cells {w W : World} {g : Nat} {sg : Bool} {u v : Value} {n d : Nat} (h : Boxed w W g sg u v n d) : W.cell? ⟨g, 0, none⟩ = some (.bool sg) ∧ W.cell? ⟨g, 1, none⟩ = some u ∧ W.cell? ⟨g, 2, none⟩ = some v := ⟨ceh h.box 0, ceh h.box 1, ceh h.box 2⟩
theorem qread_other (s y : ByteArray) (sg : Bool) (n d : Nat) (w : World) (h : (s.size : Int) ≤ 82) (hr : ∀ W, Hid (Calls Tryz.prog 63 #[.string s] W fun e w' => Below W.heap.size W w' ∧ ∃ x, e = .returned (.tuple #[x, .bool true]) ∧ RatAt w' x sg n d))
    (ht : ∀ W x, RatAt W x sg n d → Below w.heap.size w W → Hid (Calls Tryz.prog 64 #[x] W fun e w' => e = .returned (.string y) ∧ Below W.heap.size W w')) (hne : (y.toList == s.toList) = false) : Calls Tryz.prog 67 #[.string s] w (ReadPost none w) := by
  have hres := hiD (Res.start w)
  go_enter Tryz.func67, Tryz.ntmps67
  go_wp2_with fail
  refine (hr _).out.mono ?_
  rintro e w2 ⟨hb2, x, rfl, hx⟩
  obtain ⟨u, v, rfl, hu, hv, hs⟩ := hx
  obtain ⟨p2, n2, k2, rfl⟩ := hu.slice
  obtain ⟨p3, n3, k3, rfl⟩ := hv.slice
  have hB := hiD (Boxed.start (hres.out.next hb2) ⟨_, _, rfl, hu, hv, hs⟩)
  have ht2 := ht (w2.alloc (.cells #[.bool sg, .slice p2 n2 k2, .slice p3 n3 k3] 66)) (.agg #[.bool sg, .slice p2 n2 k2, .slice p3 n3 k3]) ⟨_, _, rfl, hB.out.top, hB.out.bot, hs⟩ hB.out.res.below
  clear hb2 hu hv hs
  go_wp2_with fail
  refine ht2.out.mono ?_
  rintro e w4 ⟨rfl, hb4⟩
  have hB4 := hiD (hB.out.next hb4)
  obtain ⟨z0, z1, z2, l0, l1, l2, f0, f1, f2⟩ := hB4.out.res.slots
  have q3 := hiD (hB4.out.res.put3 (Nat.le_refl _) false none none 0 0 0 0).below
  clear hb4 ht2
  go_wp2_with fail
  refine bodyPost_ret (v := .tuple #[.agg #[.bool false, .slice none 0 0, .slice none 0 0], .bool false]) (by simp [results, Tryz.results67, go_sem, l0, l1, l2]) rfl ?_
  exact ⟨q3.out, rfl⟩
theorem qread_same (s y : ByteArray) (sg : Bool) (n d : Nat) (w : World) (h : (s.size : Int) ≤ 82) (hr : ∀ W, Hid (Calls Tryz.prog 63 #[.string s] W fun e w' => Below W.heap.size W w' ∧ ∃ x, e = .returned (.tuple #[x, .bool true]) ∧ RatAt w' x sg n d))
    (ht : ∀ W x, RatAt W x sg n d → Below w.heap.size w W → Hid (Calls Tryz.prog 64 #[x] W fun e w' => e = .returned (.string y) ∧ Below W.heap.size W w')) (hne : (y.toList == s.toList) = true) : Calls Tryz.prog 67 #[.string s] w fun e w' => Below w.heap.size w w' ∧ ∃ x, e = .returned (.tuple #[x, .bool true]) ∧ RatAt w' x sg n d := by
  have hres := hiD (Res.start w)
  go_enter Tryz.func67, Tryz.ntmps67
  go_wp2_with fail
  refine (hr _).out.mono ?_
  rintro e w2 ⟨hb2, x, rfl, hx⟩
  obtain ⟨u, v, rfl, hu, hv, hs⟩ := hx
  obtain ⟨p2, n2, k2, rfl⟩ := hu.slice
  obtain ⟨p3, n3, k3, rfl⟩ := hv.slice
  have hB := hiD (Boxed.start (hres.out.next hb2) ⟨_, _, rfl, hu, hv, hs⟩)
  have ht2 := ht (w2.alloc (.cells #[.bool sg, .slice p2 n2 k2, .slice p3 n3 k3] 66)) (.agg #[.bool sg, .slice p2 n2 k2, .slice p3 n3 k3]) ⟨_, _, rfl, hB.out.top, hB.out.bot, hs⟩ hB.out.res.below
  clear hb2 hu hv
  have Hs := hiD hs
  clear hs
  go_wp2_with fail
  refine ht2.out.mono ?_
  rintro e w4 ⟨rfl, hb4⟩
  have hB4 := hiD (hB.out.next hb4)
  obtain ⟨z0, z1, z2, l0, l1, l2, f0, f1, f2⟩ := hB4.out.res.slots
  obtain ⟨c0, c1, c2⟩ := hB4.out.cells
  have hfin : Hid (∀ W, W = (((w4.setCell ⟨w.heap.size, 0, none⟩ (.bool sg)).setCell ⟨w.heap.size, 1, none⟩ (.slice p2 n2 k2)).setCell ⟨w.heap.size, 2, none⟩ (.slice p3 n3 k3)) → Below w.heap.size w W ∧ ∃ x, Ending.returned (.tuple #[.agg #[.bool sg, .slice p2 n2 k2, .slice p3 n3 k3], .bool true]) = .returned (.tuple #[x, .bool true]) ∧ RatAt W x sg n d) := hiD (by
    rintro W rfl
    exact ⟨(hB4.out.res.put3 (Nat.le_refl _) sg p2 p3 n2 k2 n3 k3).below, _, rfl, _, _, rfl, hB4.out.res.nat3 (Nat.le_refl _) hB4.out.top sg p2 p3 n2 k2 n3 k3, hB4.out.res.nat3 (Nat.le_refl _) hB4.out.bot sg p2 p3 n2 k2 n3 k3, Hs.out⟩)
  clear hb4 ht2
  go_wp2_with fail
  refine bodyPost_ret (v := .tuple #[.agg #[.bool sg, .slice p2 n2 k2, .slice p3 n3 k3], .bool true]) (by simp [results, Tryz.results67, go_sem, l0, l1, l2]) rfl ?_
  exact hfin.out _ rfl
theorem numText_eq (l : List UInt8) (s : ByteArray) : ((⟨l.toArray⟩ : ByteArray).toList == s.toList) = decide (l = s.data.toList) := by
  rw [Lib.toList_data, Lib.toList_data]
  by_cases h : l = s.data.toList
  · rw [decide_eq_true h, ← h]; simp
  · rw [decide_eq_false h, beq_eq_false_iff_ne]; simpa using h
def ReadQPost (o : Option (Bool × Nat × Nat)) (w : World) (e : Ending) (w' : World) : Prop :=
  Below w.heap.size w w' ∧ match o with
  | some (s, n, d) => ∃ x, e = .returned (.tuple #[x, .bool true]) ∧ RatAt w' x s n d
  | none => e = .returned (.tuple #[.agg #[.bool false, .slice none 0 0, .slice none 0 0], .bool false])
theorem qread_any (s : ByteArray) (w : World) (htab : Tab w) : Calls Tryz.prog 67 #[.string s] w (ReadQPost (readQ s.data.toList) w) := by
  have hl : s.data.toList.length = s.size := by simp
  unfold readQ
  by_cases h82 : 82 < s.size
  · rw [if_pos (by omega)]
    exact (qread_long s w (by omega)).mono fun _ _ h => h
  · rw [if_neg (by omega)]
    have h82' : (s.size : Int) ≤ 82 := by omega
    have hs : s.size ≤ 90000 := by omega
    have hread : ∀ W, Calls Tryz.prog 63 #[.string s] W (ReadPost (readL s.data.toList) W) := fun W => read_any s W hs
    cases hr : readL s.data.toList with
    | none =>
      rw [hr] at hread
      exact (qread_none s w h82' fun W => hiD (hread W)).mono fun _ _ h => h
    | some t =>
      obtain ⟨sg, n, d⟩ := t
      obtain ⟨b1, b2, b3⟩ := readL_lt hr (by omega)
      rw [hr] at hread
      have hrd : ∀ W, Hid (Calls Tryz.prog 63 #[.string s] W fun e w' => Below W.heap.size W w' ∧ ∃ x, e = .returned (.tuple #[x, .bool true]) ∧ RatAt w' x (sg && !(n == 0)) n d) := fun W => hiD (hread W)
      have htx : ∀ W x, RatAt W x (sg && !(n == 0)) n d → Below w.heap.size w W → Hid (Calls Tryz.prog 64 #[x] W fun e w' => e = .returned (.string ⟨(numText (sg && !(n == 0)) n d).toArray⟩) ∧ Below W.heap.size W w') := fun W x hx hb =>
        hiD (qtext_any x _ n d 20 W (by omega) b1 b2 b3 hx (htab.below hb))
      have he := numText_eq (numText (sg && !(n == 0)) n d) s
      by_cases hq : numText (sg && !(n == 0)) n d = s.data.toList
      · rw [decide_eq_true hq] at he
        simp only [hq, if_true]
        exact (qread_same s _ _ n d w h82' hrd htx he).mono fun _ _ h => h
      · rw [decide_eq_false hq] at he
        simp only [hq, if_false]
        exact (qread_other s _ _ n d w h82' hrd htx he).mono fun _ _ h => h
theorem onTexts_any (f : FuncId) (w : World) : Calls Tryz.prog 78 #[.func (.func f) #[] #[]] w fun e w' => e = .returned (.func (.func 126) #[] #[.pointer (some ⟨w.heap.size, 0, none⟩)]) ∧ w' = w.alloc (.cells #[.func (.func f) #[] #[]] 85) := by
  go_enter Tryz.func78, Tryz.ntmps78
  go_wp2_with fail
  go_ret
  exact ⟨rfl, rfl⟩
def ReadC (o : Option (Bool × Nat × Nat)) (w : World) (e : Ending) (w' : World) : Prop :=
  Below w.heap.size w w' ∧ ∃ b p n c q m d, e = .returned (.tuple #[.agg #[.bool b, .slice p n c, .slice q m d], .bool o.isSome]) ∧ ∀ s x y, o = some (s, x, y) → RatAt w' (.agg #[.bool b, .slice p n c, .slice q m d]) s x y
theorem qread_c (s : ByteArray) (w : World) (htab : Tab w) : Calls Tryz.prog 67 #[.string s] w (ReadC (readQ s.data.toList) w) := by
  refine (qread_any s w htab).mono fun e w' h => ⟨h.1, ?_⟩
  have h2 := h.2
  cases hq : readQ s.data.toList with
  | none => rw [hq] at h2; exact ⟨_, _, _, _, _, _, _, h2, fun _ _ _ h => by cases h⟩
  | some t =>
    rw [hq] at h2
    obtain ⟨x, rfl, u, v, rfl, hu, hv, hs⟩ := h2
    obtain ⟨p2, n2, k2, rfl⟩ := hu.slice
    obtain ⟨p3, n3, k3, rfl⟩ := hv.slice
    refine ⟨_, _, _, _, _, _, _, rfl, ?_⟩
    rintro _ _ _ h
    cases h
    exact ⟨_, _, rfl, hu, hv, hs⟩
theorem closure_bad1 (x y : ByteArray) (g : Addr) (w : World) (hx : Hid (Calls Tryz.prog 67 #[.string x] w (ReadC none w))) : Calls Tryz.prog 126 #[.string x, .string y, .pointer (some g)] w fun e w' => e = .returned (.string ⟨#[]⟩) ∧ Below w.heap.size w w' := by
  go_enter Tryz.func126, Tryz.ntmps126
  go_wp2_with fail
  refine hx.out.mono ?_
  rintro e w2 ⟨hb2, b, p, n, c, q, m, d, rfl, -⟩
  have hbw := hiD (hb2.trans ((bea w2 (.cells #[.bool b, .slice p n c, .slice q m d] 66)).mono hb2.size))
  clear hb2
  go_wp2_with fail
  go_ret
  exact ⟨rfl, hbw.out⟩
theorem closure_bad2 (x y : ByteArray) (g : Addr) (t : Bool × Nat × Nat) (w : World) (hx : Hid (Calls Tryz.prog 67 #[.string x] w (ReadC (some t) w))) (hy : ∀ W, Below w.heap.size w W → Hid (Calls Tryz.prog 67 #[.string y] W (ReadC none W))) : Calls Tryz.prog 126 #[.string x, .string y, .pointer (some g)] w fun e w' => e = .returned (.string ⟨#[]⟩) ∧ Below w.heap.size w w' := by
  go_enter Tryz.func126, Tryz.ntmps126
  go_wp2_with fail
  refine hx.out.mono ?_
  rintro e w2 ⟨hb2, b, p, n, c, q, m, d, rfl, -⟩
  have hbw := hiD (hb2.trans ((bea w2 (.cells #[.bool b, .slice p n c, .slice q m d] 66)).mono hb2.size))
  have hy2 := hy _ hbw.out
  clear hb2 hy
  go_wp2_with fail
  refine hy2.out.mono ?_
  rintro e w3 ⟨hb3, b', p', n', c', q', m', d', rfl, -⟩
  have hbw3 := hiD (hbw.out.trans (hb3.mono hbw.out.size))
  have hbw4 := hiD (hbw3.out.trans ((bea w3 (.cells #[.bool b', .slice p' n' c', .slice q' m' d'] 66)).mono hbw3.out.size))
  clear hb3
  go_wp2_with fail
  go_ret
  exact ⟨rfl, hbw4.out⟩
end Go.Proofs.YtoegbjmoecbjdaaGreatDoor
namespace Go.Proofs.YtoegbjmoecbjdaaGreatDoor
open Go.Lib Big
theorem readAbs_pos {l : List UInt8} {n d : Nat} (h : readAbs l = some (n, d)) : 0 < d := by
  unfold readAbs at h
  split at h
  · split at h
    · simp only [Option.some.injEq, Prod.mk.injEq] at h
      obtain ⟨-, rfl⟩ := h
      exact Nat.pow_pos (by omega)
    · cases h
  · split at h
    · split at h
      · rename_i hd
        rw [Bool.and_eq_true, Bool.and_eq_true] at hd
        simp only [Option.some.injEq, Prod.mk.injEq] at h
        obtain ⟨-, rfl⟩ := h
        have := hd.2
        simp at this; omega
      · cases h
    · split at h
      · simp only [Option.some.injEq, Prod.mk.injEq] at h
        obtain ⟨-, rfl⟩ := h
        omega
      · cases h
theorem ratv_num {s : Bool} {a b : Nat} (hb : 0 < b) (hs : s = true → 0 < a) : decide ((ratv s a b).num < 0) = s ∧ (ratv s a b).num.natAbs = a / Nat.gcd a b ∧ (ratv s a b).den = b / Nat.gcd a b := by
  have hg : 0 < Nat.gcd a b := Nat.gcd_pos_of_pos_right _ hb
  have e : ratv s a b = mkRat (if s then -(a : Int) else a) b := by
    rw [Rat.mkRat_eq_div]
    unfold ratv
    cases s <;> simp <;> rfl
  have hn : (mkRat (if s then -(a : Int) else a) b).num = (if s then -(a : Int) else a) / (Nat.gcd a b : Nat) := by
    rw [Rat.num_mkRat, Nat.gcd_comm]
    cases s <;> simp [Nat.ne_of_gt hb]
  have hd : (mkRat (if s then -(a : Int) else a) b).den = b / Nat.gcd a b := by
    rw [Rat.den_mkRat, Nat.gcd_comm]
    cases s <;> simp [Nat.ne_of_gt hb]
  rw [e, hn, hd]
  refine ⟨?_, ?_, rfl⟩
  · cases s
    · simp only [Bool.false_eq_true, if_false]
      rw [decide_eq_false]
      have : (0 : Int) ≤ (a : Int) / (Nat.gcd a b : Nat) := Int.ediv_nonneg (by omega) (by omega)
      omega
    · simp only [if_true]
      rw [decide_eq_true]
      exact Int.ediv_neg_of_neg_of_pos (by have := hs rfl; omega) (by omega)
  · cases s
    · simp only [Bool.false_eq_true, if_false]
      norm_cast
    · simp only [if_true]
      rw [Int.neg_ediv_of_dvd (by exact_mod_cast Nat.gcd_dvd_left a b), Int.natAbs_neg]
      norm_cast
def txt (q : Rat) : List UInt8 := numText (decide (q.num < 0)) q.num.natAbs q.den
theorem numText_txt {s : Bool} {a b : Nat} (hb : 0 < b) (hs : s = true → 0 < a) : numText s a b = txt (ratv s a b) := by
  obtain ⟨h1, h2, h3⟩ := ratv_num hb hs
  unfold txt
  rw [h1, h2, h3]
  have hg : 0 < Nat.gcd a b := Nat.gcd_pos_of_pos_right _ hb
  have hc : Nat.gcd (a / Nat.gcd a b) (b / Nat.gcd a b) = 1 := Nat.gcd_div_gcd_div_gcd_of_pos_right hb
  unfold numText ratText
  rw [hc, Nat.div_one, Nat.div_one]
theorem ratv_self (q : Rat) : ratv (decide (q.num < 0)) q.num.natAbs q.den = q := by
  have h : (if decide (q.num < 0) = true then -((q.num.natAbs : Nat) : Rat) else ((q.num.natAbs : Nat) : Rat)) = (q.num : Rat) := by
    by_cases h : q.num < 0
    · simp only [h, decide_true, if_true]
      have : ((q.num.natAbs : Nat) : Int) = - q.num := by omega
      have h2 : (((q.num.natAbs : Nat) : Int) : Rat) = ((- q.num : Int) : Rat) := by rw [this]
      rw [Rat.intCast_natCast, Rat.intCast_neg] at h2
      rw [h2, Rat.neg_neg]
    · simp only [h, decide_false, Bool.false_eq_true, if_false]
      have : ((q.num.natAbs : Nat) : Int) = q.num := by omega
      have h2 : (((q.num.natAbs : Nat) : Int) : Rat) = ((q.num : Int) : Rat) := by rw [this]
      rw [Rat.intCast_natCast] at h2
      exact h2
  unfold ratv
  rw [h]
  have h2 : q = mkRat q.num q.den := (Rat.mkRat_self q).symm
  rw [Rat.mkRat_eq_div] at h2
  exact h2.symm
def num (l : List UInt8) : Option Rat := (readQ l).map fun t => ratv t.1 t.2.1 t.2.2
theorem readQ_spec {l : List UInt8} {s : Bool} {n d : Nat} (h : readQ l = some (s, n, d)) : 0 < d ∧ (s = true → 0 < n) ∧ numText s n d = l := by
  unfold readQ at h
  split at h
  · cases h
  · split at h
    · rename_i s0 n0 d0 hr
      split at h
      · rename_i ht
        cases h
        refine ⟨?_, by intro h; simp at h; omega, ht⟩
        unfold readL at hr
        rw [Option.map_eq_some_iff] at hr
        obtain ⟨⟨a, b⟩, h1, h2⟩ := hr
        cases h2
        exact readAbs_pos h1
      · cases h
    · cases h
theorem txt_num {l : List UInt8} {q : Rat} (h : num l = some q) : txt q = l := by
  unfold num at h
  rw [Option.map_eq_some_iff] at h
  obtain ⟨⟨s, n, d⟩, h1, rfl⟩ := h
  obtain ⟨h2, h3, h4⟩ := readQ_spec h1
  rw [← numText_txt h2 h3]; exact h4
theorem num_inj {l m : List UInt8} {q : Rat} (h : num l = some q) (h2 : num m = some q) : l = m := by
  rw [← txt_num h, txt_num h2]
theorem dec_big {u : Nat} (h : ¬ u < 10) : decDigits u = decDigits (u / 10) ++ [UInt8.ofNat (48 + u % 10)] := by rw [decDigits, dif_neg h]
theorem dig_isDig {k : Nat} (h : k < 10) : isDig (UInt8.ofNat (48 + k)) = true ∧ (UInt8.ofNat (48 + k)).toNat - 48 = k := by
  have : (UInt8.ofNat (48 + k)).toNat = 48 + k := by
    rw [UInt8.toNat_ofNat']; omega
  unfold isDig
  rw [this]
  simp; omega
theorem dec_all (u : Nat) : (decDigits u).all isDig = true ∧ dval (decDigits u) = u := by
  induction u using Nat.strongRecOn with
  | _ u ih =>
    by_cases h : u < 10
    · rw [decDigits_one h]
      obtain ⟨h1, h2⟩ := dig_isDig h
      refine ⟨by rw [List.all_cons, h1]; rfl, ?_⟩
      show 0 * 10 + ((UInt8.ofNat (48 + u)).toNat - 48) = u
      rw [h2]; omega
    · rw [dec_big h]
      obtain ⟨h1, h2⟩ := dig_isDig (k := u % 10) (by omega)
      obtain ⟨h3, h4⟩ := ih (u / 10) (by omega)
      refine ⟨by rw [List.all_append, h3, List.all_cons, h1]; rfl, ?_⟩
      rw [dval_append, h4]
      show u / 10 * 10 ^ 1 + (0 * 10 + ((UInt8.ofNat (48 + u % 10)).toNat - 48)) = u
      rw [h2]; omega
theorem dec_ne (u : Nat) : decDigits u ≠ [] := by
  intro h
  have h1 := decDigits_length u
  rw [h] at h1
  have := nDigits_pos u
  simp at h1; omega
theorem dec_allDig (u : Nat) : allDig (decDigits u) = true := by
  unfold allDig
  rw [(dec_all u).1]
  simp [dec_ne u]
theorem isDig_ne {l : List UInt8} {c : UInt8} (h : l.all isDig = true) (hc : isDig c = false) : c ∉ l := by
  intro hm
  rw [List.all_eq_true] at h
  rw [h c hm] at hc; cases hc
theorem index_one_none {l : List UInt8} {c : UInt8} (h : c ∉ l) : Lib.index l [c] = -1 := by
  apply Lib.index_none
  intro j _
  unfold Lib.occAt
  cases hd : l.drop j with
  | nil => rfl
  | cons b t =>
    have hb : b ∈ l := List.mem_of_mem_drop (by rw [hd]; simp)
    have : (c == b) = false := by rw [beq_eq_false_iff_ne]; rintro rfl; exact h hb
    simp [List.isPrefixOf, this]
theorem cut_none {l : List UInt8} {c : UInt8} (h : c ∉ l) : Lib.cut l [c] = (l, [], false) := by
  unfold Lib.cut
  rw [index_one_none h, if_neg (by decide)]
theorem cut_at {a b : List UInt8} {c : UInt8} (h : c ∉ a) : Lib.cut (a ++ c :: b) [c] = (a, b, true) := by
  have hi : Lib.index (a ++ c :: b) [c] = a.length := by
    apply Lib.index_first
    · simp
    · unfold Lib.occAt; rw [List.drop_left]; simp [List.isPrefixOf]
    · intro j hj
      unfold Lib.occAt
      rw [List.drop_append_of_le_length (by omega)]
      cases hd : a.drop j with
      | nil => have := congrArg List.length hd; simp at this; omega
      | cons x t =>
        have hb : x ∈ a := List.mem_of_mem_drop (by rw [hd]; simp)
        have : (c == x) = false := by rw [beq_eq_false_iff_ne]; rintro rfl; exact h hb
        simp [List.isPrefixOf, this]
  unfold Lib.cut
  rw [hi, if_pos (by omega)]
  simp
def wrote (s : Bool) (n d : Nat) : List UInt8 := (if s then [45] else []) ++ decDigits n ++ (if d = 1 then [] else 47 :: decDigits d)
theorem dec_head (u : Nat) (x : List UInt8) : Lib.hasPrefix (decDigits u ++ x) [45] = false := by
  cases h : decDigits u with
  | nil => exact absurd h (dec_ne u)
  | cons b t =>
    have hb : isDig b = true := by
      have := (dec_all u).1
      rw [h, List.all_cons, Bool.and_eq_true] at this
      exact this.1
    have : ((45 : UInt8) == b) = false := by rw [beq_eq_false_iff_ne]; rintro rfl; revert hb; decide
    simp [Lib.hasPrefix, List.isPrefixOf, this]
theorem readAbs_wrote {n d : Nat} (hd : 0 < d) : readAbs (decDigits n ++ (if d = 1 then [] else 47 :: decDigits d)) = some (n, d) := by
  have k1 : isDig 46 = false := by decide
  have k2 : isDig 47 = false := by decide
  have a1 := isDig_ne (dec_all n).1 k1
  have a2 := isDig_ne (dec_all n).1 k2
  have b1 := isDig_ne (dec_all d).1 k1
  unfold readAbs
  by_cases h : d = 1
  · rw [if_pos h, List.append_nil, cut_none a1, cut_none a2]
    simp only [Bool.false_eq_true, if_false]
    rw [if_pos (dec_allDig n), (dec_all n).2, h]
  · rw [if_neg h, cut_none (by simp [a1, b1]), cut_at a2]
    simp only [Bool.false_eq_true, if_false, if_true]
    rw [dec_allDig n, dec_allDig d, (dec_all n).2, (dec_all d).2]
    have : (d == 0) = false := by rw [beq_eq_false_iff_ne]; omega
    simp [this]
theorem readL_wrote {s : Bool} {n d : Nat} (hd : 0 < d) : readL (wrote s n d) = some (s, n, d) := by
  unfold readL wrote
  cases s
  · simp only [Bool.false_eq_true, if_false, List.nil_append]
    rw [dec_head]
    unfold Lib.trimPrefix
    rw [dec_head]
    simp only [Bool.false_eq_true, if_false]
    rw [readAbs_wrote hd]; rfl
  · simp only [if_true]
    have h : Lib.hasPrefix ([45] ++ decDigits n ++ (if d = 1 then [] else 47 :: decDigits d)) [45] = true := by simp [Lib.hasPrefix, List.isPrefixOf]
    unfold Lib.trimPrefix
    rw [h]
    simp only [if_true]
    have : ([45] ++ decDigits n ++ (if d = 1 then [] else 47 :: decDigits d)).drop [(45 : UInt8)].length = decDigits n ++ (if d = 1 then [] else 47 :: decDigits d) := by simp
    rw [this, readAbs_wrote hd]; rfl
def short (q : Rat) : Prop := nDigits q.num.natAbs ≤ 40 ∧ nDigits q.den ≤ 40
theorem txt_eq (q : Rat) : txt q = if nDigits q.num.natAbs ≤ 40 ∧ nDigits q.den ≤ 40 then wrote (decide (q.num < 0)) q.num.natAbs q.den else [] := by
  unfold txt numText ratText
  have hc : Nat.gcd q.num.natAbs q.den = 1 := q.reduced
  rw [hc, Nat.div_one, Nat.div_one]
  split <;> rfl
theorem wrote_len (s : Bool) (n d : Nat) : (wrote s n d).length ≤ 2 + nDigits n + nDigits d := by
  unfold wrote
  rw [List.length_append, List.length_append, decDigits_length]
  split <;> split <;> simp [decDigits_length] <;> omega
theorem wrote_ne (s : Bool) (n d : Nat) : wrote s n d ≠ [] := by
  unfold wrote
  simp [dec_ne]
theorem txt_ne {q : Rat} : txt q ≠ [] ↔ short q := by
  rw [txt_eq]
  unfold short
  split
  · simp [wrote_ne, *]
  · simp [*]
theorem num_txt {q : Rat} (h : txt q ≠ []) : num (txt q) = some q := by
  have hs := txt_ne.1 h
  have e := txt_eq q
  unfold short at hs
  rw [if_pos hs] at e
  have hself := ratv_self q
  have hr : readQ (txt q) = some (decide (q.num < 0), q.num.natAbs, q.den) := by
    unfold readQ
    rw [e]
    have hl := wrote_len (decide (q.num < 0)) q.num.natAbs q.den
    rw [if_neg (by omega), readL_wrote q.den_pos]
    have hsg : (decide (q.num < 0) && !(q.num.natAbs == 0)) = decide (q.num < 0) := by
      by_cases h : q.num < 0
      · have : (q.num.natAbs == 0) = false := by rw [beq_eq_false_iff_ne]; omega
        simp [h, this]
      · simp [h]
    simp only [hsg]
    rw [if_pos]
    exact e
  unfold num
  rw [hr, Option.map_some]
  simp only [hself]
theorem num_nil : num [] = none := by decide
def opT (f : Rat → Rat → Rat) (x y : List UInt8) : List UInt8 :=
  match num x, num y with
  | some a, some b => txt (f a b)
  | _, _ => []
theorem opT_some {f : Rat → Rat → Rat} {x y : List UInt8} {a b : Rat} (hx : num x = some a) (hy : num y = some b) : opT f x y = txt (f a b) := by
  unfold opT; rw [hx, hy]
theorem opT_none1 {f : Rat → Rat → Rat} {x y : List UInt8} (hx : num x = none) : opT f x y = [] := by unfold opT; rw [hx]
theorem opT_none2 {f : Rat → Rat → Rat} {x y : List UInt8} (hy : num y = none) : opT f x y = [] := by unfold opT; rw [hy]; cases num x <;> rfl
theorem opT_ne {f : Rat → Rat → Rat} {x y : List UInt8} (h : opT f x y ≠ []) : ∃ a b, num x = some a ∧ num y = some b ∧ num (opT f x y) = some (f a b) := by
  cases hx : num x with
  | none => exact absurd (opT_none1 hx) h
  | some a =>
    cases hy : num y with
    | none => exact absurd (opT_none2 hy) h
    | some b =>
      refine ⟨a, b, rfl, rfl, ?_⟩
      rw [opT_some hx hy] at h ⊢
      exact num_txt h
def eqT (x y : List UInt8) : Bool := x == [] || (y == [] || x == y)
theorem num_zero : num [48] = some 0 := by
  have h : txt 0 = [48] := by
    rw [txt_eq]
    have : nDigits (0 : Rat).num.natAbs = 1 := nDigits_small (by decide)
    have h2 : nDigits (0 : Rat).den = 1 := nDigits_small (by decide)
    rw [if_pos (by omega)]
    unfold wrote
    rw [show decDigits (0 : Rat).num.natAbs = [48] from decDigits_one (by decide)]
    rfl
  have := num_txt (q := 0) (by rw [h]; decide)
  rwa [h] at this
theorem num_zero_iff {y : List UInt8} : num y = some 0 ↔ y = [48] :=
  ⟨fun h => num_inj h num_zero, fun h => h ▸ num_zero⟩
def sgnR (q : Rat) : Int := if q < 0 then -1 else if q = 0 then 0 else 1
def cmpT (x y : List UInt8) : Int × Bool :=
  match num x, num y with
  | some a, some b => (sgnR (a - b), true)
  | _, _ => (0, false)
theorem cmpT_some {x y : List UInt8} {a b : Rat} (hx : num x = some a) (hy : num y = some b) : cmpT x y = (sgnR (a - b), true) := by unfold cmpT; rw [hx, hy]
theorem cmpT_true {x y : List UInt8} (h : (cmpT x y).2 = true) : ∃ a b, num x = some a ∧ num y = some b ∧ cmpT x y = (sgnR (a - b), true) := by
  unfold cmpT at h ⊢
  cases hx : num x with
  | none => rw [hx] at h; cases h
  | some a =>
    cases hy : num y with
    | none => rw [hx, hy] at h; cases h
    | some b => exact ⟨a, b, rfl, rfl, rfl⟩
theorem sgnR_cases (q : Rat) : (q < 0 ∧ sgnR q = -1) ∨ (q = 0 ∧ sgnR q = 0) ∨ (0 < q ∧ sgnR q = 1) := by
  unfold sgnR
  by_cases h : q < 0
  · exact .inl ⟨h, by rw [if_pos h]⟩
  · by_cases h2 : q = 0
    · exact .inr (.inl ⟨h2, by rw [if_neg h, if_pos h2]⟩)
    · exact .inr (.inr ⟨by grind, by rw [if_neg h, if_neg h2]⟩)
theorem order_ok {x y z : List UInt8} (h1 : (cmpT x y).2 = true) (h2 : (cmpT y z).2 = true) (_h3 : (cmpT x z).2 = true) :
    (cmpT y x).1 = -(cmpT x y).1 ∧ (((cmpT x y).1 = 0) ↔ x = y) ∧ ¬((cmpT x y).1 ≤ 0 ∧ (cmpT y z).1 ≤ 0 ∧ 0 < (cmpT x z).1) ∧ ¬((cmpT x y).1 < 0 ∧ (cmpT y z).1 < 0 ∧ 0 ≤ (cmpT x z).1) ∧
    ((cmpT (opT (· - ·) x y) [48]).2 = true → (cmpT (opT (· - ·) x y) [48]).1 = (cmpT x y).1) ∧ ((cmpT (opT (· + ·) x z) (opT (· + ·) y z)).2 = true → (cmpT (opT (· + ·) x z) (opT (· + ·) y z)).1 = (cmpT x y).1) := by
  obtain ⟨a, b, hx, hy, e1⟩ := cmpT_true h1
  obtain ⟨_, c, hy', hz, e2⟩ := cmpT_true h2
  rw [hy] at hy'; cases hy'
  have e3 := cmpT_some hx hz
  have e4 := cmpT_some hy hx
  rw [e1, e2, e3, e4]
  have c1 := sgnR_cases (a - b)
  have c2 := sgnR_cases (b - c)
  have c3 := sgnR_cases (a - c)
  have c4 := sgnR_cases (b - a)
  refine ⟨?_, ?_, ?_, ?_, ?_, ?_⟩
  · show sgnR (b - a) = - sgnR (a - b)
    rcases c1 with ⟨p1, q1⟩ | ⟨p1, q1⟩ | ⟨p1, q1⟩ <;> rcases c4 with ⟨p4, q4⟩ | ⟨p4, q4⟩ | ⟨p4, q4⟩ <;> rw [q1, q4] <;> first | rfl | (exfalso; grind)
  · constructor
    · intro h
      have : a - b = 0 := by
        have h' : sgnR (a - b) = 0 := h
        rcases c1 with ⟨p1, q1⟩ | ⟨p1, q1⟩ | ⟨p1, q1⟩
        · rw [q1] at h'; cases h'
        · exact p1
        · rw [q1] at h'; cases h'
      have : a = b := by grind
      subst this
      exact num_inj hx hy
    · rintro rfl
      rw [hx] at hy; cases hy
      show sgnR (a - a) = 0
      rw [Rat.sub_self]; rfl
  · rintro ⟨k1, k2, k3⟩
    have k1' : sgnR (a - b) ≤ 0 := k1
    have k2' : sgnR (b - c) ≤ 0 := k2
    have k3' : 0 < sgnR (a - c) := k3
    rcases c1 with ⟨p1, q1⟩ | ⟨p1, q1⟩ | ⟨p1, q1⟩ <;> rcases c2 with ⟨p2, q2⟩ | ⟨p2, q2⟩ | ⟨p2, q2⟩ <;> rcases c3 with ⟨p3, q3⟩ | ⟨p3, q3⟩ | ⟨p3, q3⟩ <;> rw [q1] at k1' <;> rw [q2] at k2' <;> rw [q3] at k3' <;> first | omega | grind
  · rintro ⟨k1, k2, k3⟩
    have k1' : sgnR (a - b) < 0 := k1
    have k2' : sgnR (b - c) < 0 := k2
    have k3' : 0 ≤ sgnR (a - c) := k3
    rcases c1 with ⟨p1, q1⟩ | ⟨p1, q1⟩ | ⟨p1, q1⟩ <;> rcases c2 with ⟨p2, q2⟩ | ⟨p2, q2⟩ | ⟨p2, q2⟩ <;> rcases c3 with ⟨p3, q3⟩ | ⟨p3, q3⟩ | ⟨p3, q3⟩ <;> rw [q1] at k1' <;> rw [q2] at k2' <;> rw [q3] at k3' <;> first | omega | grind
  · intro h
    obtain ⟨u, v, hu, hv, e5⟩ := cmpT_true h
    rw [num_zero] at hv; cases hv
    have hne : opT (· - ·) x y ≠ [] := by intro h0; rw [h0, num_nil] at hu; cases hu
    obtain ⟨a', b', f1, f2, f3⟩ := opT_ne hne
    rw [hx] at f1; cases f1
    rw [hy] at f2; cases f2
    rw [hu] at f3; cases f3
    rw [e5]
    show sgnR (a - b - 0) = sgnR (a - b)
    have : a - b - 0 = a - b := by grind
    rw [this]
  · intro h
    obtain ⟨u, v, hu, hv, e5⟩ := cmpT_true h
    have n1 : opT (· + ·) x z ≠ [] := by intro h0; rw [h0, num_nil] at hu; cases hu
    have n2 : opT (· + ·) y z ≠ [] := by intro h0; rw [h0, num_nil] at hv; cases hv
    obtain ⟨a', c', f1, f2, f3⟩ := opT_ne n1
    obtain ⟨b', c2', g1, g2, g3⟩ := opT_ne n2
    rw [hx] at f1; cases f1
    rw [hz] at f2 g2; cases f2; cases g2
    rw [hy] at g1; cases g1
    rw [hu] at f3; cases f3
    rw [hv] at g3; cases g3
    rw [e5]
    show sgnR (a + c - (b + c)) = sgnR (a - b)
    have : a + c - (b + c) = a - b := by grind
    rw [this]
theorem txt_third {d : Nat} (h2 : 2 ≤ d) (h9 : d < 10) : txt ((1 : Rat) / (d : Rat)) = [49, 47, UInt8.ofNat (48 + d)] := by
  have e : (1 : Rat) / (d : Rat) = mkRat 1 d := by rw [Rat.mkRat_eq_div]; rfl
  have hn : ((1 : Rat) / (d : Rat)).num = 1 := by rw [e, Rat.num_mkRat, if_neg (by omega)]; simp
  have hd : ((1 : Rat) / (d : Rat)).den = d := by rw [e, Rat.den_mkRat, if_neg (by omega)]; simp
  rw [txt_eq, hn, hd]
  have h3 : nDigits (1 : Int).natAbs = 1 := nDigits_small (by decide)
  have h4 : nDigits d = 1 := nDigits_small h9
  rw [if_pos (by omega)]
  unfold wrote
  rw [show decDigits (1 : Int).natAbs = [49] from decDigits_one (by decide), decDigits_one h9]
  have : ¬ d = 1 := by omega
  rw [if_neg this]; rfl
theorem num_third {d : Nat} (h2 : 2 ≤ d) (h9 : d < 10) : num [49, 47, UInt8.ofNat (48 + d)] = some ((1 : Rat) / (d : Rat)) := by
  have h := txt_third h2 h9
  rw [← h]
  exact num_txt (by rw [h]; simp)
theorem awake_sum : opT (· + ·) [49, 47, 51] [49, 47, 54] = [49, 47, 50] := by
  have h3 : num [49, 47, 51] = some ((1 : Rat) / ((3 : Nat) : Rat)) := num_third (d := 3) (by omega) (by omega)
  have h6 : num [49, 47, 54] = some ((1 : Rat) / ((6 : Nat) : Rat)) := num_third (d := 6) (by omega) (by omega)
  have h2 := txt_third (d := 2) (by omega) (by omega)
  rw [opT_some h3 h6]
  have e : (1 : Rat) / ((3 : Nat) : Rat) + (1 : Rat) / ((6 : Nat) : Rat) = (1 : Rat) / ((2 : Nat) : Rat) := by
    simp; grind
  rw [e]; exact h2
end Go.Proofs.YtoegbjmoecbjdaaGreatDoor
