/- Numbers as rational numbers, and their texts. The four operations and Compare on texts: the laws of a field and of an order. -/
import Derived.Test.YtigidchicloleaaGreatDoorQA
import Derived.Test.YtigidchicloleaaGreatDoorY05
import Derived.Test.YtigidchicloleaaGreatDoorY06
import Derived.Outline
set_option maxHeartbeats 1600000
set_option maxRecDepth 100000
namespace Go.Proofs.YtigidchicloleaaGreatDoor
open Go.RowKit Go.Lib Big
theorem onTexts_any (f : FuncId) (w : World) : Calls Tryz.prog 118 #[.func (.func f) #[] #[]] w fun e w' => e = .returned (.func (.func 139) #[] #[.pointer (some ⟨w.heap.size, 0, none⟩)]) ∧ w' = w.alloc (.cells #[.func (.func f) #[] #[]] 116) := by
  go_enter Tryz.func118, Tryz.ntmps118
  go_wp2_with fail
  go_ret
  exact ⟨rfl, rfl⟩
def ReadC (o : Option (Bool × Nat × Nat)) (w : World) (e : Ending) (w' : World) : Prop :=
  Below w.heap.size w w' ∧ ∃ b p n c q m d, e = .returned (.tuple #[.agg #[.bool b, .slice p n c, .slice q m d], .bool o.isSome]) ∧ ∀ s x y, o = some (s, x, y) → RatAt w' (.agg #[.bool b, .slice p n c, .slice q m d]) s x y
theorem qread_c (s : ByteArray) (w : World) (htab : Tab w) : Calls Tryz.prog 135 #[.string s] w (ReadC (readQ s.data.toList) w) := by
  refine (qread_any s w htab).mono fun e w' h => ⟨h.1, ?_⟩
  have h2 := h.2
  cases hq : readQ s.data.toList with
  | none => rw [hq] at h2; exact ⟨_, _, _, _, _, _, _, h2, fun _ _ _ h => by cases h⟩
  | some t =>
    rw [hq] at h2
    obtain ⟨x, rfl, u, v, rfl, hu, hv, hs⟩ := h2
    obtain ⟨p2, n2, k2, rfl⟩ := hu.slice
    obtain ⟨p3, n3, k3, rfl⟩ := hv.slice
    refine ⟨_, _, _, _, _, _, _, rfl, ?_⟩
    rintro _ _ _ h
    cases h
    exact ⟨_, _, rfl, hu, hv, hs⟩
theorem closure_bad1 (x y : ByteArray) (g : Addr) (w : World) (hx : Hid (Calls Tryz.prog 135 #[.string x] w (ReadC none w))) : Calls Tryz.prog 139 #[.string x, .string y, .pointer (some g)] w fun e w' => e = .returned (.string ⟨#[]⟩) ∧ Below w.heap.size w w' := by
  go_enter Tryz.func139, Tryz.ntmps139
  go_wp2_with fail
  refine hx.out.mono ?_
  rintro e w2 ⟨hb2, b, p, n, c, q, m, d, rfl, -⟩
  have hbw := hiD (hb2.trans ((bea w2 (.cells #[.bool b, .slice p n c, .slice q m d] 120)).mono hb2.size))
  clear hb2
  go_wp2_with fail
  go_ret
  exact ⟨rfl, hbw.out⟩
theorem closure_bad2 (x y : ByteArray) (g : Addr) (t : Bool × Nat × Nat) (w : World) (hx : Hid (Calls Tryz.prog 135 #[.string x] w (ReadC (some t) w))) (hy : ∀ W, Below w.heap.size w W → Hid (Calls Tryz.prog 135 #[.string y] W (ReadC none W))) : Calls Tryz.prog 139 #[.string x, .string y, .pointer (some g)] w fun e w' => e = .returned (.string ⟨#[]⟩) ∧ Below w.heap.size w w' := by
  go_enter Tryz.func139, Tryz.ntmps139
  go_wp2_with fail
  refine hx.out.mono ?_
  rintro e w2 ⟨hb2, b, p, n, c, q, m, d, rfl, -⟩
  have hbw := hiD (hb2.trans ((bea w2 (.cells #[.bool b, .slice p n c, .slice q m d] 120)).mono hb2.size))
  have hy2 := hy _ hbw.out
  clear hb2 hy
  go_wp2_with fail
  refine hy2.out.mono ?_
  rintro e w3 ⟨hb3, b', p', n', c', q', m', d', rfl, -⟩
  have hbw3 := hiD (hbw.out.trans (hb3.mono hbw.out.size))
  have hbw4 := hiD (hbw3.out.trans ((bea w3 (.cells #[.bool b', .slice p' n' c', .slice q' m' d'] 120)).mono hbw3.out.size))
  clear hb3
  go_wp2_with fail
  go_ret
  exact ⟨rfl, hbw4.out⟩
end Go.Proofs.YtigidchicloleaaGreatDoor
namespace Go.Proofs.YtigidchicloleaaGreatDoor
open Go.Lib Big
theorem num_inj {l m : List UInt8} {q : Rat} (h : num l = some q) (h2 : num m = some q) : l = m := by
  rw [← txt_num h, txt_num h2]
theorem dec_allDig (u : Nat) : allDig (decDigits u) = true := by
  unfold allDig
  rw [(dec_all u).1]
  simp [dec_ne u]
theorem dec_head (u : Nat) (x : List UInt8) : Lib.hasPrefix (decDigits u ++ x) [45] = false := by
  cases h : decDigits u with
  | nil => exact absurd h (dec_ne u)
  | cons b t =>
    have hb : isDig b = true := by
      have := (dec_all u).1
      rw [h, List.all_cons, Bool.and_eq_true] at this
      exact this.1
    have : ((45 : UInt8) == b) = false := by rw [beq_eq_false_iff_ne]; rintro rfl; revert hb; decide
    simp [Lib.hasPrefix, List.isPrefixOf, this]
theorem readAbs_wrote {n d : Nat} (hd : 0 < d) : readAbs (decDigits n ++ (if d = 1 then [] else 47 :: decDigits d)) = some (n, d) := by
  have k1 : isDig 46 = false := by decide
  have k2 : isDig 47 = false := by decide
  have a1 := isDig_ne (dec_all n).1 k1
  have a2 := isDig_ne (dec_all n).1 k2
  have b1 := isDig_ne (dec_all d).1 k1
  unfold readAbs
  by_cases h : d = 1
  · rw [if_pos h, List.append_nil, cut_none a1, cut_none a2]
    simp only [Bool.false_eq_true, if_false]
    rw [if_pos (dec_allDig n), (dec_all n).2, h]
  · rw [if_neg h, cut_none (by simp [a1, b1]), cut_at a2]
    simp only [Bool.false_eq_true, if_false, if_true]
    rw [dec_allDig n, dec_allDig d, (dec_all n).2, (dec_all d).2]
    have : (d == 0) = false := by rw [beq_eq_false_iff_ne]; omega
    simp [this]
theorem readL_wrote {s : Bool} {n d : Nat} (hd : 0 < d) : readL (wrote s n d) = some (s, n, d) := by
  unfold readL wrote
  cases s
  · simp only [Bool.false_eq_true, if_false, List.nil_append]
    rw [dec_head]
    unfold Lib.trimPrefix
    rw [dec_head]
    simp only [Bool.false_eq_true, if_false]
    rw [readAbs_wrote hd]; rfl
  · simp only [if_true]
    have h : Lib.hasPrefix ([45] ++ decDigits n ++ (if d = 1 then [] else 47 :: decDigits d)) [45] = true := by simp [Lib.hasPrefix, List.isPrefixOf]
    unfold Lib.trimPrefix
    rw [h]
    simp only [if_true]
    have : ([45] ++ decDigits n ++ (if d = 1 then [] else 47 :: decDigits d)).drop [(45 : UInt8)].length = decDigits n ++ (if d = 1 then [] else 47 :: decDigits d) := by simp
    rw [this, readAbs_wrote hd]; rfl
def short (q : Rat) : Prop := nDigits q.num.natAbs ≤ 40 ∧ nDigits q.den ≤ 40
theorem wrote_len (s : Bool) (n d : Nat) : (wrote s n d).length ≤ 2 + nDigits n + nDigits d := by
  unfold wrote
  rw [List.length_append, List.length_append, decDigits_length]
  split <;> split <;> simp [decDigits_length] <;> omega
theorem txt_ne {q : Rat} : txt q ≠ [] ↔ short q := by
  rw [txt_eq]
  unfold short
  split
  · simp [wrote_ne, *]
  · simp [*]
theorem num_txt {q : Rat} (h : txt q ≠ []) : num (txt q) = some q := by
  have hs := txt_ne.1 h
  have e := txt_eq q
  unfold short at hs
  rw [if_pos hs] at e
  have hself := ratv_self q
  have hr : readQ (txt q) = some (decide (q.num < 0), q.num.natAbs, q.den) := by
    unfold readQ
    rw [e]
    have hl := wrote_len (decide (q.num < 0)) q.num.natAbs q.den
    rw [if_neg (by omega), readL_wrote q.den_pos]
    have hsg : (decide (q.num < 0) && !(q.num.natAbs == 0)) = decide (q.num < 0) := by
      by_cases h : q.num < 0
      · have : (q.num.natAbs == 0) = false := by rw [beq_eq_false_iff_ne]; omega
        simp [h, this]
      · simp [h]
    simp only [hsg]
    rw [if_pos]
    exact e
  unfold num
  rw [hr, Option.map_some]
  simp only [hself]
theorem num_short {l : List UInt8} {q : Rat} (h : num l = some q) : short q := by
  rw [← txt_ne, txt_num h]
  rintro rfl
  rw [num_nil] at h; cases h
def opT (f : Rat → Rat → Rat) (x y : List UInt8) : List UInt8 :=
  match num x, num y with
  | some a, some b => txt (f a b)
  | _, _ => []
theorem opT_some {f : Rat → Rat → Rat} {x y : List UInt8} {a b : Rat} (hx : num x = some a) (hy : num y = some b) : opT f x y = txt (f a b) := by
  unfold opT; rw [hx, hy]
theorem opT_none1 {f : Rat → Rat → Rat} {x y : List UInt8} (hx : num x = none) : opT f x y = [] := by unfold opT; rw [hx]
theorem opT_none2 {f : Rat → Rat → Rat} {x y : List UInt8} (hy : num y = none) : opT f x y = [] := by unfold opT; rw [hy]; cases num x <;> rfl
def divT (x y : List UInt8) : List UInt8 := if y = [48] then [] else opT (· / ·) x y
theorem num_zero : num [48] = some 0 := by
  have h : txt 0 = [48] := by
    rw [txt_eq]
    have : nDigits (0 : Rat).num.natAbs = 1 := nDigits_small (by decide)
    have h2 : nDigits (0 : Rat).den = 1 := nDigits_small (by decide)
    rw [if_pos (by omega)]
    unfold wrote
    rw [show decDigits (0 : Rat).num.natAbs = [48] from decDigits_one (by decide)]
    rfl
  have := num_txt (q := 0) (by rw [h]; decide)
  rwa [h] at this
theorem num_zero_iff {y : List UInt8} : num y = some 0 ↔ y = [48] :=
  ⟨fun h => num_inj h num_zero, fun h => h ▸ num_zero⟩
def sgnR (q : Rat) : Int := if q < 0 then -1 else if q = 0 then 0 else 1
def cmpT (x y : List UInt8) : Int × Bool :=
  match num x, num y with
  | some a, some b => (sgnR (a - b), true)
  | _, _ => (0, false)
theorem cmpT_some {x y : List UInt8} {a b : Rat} (hx : num x = some a) (hy : num y = some b) : cmpT x y = (sgnR (a - b), true) := by unfold cmpT; rw [hx, hy]
end Go.Proofs.YtigidchicloleaaGreatDoor
set_option maxHeartbeats 1600000
set_option maxRecDepth 100000
namespace Go.Proofs.YtigidchicloleaaGreatDoor
open Go.Lib Big
end Go.Proofs.YtigidchicloleaaGreatDoor
namespace Go.Proofs.YtigidchicloleaaGreatDoor
open Go.RowKit Go.Lib Big
def RatIs (w : World) (x : Value) (q : Rat) (K : Nat) : Prop := ∃ s a b, RatAt w x s a b ∧ ratv s a b = q ∧ 0 < b ∧ a < B64 ^ K ∧ b < B64 ^ K
theorem RatIs.below {w w' : World} {x : Value} {q : Rat} {K : Nat} (h : RatIs w x q K) (hb : Below w.heap.size w w') : RatIs w' x q K := by
  obtain ⟨s, a, b, h1, h2⟩ := h
  exact ⟨s, a, b, h1.below hb, h2⟩
theorem RatIs.agg {w : World} {x : Value} {q : Rat} {K : Nat} (h : RatIs w x q K) : ∃ b p n c r m d, x = .agg #[.bool b, .slice p n c, .slice r m d] := by
  obtain ⟨s, a, b, ⟨u, v, rfl, hu, hv, -⟩, -⟩ := h
  obtain ⟨p, n, c, rfl⟩ := hu.slice
  obtain ⟨r, m, d, rfl⟩ := hv.slice
  exact ⟨_, _, _, _, _, _, _, rfl⟩
theorem ratAt_flag {w : World} {x : Value} {s : Bool} {a b : Nat} (h : RatAt w x s a b) : s = true → 0 < a := by
  obtain ⟨u, v, -, -, -, h⟩ := h; exact h
def IsPost (q : Rat) (K : Nat) (w : World) (e : Ending) (w' : World) : Prop := ∃ x, e = .returned x ∧ RatIs w' x q K ∧ Below w.heap.size w w'
theorem add_is (x y : Value) (p q : Rat) (K : Nat) (w : World) (hK : 2 * K + 1 ≤ 1073741824) (hx : RatIs w x p K) (hy : RatIs w y q K) : Calls Tryz.prog 119 #[x, y] w (IsPost (p + q) (2 * K + 1) w) := by
  obtain ⟨s, a, b, h1, rfl, h3, h4, h5⟩ := hx
  obtain ⟨t, c, d, k1, rfl, k3, k4, k5⟩ := hy
  refine (add_any x y s t a b c d K w hK h4 h5 k4 k5 h3 k3 h1 k1).mono ?_
  rintro e w' ⟨z, r, n, m, rfl, hz, hb, hm, hv, hn, hm2⟩
  exact ⟨z, rfl, ⟨r, n, m, hz, hv, hm, hn, hm2⟩, hb⟩
theorem sub_is (x y : Value) (p q : Rat) (K : Nat) (w : World) (hK : 2 * K + 1 ≤ 1073741824) (hx : RatIs w x p K) (hy : RatIs w y q K) : Calls Tryz.prog 120 #[x, y] w (IsPost (p - q) (2 * K + 1) w) := by
  obtain ⟨s, a, b, h1, rfl, h3, h4, h5⟩ := hx
  obtain ⟨t, c, d, k1, rfl, k3, k4, k5⟩ := hy
  refine (sub_any x y s t a b c d K w hK h4 h5 k4 k5 h3 k3 h1 k1).mono ?_
  rintro e w' ⟨z, r, n, m, rfl, hz, hb, hm, hv, hn, hm2⟩
  exact ⟨z, rfl, ⟨r, n, m, hz, hv, hm, hn, hm2⟩, hb⟩
theorem mul_lt2 {a b K : Nat} (ha : a < B64 ^ K) (hb : b < B64 ^ K) : a * b < B64 ^ (2 * K) := by
  rw [pow_two]
  exact Nat.mul_lt_mul'' ha hb
theorem mul_is (x y : Value) (p q : Rat) (K : Nat) (w : World) (hK : K ≤ 1073741824) (hx : RatIs w x p K) (hy : RatIs w y q K) : Calls Tryz.prog 121 #[x, y] w (IsPost (p * q) (2 * K) w) := by
  obtain ⟨s, a, b, h1, rfl, h3, h4, h5⟩ := hx
  obtain ⟨t, c, d, k1, rfl, k3, k4, k5⟩ := hy
  refine (mul_any x y s t a b c d K w hK h4 h5 k4 k5 h1 k1).mono ?_
  rintro e w' ⟨z, rfl, hz, hb⟩
  exact ⟨z, rfl, ⟨_, _, _, hz, by rw [ratv_drop, ratv_mul h3 k3], Nat.mul_pos h3 k3, mul_lt2 h4 k4, mul_lt2 h5 k5⟩, hb⟩
theorem ratv_zero_iff {s : Bool} {a b : Nat} (hb : 0 < b) : ratv s a b = 0 ↔ a = 0 := by
  have h1 := natCast_ne hb
  constructor
  · intro h
    unfold ratv at h
    apply Nat.eq_zero_of_not_pos
    intro ha
    have h2 := natCast_ne ha
    cases s
    · simp only [Bool.false_eq_true, if_false] at h; grind
    · simp only [if_true] at h; grind
  · rintro rfl
    unfold ratv
    cases s <;> simp <;> grind
theorem quo_is (x y : Value) (p q : Rat) (K : Nat) (w : World) (hK : K ≤ 1073741824) (hq : q ≠ 0) (hx : RatIs w x p K) (hy : RatIs w y q K) : Calls Tryz.prog 122 #[x, y] w (IsPost (p / q) (2 * K) w) := by
  obtain ⟨s, a, b, h1, rfl, h3, h4, h5⟩ := hx
  obtain ⟨t, c, d, k1, rfl, k3, k4, k5⟩ := hy
  have hc : 0 < c := by
    apply Nat.pos_of_ne_zero; intro h0; exact hq ((ratv_zero_iff k3).2 h0)
  refine (quo_any x y s t a b c d K w hK h4 h5 k4 k5 h1 k1).mono ?_
  rintro e w' ⟨z, rfl, hz, hb⟩
  exact ⟨z, rfl, ⟨_, _, _, hz, by rw [ratv_drop, ratv_quo h3 k3 hc], Nat.mul_pos h3 hc, mul_lt2 h4 k5, mul_lt2 h5 k4⟩, hb⟩
theorem qtext_is (x : Value) (q : Rat) (K : Nat) (w : World) (hK : K ≤ 1000000) (hx : RatIs w x q K) (htab : Tab w) : Calls Tryz.prog 140 #[x] w fun e w' => e = .returned (.string ⟨(txt q).toArray⟩) ∧ Below w.heap.size w w' := by
  obtain ⟨s, a, b, h1, rfl, h3, h4, h5⟩ := hx
  rw [← numText_txt h3 (ratAt_flag h1)]
  exact qtext_any x s a b K w hK h4 h5 h3 h1 htab
theorem readQ_lt {l : List UInt8} {s : Bool} {n d : Nat} (h : readQ l = some (s, n, d)) : n < B64 ^ 20 ∧ d < B64 ^ 20 ∧ 0 < d := by
  unfold readQ at h
  split at h
  · cases h
  · rename_i hl
    split at h
    · rename_i s0 n0 d0 hr
      split at h
      · cases h; exact readL_lt hr (by omega)
      · cases h
    · cases h
def NumPost (o : Option Rat) (w : World) (e : Ending) (w' : World) : Prop :=
  Below w.heap.size w w' ∧ ∃ b p n c q m d, e = .returned (.tuple #[.agg #[.bool b, .slice p n c, .slice q m d], .bool o.isSome]) ∧ ∀ r, o = some r → RatIs w' (.agg #[.bool b, .slice p n c, .slice q m d]) r 20
theorem qread_is (s : ByteArray) (w : World) (htab : Tab w) : Calls Tryz.prog 135 #[.string s] w (NumPost (num s.data.toList) w) := by
  refine (qread_c s w htab).mono fun e w' h => ⟨h.1, ?_⟩
  obtain ⟨-, b, p, n, c, q, m, d, he, hr⟩ := h
  unfold num
  cases hq : readQ s.data.toList with
  | none => rw [hq] at he; exact ⟨b, p, n, c, q, m, d, he, fun r h => by cases h⟩
  | some t =>
    obtain ⟨sg, x, y⟩ := t
    rw [hq] at he hr
    refine ⟨b, p, n, c, q, m, d, he, ?_⟩
    rintro r h
    cases h
    obtain ⟨h1, h2, h3⟩ := readQ_lt hq
    exact ⟨sg, x, y, hr _ _ _ rfl, rfl, h3, h1, h2⟩
theorem closure_is (x y : ByteArray) (g : Nat) (f : FuncId) (p q r : Rat) (K : Nat) (w : World) (hg : g < w.heap.size) (hcl : w.cell? ⟨g, 0, none⟩ = some (.func (.func f) #[] #[])) (hx : Hid (Calls Tryz.prog 135 #[.string x] w (NumPost (some p) w))) (hy : ∀ W, Below w.heap.size w W → Hid (Calls Tryz.prog 135 #[.string y] W (NumPost (some q) W)))
    (hent : ∀ args W, (callFunc f args).run Tryz.prog W = .ok (.enter f args) W) (hop : ∀ W u v, Below w.heap.size w W → RatIs W u p 20 → RatIs W v q 20 → Hid (Calls Tryz.prog f #[u, v] W (IsPost r K W)))
    (ht : ∀ W z, Below w.heap.size w W → RatIs W z r K → Hid (Calls Tryz.prog 140 #[z] W fun e w' => e = .returned (.string ⟨(txt r).toArray⟩) ∧ Below W.heap.size W w')) : Calls Tryz.prog 139 #[.string x, .string y, .pointer (some ⟨g, 0, none⟩)] w fun e w' => e = .returned (.string ⟨(txt r).toArray⟩) ∧ Below w.heap.size w w' := by
  have Hcl := hiD hcl
  have Hg := hiD hg
  clear hcl hg
  go_enter Tryz.func139, Tryz.ntmps139
  go_wp2_with fail
  refine hx.out.mono ?_
  rintro e w2 ⟨hb2, b1, p1, n1, c1, q1, m1, d1, rfl, hr1⟩
  have hbw := hiD (hb2.trans ((bea w2 (.cells #[.bool b1, .slice p1 n1 c1, .slice q1 m1 d1] 120)).mono hb2.size))
  have hR1 := hiD ((hr1 _ rfl).below (bea w2 (.cells #[.bool b1, .slice p1 n1 c1, .slice q1 m1 d1] 120)))
  have hb1 := hiD (heap_new w2 (.cells #[.bool b1, .slice p1 n1 c1, .slice q1 m1 d1] 120))
  have hy2 := hy _ hbw.out
  clear hb2 hy hr1
  go_wp2_with fail
  refine hy2.out.mono ?_
  rintro e w3 ⟨hb3, b', p', n', c', q', m', d', rfl, hr3⟩
  have hbw3 := hiD (hbw.out.trans (hb3.mono hbw.out.size))
  have hbw4 := hiD (hbw3.out.trans ((bea w3 (.cells #[.bool b', .slice p' n' c', .slice q' m' d'] 120)).mono hbw3.out.size))
  have hA := hiD (bea w3 (.cells #[.bool b', .slice p' n' c', .slice q' m' d'] 120))
  have hR3 := hiD ((hr3 _ rfl).below hA.out)
  have hR2 := hiD ((hR1.out.below hb3).below hA.out)
  have hbox := (hb3.trans (hA.out.mono hb3.size)).block w2.heap.size (by simp)
  have hbx := hbox.trans hb1.out
  have e0 := ceh hbx 0
  have e1 := ceh hbx 1
  have e2 := ceh hbx 2
  have hcl4 := (hbw4.out.cell (p := ⟨g, 0, none⟩) Hg.out).trans Hcl.out
  have hop4 := hop _ _ _ hbw4.out hR2.out hR3.out
  clear hb3 hy2 hr3 hbox hbx hop
  go_wp2_with fail
  refine hop4.out.mono ?_
  rintro e w5 ⟨z, rfl, hz, hb5⟩
  have hbw5 := hiD (hbw4.out.trans (hb5.mono hbw4.out.size))
  have ht5 := ht _ _ hbw5.out hz
  clear hb5 hz ht hop4
  go_wp2_with fail
  refine ht5.out.mono ?_
  rintro e w6 ⟨rfl, hb6⟩
  have hbw6 := hiD (hbw5.out.trans (hb6.mono hbw5.out.size))
  clear hb6
  go_wp2_with fail
  go_ret
  exact ⟨rfl, hbw6.out⟩
theorem closure_any (x y : ByteArray) (g : Nat) (f : FuncId) (F : Rat → Rat → Rat) (K : Nat) (w : World) (hK : K ≤ 1000000) (hg : g < w.heap.size) (hcl : w.cell? ⟨g, 0, none⟩ = some (.func (.func f) #[] #[])) (htab : Tab w)
    (hent : ∀ args W, (callFunc f args).run Tryz.prog W = .ok (.enter f args) W) (hop : ∀ W u v p q, num x.data.toList = some p → num y.data.toList = some q → Below w.heap.size w W → RatIs W u p 20 → RatIs W v q 20 → Calls Tryz.prog f #[u, v] W (IsPost (F p q) K W)) :
    Calls Tryz.prog 139 #[.string x, .string y, .pointer (some ⟨g, 0, none⟩)] w fun e w' => e = .returned (.string ⟨(opT F x.data.toList y.data.toList).toArray⟩) ∧ Below w.heap.size w w' := by
  have hx := qread_c x w htab
  have hx' := qread_is x w htab
  have hy := fun W (hb : Below w.heap.size w W) => qread_c y W (htab.below hb)
  have hy' := fun W (hb : Below w.heap.size w W) => qread_is y W (htab.below hb)
  cases hnx : num x.data.toList with
  | none =>
    have hr : readQ x.data.toList = none := by unfold num at hnx; simpa using hnx
    rw [hr] at hx
    rw [opT_none1 hnx]
    exact closure_bad1 x y _ w (hiD hx)
  | some p =>
    cases hny : num y.data.toList with
    | none =>
      have hr : readQ y.data.toList = none := by unfold num at hny; simpa using hny
      obtain ⟨t, ht⟩ : ∃ t, readQ x.data.toList = some t := by
        unfold num at hnx
        rw [Option.map_eq_some_iff] at hnx
        obtain ⟨t, h, -⟩ := hnx; exact ⟨t, h⟩
      rw [ht] at hx
      rw [opT_none2 hny]
      refine closure_bad2 x y _ t w (hiD hx) fun W hb => hiD ?_
      have := hy W hb
      rwa [hr] at this
    | some q =>
      rw [opT_some hnx hny]
      rw [hnx] at hx'
      refine closure_is x y g f p q (F p q) K w hg hcl (hiD hx') (fun W hb => hiD ?_) hent (fun W u v hb hu hv => hiD (hop W u v p q hnx hny hb hu hv)) fun W z hb hz => hiD (qtext_is z _ K W hK hz (htab.below hb))
      have := hy' W hb
      rwa [hny] at this
def TxtPost (l : List UInt8) (w : World) (e : Ending) (w' : World) : Prop := e = .returned (.string ⟨l.toArray⟩) ∧ Below w.heap.size w w'
theorem closure_from (x y : ByteArray) (f : FuncId) (F : Rat → Rat → Rat) (K : Nat) (w : World) (hK : K ≤ 1000000) (htab : Tab w)
    (hent : ∀ args W, (callFunc f args).run Tryz.prog W = .ok (.enter f args) W) (hop : ∀ W u v p q, num x.data.toList = some p → num y.data.toList = some q → Below w.heap.size w W → RatIs W u p 20 → RatIs W v q 20 → Calls Tryz.prog f #[u, v] W (IsPost (F p q) K W)) :
    Calls Tryz.prog 139 #[.string x, .string y, .pointer (some ⟨w.heap.size, 0, none⟩)] (w.alloc (.cells #[.func (.func f) #[] #[]] 116)) (TxtPost (opT F x.data.toList y.data.toList) w) := by
  have hb := bea w (.cells #[.func (.func f) #[] #[]] 116)
  refine (closure_any x y w.heap.size f F K (w.alloc (.cells #[.func (.func f) #[] #[]] 116)) hK (by simp) ?_ (htab.below hb) hent fun W u v p q h1 h2 h3 h4 h5 => hop W u v p q h1 h2 (hb.trans (h3.mono hb.size)) h4 h5).mono ?_
  · exact ceh (heap_new w _) 0
  · rintro e w' ⟨he, hb2⟩
    exact ⟨he, hb.trans (hb2.mono hb.size)⟩
theorem add_q (x y : ByteArray) (w : World) (htab : Tab w) : Calls Tryz.prog 95 #[.string x, .string y] w (TxtPost (opT (· + ·) x.data.toList y.data.toList) w) := by
  have hcl := hiD (closure_from x y 119 (· + ·) 41 w (by omega) htab (fun args W => by kernel_rfl) fun W u v p q _ _ _ hu hv => add_is u v p q 20 W (by omega) hu hv)
  generalize opT (· + ·) x.data.toList y.data.toList = l at hcl ⊢
  clear htab
  go_enter Tryz.func95, Tryz.ntmps95
  go_wp2_with fail
  refine (onTexts_any 119 w).mono ?_
  rintro e w1 ⟨rfl, rfl⟩
  go_wp2_with fail
  refine hcl.out.mono ?_
  rintro e w2 ⟨rfl, hb⟩
  have Hb := hiD hb
  clear hb
  go_wp2_with fail
  go_ret
  exact ⟨rfl, Hb.out⟩
theorem sub_q (x y : ByteArray) (w : World) (htab : Tab w) : Calls Tryz.prog 96 #[.string x, .string y] w (TxtPost (opT (· - ·) x.data.toList y.data.toList) w) := by
  have hcl := hiD (closure_from x y 120 (· - ·) 41 w (by omega) htab (fun args W => by kernel_rfl) fun W u v p q _ _ _ hu hv => sub_is u v p q 20 W (by omega) hu hv)
  generalize opT (· - ·) x.data.toList y.data.toList = l at hcl ⊢
  clear htab
  go_enter Tryz.func96, Tryz.ntmps96
  go_wp2_with fail
  refine (onTexts_any 120 w).mono ?_
  rintro e w1 ⟨rfl, rfl⟩
  go_wp2_with fail
  refine hcl.out.mono ?_
  rintro e w2 ⟨rfl, hb⟩
  have Hb := hiD hb
  clear hb
  go_wp2_with fail
  go_ret
  exact ⟨rfl, Hb.out⟩
theorem mul_q (x y : ByteArray) (w : World) (htab : Tab w) : Calls Tryz.prog 97 #[.string x, .string y] w (TxtPost (opT (· * ·) x.data.toList y.data.toList) w) := by
  have hcl := hiD (closure_from x y 121 (· * ·) 40 w (by omega) htab (fun args W => by kernel_rfl) fun W u v p q _ _ _ hu hv => mul_is u v p q 20 W (by omega) hu hv)
  generalize opT (· * ·) x.data.toList y.data.toList = l at hcl ⊢
  clear htab
  go_enter Tryz.func97, Tryz.ntmps97
  go_wp2_with fail
  refine (onTexts_any 121 w).mono ?_
  rintro e w1 ⟨rfl, rfl⟩
  go_wp2_with fail
  refine hcl.out.mono ?_
  rintro e w2 ⟨rfl, hb⟩
  have Hb := hiD hb
  clear hb
  go_wp2_with fail
  go_ret
  exact ⟨rfl, Hb.out⟩
theorem div_zero_q (x y : ByteArray) (w : World) (h : (y.toList == [48]) = true) : Calls Tryz.prog 98 #[.string x, .string y] w (TxtPost [] w) := by
  go_enter Tryz.func98, Tryz.ntmps98
  go_wp2_with fail
  go_ret
  exact ⟨rfl, Below.refl _ _⟩
theorem div_other_q (x y : ByteArray) (w : World) (htab : Tab w) (h : (y.toList == [48]) = false) (hy : num y.data.toList ≠ some 0) : Calls Tryz.prog 98 #[.string x, .string y] w (TxtPost (opT (· / ·) x.data.toList y.data.toList) w) := by
  have hcl := hiD (closure_from x y 122 (· / ·) 40 w (by omega) htab (fun args W => by kernel_rfl) fun W u v p q _ hq _ hu hv => quo_is u v p q 20 W (by omega) (by rintro rfl; exact hy hq) hu hv)
  generalize opT (· / ·) x.data.toList y.data.toList = l at hcl ⊢
  clear htab hy
  go_enter Tryz.func98, Tryz.ntmps98
  go_wp2_with fail
  refine (onTexts_any 122 w).mono ?_
  rintro e w1 ⟨rfl, rfl⟩
  go_wp2_with fail
  refine hcl.out.mono ?_
  rintro e w2 ⟨rfl, hb⟩
  have Hb := hiD hb
  clear hb
  go_wp2_with fail
  go_ret
  exact ⟨rfl, Hb.out⟩
theorem toList_beq (y : ByteArray) (l : List UInt8) : (y.toList == l) = decide (y.data.toList = l) := by
  rw [Lib.toList_data]
  by_cases h : y.data.toList = l
  · rw [decide_eq_true h]; simpa using h
  · rw [decide_eq_false h, beq_eq_false_iff_ne]; simpa using h
theorem div_q (x y : ByteArray) (w : World) (htab : Tab w) : Calls Tryz.prog 98 #[.string x, .string y] w (TxtPost (divT x.data.toList y.data.toList) w) := by
  unfold divT
  have he := toList_beq y [48]
  by_cases h : y.data.toList = [48]
  · rw [if_pos h]
    rw [decide_eq_true h] at he
    exact div_zero_q x y w he
  · rw [if_neg h]
    rw [decide_eq_false h] at he
    exact div_other_q x y w htab he fun h2 => h (num_zero_iff.1 h2)
theorem sign_is (x : Value) (q : Rat) (K : Nat) (w : World) (hx : RatIs w x q K) : Calls Tryz.prog 147 #[x] w fun e w' => e = .returned (.int .i64 (sgnR q)) ∧ Below w.heap.size w w' := by
  obtain ⟨s, a, b, h1, rfl, h3, h4, h5⟩ := hx
  have e : sgn s a = sgnR (ratv s a b) := by
    obtain ⟨g1, g2, g3⟩ := ratv_num h3 (ratAt_flag h1)
    have hz := ratv_zero_iff (s := s) (a := a) h3
    unfold sgn sgnR
    have hn : (ratv s a b < 0) ↔ (ratv s a b).num < 0 := by have := Rat.num_nonneg (q := ratv s a b); grind
    cases s
    · rw [decide_eq_false_iff_not] at g1
      rw [if_neg (by simp), if_neg (fun h => g1 (hn.1 h))]
      by_cases ha : a = 0
      · rw [if_pos ha, if_pos (hz.2 ha)]
      · rw [if_neg ha, if_neg (fun h => ha (hz.1 h))]
    · rw [decide_eq_true_iff] at g1
      rw [if_pos rfl, if_pos (hn.2 g1)]
  rw [← e]
  exact sign_any x s a b w h1
def CmpTPost (c : Int × Bool) (w : World) (e : Ending) (w' : World) : Prop := e = .returned (.tuple #[.int .i64 c.1, .bool c.2]) ∧ Below w.heap.size w w'
theorem compare_bad1 (x y : ByteArray) (w : World) (hx : Hid (Calls Tryz.prog 135 #[.string x] w (NumPost none w))) : Calls Tryz.prog 124 #[.string x, .string y] w (CmpTPost (0, false) w) := by
  go_enter Tryz.func124, Tryz.ntmps124
  go_wp2_with fail
  refine hx.out.mono ?_
  rintro e w2 ⟨hb2, b, p, n, c, q, m, d, rfl, -⟩
  have hbw := hiD (hb2.trans ((bea w2 (.cells #[.bool b, .slice p n c, .slice q m d] 120)).mono hb2.size))
  clear hb2
  go_wp2_with fail
  go_ret2
  exact ⟨rfl, hbw.out⟩
theorem compare_bad2 (x y : ByteArray) (r : Rat) (w : World) (hx : Hid (Calls Tryz.prog 135 #[.string x] w (NumPost (some r) w))) (hy : ∀ W, Below w.heap.size w W → Hid (Calls Tryz.prog 135 #[.string y] W (NumPost none W))) : Calls Tryz.prog 124 #[.string x, .string y] w (CmpTPost (0, false) w) := by
  go_enter Tryz.func124, Tryz.ntmps124
  go_wp2_with fail
  refine hx.out.mono ?_
  rintro e w2 ⟨hb2, b, p, n, c, q, m, d, rfl, -⟩
  have hbw := hiD (hb2.trans ((bea w2 (.cells #[.bool b, .slice p n c, .slice q m d] 120)).mono hb2.size))
  have hy2 := hy _ hbw.out
  clear hb2 hy
  go_wp2_with fail
  refine hy2.out.mono ?_
  rintro e w3 ⟨hb3, b', p', n', c', q', m', d', rfl, -⟩
  have hbw3 := hiD (hbw.out.trans (hb3.mono hbw.out.size))
  have hbw4 := hiD (hbw3.out.trans ((bea w3 (.cells #[.bool b', .slice p' n' c', .slice q' m' d'] 120)).mono hbw3.out.size))
  clear hb3
  go_wp2_with fail
  go_ret2
  exact ⟨rfl, hbw4.out⟩
theorem compare_ok (x y : ByteArray) (p q : Rat) (w : World) (hx : Hid (Calls Tryz.prog 135 #[.string x] w (NumPost (some p) w))) (hy : ∀ W, Below w.heap.size w W → Hid (Calls Tryz.prog 135 #[.string y] W (NumPost (some q) W))) : Calls Tryz.prog 124 #[.string x, .string y] w (CmpTPost (sgnR (p - q), true) w) := by
  have hop : Hid (∀ W u v, RatIs W u p 20 → RatIs W v q 20 → Calls Tryz.prog 120 #[u, v] W (IsPost (p - q) 41 W)) := hiD fun W u v hu hv => sub_is u v p q 20 W (by omega) hu hv
  have hsg : Hid (∀ W z, RatIs W z (p - q) 41 → Calls Tryz.prog 147 #[z] W fun e w' => e = .returned (.int .i64 (sgnR (p - q))) ∧ Below W.heap.size W w') := hiD fun W z hz => sign_is z (p - q) 41 W hz
  generalize sgnR (p - q) = c at hsg ⊢
  go_enter Tryz.func124, Tryz.ntmps124
  go_wp2_with fail
  refine hx.out.mono ?_
  rintro e w2 ⟨hb2, b1, p1, n1, c1, q1, m1, d1, rfl, hr1⟩
  have hbw := hiD (hb2.trans ((bea w2 (.cells #[.bool b1, .slice p1 n1 c1, .slice q1 m1 d1] 120)).mono hb2.size))
  have hR1 := hiD ((hr1 _ rfl).below (bea w2 (.cells #[.bool b1, .slice p1 n1 c1, .slice q1 m1 d1] 120)))
  have hb1 := hiD (heap_new w2 (.cells #[.bool b1, .slice p1 n1 c1, .slice q1 m1 d1] 120))
  have hy2 := hy _ hbw.out
  clear hb2 hy hr1
  go_wp2_with fail
  refine hy2.out.mono ?_
  rintro e w3 ⟨hb3, b', p', n', c', q', m', d', rfl, hr3⟩
  have hbw3 := hiD (hbw.out.trans (hb3.mono hbw.out.size))
  have hbw4 := hiD (hbw3.out.trans ((bea w3 (.cells #[.bool b', .slice p' n' c', .slice q' m' d'] 120)).mono hbw3.out.size))
  have hA := hiD (bea w3 (.cells #[.bool b', .slice p' n' c', .slice q' m' d'] 120))
  have hR3 := hiD ((hr3 _ rfl).below hA.out)
  have hR2 := hiD ((hR1.out.below hb3).below hA.out)
  have hbox := (hb3.trans (hA.out.mono hb3.size)).block w2.heap.size (by simp)
  have hbx := hbox.trans hb1.out
  have e0 := ceh hbx 0
  have e1 := ceh hbx 1
  have e2 := ceh hbx 2
  have hop4 := hiD (hop.out _ _ _ hR2.out hR3.out)
  clear hb3 hy2 hr3 hbox hbx
  go_wp2_with fail
  refine hop4.out.mono ?_
  rintro e w5 ⟨z, rfl, hz, hb5⟩
  have hbw5 := hiD (hbw4.out.trans (hb5.mono hbw4.out.size))
  have ht5 := hiD (hsg.out _ _ hz)
  clear hb5 hz hop4
  go_wp2_with fail
  refine ht5.out.mono ?_
  rintro e w6 ⟨rfl, hb6⟩
  have hbw6 := hiD (hbw5.out.trans (hb6.mono hbw5.out.size))
  clear hb6
  go_wp2_with fail
  go_ret2
  exact ⟨rfl, hbw6.out⟩
theorem compare_q (x y : ByteArray) (w : World) (htab : Tab w) : Calls Tryz.prog 124 #[.string x, .string y] w (CmpTPost (cmpT x.data.toList y.data.toList) w) := by
  have hx := qread_is x w htab
  have hy := fun W (hb : Below w.heap.size w W) => qread_is y W (htab.below hb)
  unfold cmpT
  cases hnx : num x.data.toList with
  | none => rw [hnx] at hx; exact compare_bad1 x y w (hiD hx)
  | some p =>
    rw [hnx] at hx
    cases hny : num y.data.toList with
    | none => rw [hny] at hy; exact compare_bad2 x y p w (hiD hx) fun W hb => hiD (hy W hb)
    | some q => rw [hny] at hy; exact compare_ok x y p q w (hiD hx) fun W hb => hiD (hy W hb)
theorem One.drew {B : Nat} {s : Bool} {u1 v1 : Value} {w0 W : World} (h : One B s u1 v1 w0 W) : One B s u1 v1 w0 W.drew := ⟨h.size, h.below.drew, h.x, h.z⟩
theorem One.all {B : Nat} {s : Bool} {u1 v1 : Value} {w0 W : World} (h : One B s u1 v1 w0 W) : One B s u1 v1 w0 W ∧ W.cell? ⟨B, 0, none⟩ = some (.bool s) ∧ W.cell? ⟨B, 1, none⟩ = some u1 ∧ W.cell? ⟨B, 2, none⟩ = some v1 := ⟨h, h.cells⟩
end Go.Proofs.YtigidchicloleaaGreatDoor
