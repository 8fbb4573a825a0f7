/- Units as texts and powers: products, powers and conversions; the units of texts. The contracts of the numbers in terms of rational numbers; the closure of onTexts; Add, Sub, Mul, Div. Add, Sub, Mul, Div, Compare on texts. Compare, isPositive, Floor on texts. Power of a rational number. -/
import Derived.Test.YtoegbjmoecbjdaaGreatDoorPart09
import Derived.Outline
set_option maxHeartbeats 3200000
set_option maxRecDepth 100000
namespace Go.Proofs.YtoegbjmoecbjdaaGreatDoor
open Go.Lib Big
structure UnitT where
  f : List UInt8
  o : List UInt8
  ps : List Int
  deriving DecidableEq
def zeroU : UnitT := ⟨[], [], [0, 0, 0, 0, 0, 0, 0]⟩
def isPow (n : Int) : Bool := decide (-12 ≤ n) && decide (n ≤ 12)
def inR (ps : List Int) : Bool := ps.all isPow
def mkT (q : Rat) (ps : List Int) : UnitT × Int := if txt q = [] ∨ inR ps = false then (zeroU, 4) else (⟨txt q, [48], ps⟩, 0)
theorem mkT_ok {q : Rat} {ps : List Int} (h1 : txt q ≠ []) (h2 : inR ps = true) : mkT q ps = (⟨txt q, [48], ps⟩, 0) := by
  unfold mkT
  rw [if_neg]
  rintro (h | h)
  · exact h1 h
  · rw [h2] at h; cases h
def isLet (b : UInt8) : Bool := (97 ≤ b.toNat && b.toNat ≤ 122) || (65 ≤ b.toNat && b.toNat ≤ 90)
def cntD (l : List UInt8) : Nat := (l.takeWhile isDig).length
def cntL (l : List UInt8) : Nat := (l.takeWhile isLet).length
structure FacT where
  v : Rat
  ps : List Int
  e : Int
def noPs : List Int := [0, 0, 0, 0, 0, 0, 0]
def symT (w : List UInt8) : Option (List UInt8 × List Int × Bool) :=
  if w == [109] then some ([49], [1, 0, 0, 0, 0, 0, 0], true)
  else if w == [103] then some ([49, 47, 49, 48, 48, 48], [0, 1, 0, 0, 0, 0, 0], true)
  else if w == [115] then some ([49], [0, 0, 1, 0, 0, 0, 0], true)
  else if w == [75] then some ([49], [0, 0, 0, 1, 0, 0, 0], true)
  else if w == [109, 111, 108] then some ([49], [0, 0, 0, 0, 1, 0, 0], true)
  else if w == [65] then some ([49], [0, 0, 0, 0, 0, 1, 0], true)
  else if w == [99, 100] then some ([49], [0, 0, 0, 0, 0, 0, 1], true)
  else if w == [109, 105, 110] then some ([54, 48], [0, 0, 1, 0, 0, 0, 0], false)
  else if w == [104] then some ([51, 54, 48, 48], [0, 0, 1, 0, 0, 0, 0], false)
  else if w == [100] then some ([56, 54, 52, 48, 48], [0, 0, 1, 0, 0, 0, 0], false)
  else if w == [116] then some ([49, 48, 48, 48], [0, 1, 0, 0, 0, 0, 0], true)
  else if w == [76] then some ([49, 47, 49, 48, 48, 48], [3, 0, 0, 0, 0, 0, 0], true)
  else if w == [72, 122] then some ([49], [0, 0, -1, 0, 0, 0, 0], true)
  else if w == [78] then some ([49], [1, 1, -2, 0, 0, 0, 0], true)
  else if w == [80, 97] then some ([49], [-1, 1, -2, 0, 0, 0, 0], true)
  else if w == [74] then some ([49], [2, 1, -2, 0, 0, 0, 0], true)
  else if w == [87] then some ([49], [2, 1, -3, 0, 0, 0, 0], true)
  else if w == [98, 97, 114] then some ([49, 48, 48, 48, 48, 48], [-1, 1, -2, 0, 0, 0, 0], true)
  else none
def preT (c : UInt8) : List UInt8 :=
  if c == 110 then [49, 47, 49, 48, 48, 48, 48, 48, 48, 48, 48, 48]
  else if c == 117 then [49, 47, 49, 48, 48, 48, 48, 48, 48]
  else if c == 109 then [49, 47, 49, 48, 48, 48]
  else if c == 99 then [49, 47, 49, 48, 48]
  else if c == 100 then [49, 47, 49, 48]
  else if c == 104 then [49, 48, 48]
  else if c == 107 then [49, 48, 48, 48]
  else if c == 77 then [49, 48, 48, 48, 48, 48, 48]
  else if c == 71 then [49, 48, 48, 48, 48, 48, 48, 48, 48, 48]
  else []
def readR (l : List UInt8) : Rat := match readL l with
  | some (s, n, d) => ratv s n d
  | none => 0
def wordT (w : List UInt8) : Option (Rat × List Int) :=
  match symT w with
  | some (v, ps, _) => some (readR v, ps)
  | none => match w with
    | [] => none
    | c :: t => match symT t with
      | some (v, ps, true) => if preT c = [] then none else some (readR (preT c) * readR v, ps)
      | _ => none
def satT (ds : List UInt8) : Int := ds.foldl (fun (e : Int) c => if e ≤ 12 then e * 10 + ((c.toNat : Int) - 48) else e) 0
def expoT (l : List UInt8) : Int × Nat :=
  match l with
  | 45 :: t => if cntD t = 0 then (0, 0) else (-satT (t.take (cntD t)), 1 + cntD t)
  | _ => if cntD l = 0 then (0, 0) else (satT (l.take (cntD l)), cntD l)
def parseT (l : List UInt8) : List UInt8 × Int :=
  if 1000 < l.length then ([], 4) else
  match readL l with
  | some (s, n, d) => if txt (ratv s n d) = [] then ([], 4) else (txt (ratv s n d), 0)
  | none => ([], 1)
def lenT (l : List UInt8) : Nat :=
  match l.drop (cntD l) with
  | c :: t => if (c == 46 || c == 47) && decide (0 < cntD t) then cntD l + 1 + cntD t else cntD l
  | [] => cntD l
def numberT (l : List UInt8) : Option (FacT × Nat) :=
  if (parseT (l.take (lenT l))).2 = 0 ∧ (parseT (l.take (lenT l))).1 ≠ [48] then some (⟨readR (parseT (l.take (lenT l))).1, noPs, 1⟩, lenT l) else none
def symbolT (l : List UInt8) : Option (FacT × Nat) :=
  match wordT (l.take (cntL l)) with
  | none => none
  | some (v, ps) => match l.drop (cntL l) with
    | 94 :: t => if (expoT t).2 = 0 then none else some (⟨v, ps, (expoT t).1⟩, cntL l + 1 + (expoT t).2)
    | _ => some (⟨v, ps, 1⟩, cntL l)
def factorT (l : List UInt8) : Option (FacT × Nat) := if 0 < cntD l then numberT l else symbolT l
def factorsT (l : List UInt8) (dir : Int) (acc : List FacT) : Nat → Option (List FacT)
  | 0 => none
  | fuel + 1 => match factorT l with
    | none => none
    | some (f, n) => if n = l.length then some (acc ++ [{ f with e := f.e * dir }]) else
      match l.drop n with
      | 32 :: t => factorsT t 1 (acc ++ [{ f with e := f.e * dir }]) fuel
      | 47 :: t => factorsT t (-1) (acc ++ [{ f with e := f.e * dir }]) fuel
      | _ => none
def prodT (v : Rat) (ps : List Int) : List FacT → UnitT × Int
  | [] => mkT v ps
  | f :: l => if isPow f.e then prodT (v * f.v ^ f.e) (List.zipWith (fun p r => p + r * f.e) ps f.ps) l else (zeroU, 4)
def one7 : List Int := [0, 0, 0, 1, 0, 0, 0]
def unitT (l : List UInt8) : UnitT × Int :=
  if 1000 < l.length then (zeroU, 4)
  else if l == [100, 101, 103, 67] then (⟨[49], [53, 52, 54, 51, 47, 50, 48], one7⟩, 0)
  else if l == [100, 101, 103, 70] then (⟨[53, 47, 57], [52, 53, 57, 54, 55, 47, 49, 56, 48], one7⟩, 0)
  else match factorsT l 1 [] (l.length + 1) with
    | none => (zeroU, 10)
    | some fs => if 12 < fs.length then (zeroU, 4) else prodT 1 noPs fs
theorem readR_of {l : List UInt8} {n d : Nat} (h : readL l = some (false, n, d)) : readR l = (n : Rat) / (d : Rat) := by
  unfold readR; rw [h]; rfl
theorem kmh_factors : factorsT [107, 109, 47, 104] 1 [] 5 = some [⟨readR [49, 48, 48, 48] * readR [49], [1, 0, 0, 0, 0, 0, 0], 1⟩, ⟨readR [51, 54, 48, 48], [0, 0, 1, 0, 0, 0, 0], -1⟩] := by
  rfl
theorem txt_5_18 : txt ((5 : Rat) / 18) = [53, 47, 49, 56] := by
  have e : (5 : Rat) / 18 = mkRat 5 18 := by rw [Rat.mkRat_eq_div]; rfl
  have hn : ((5 : Rat) / 18).num = 5 := by rw [e, Rat.num_mkRat]; decide
  have hd : ((5 : Rat) / 18).den = 18 := by rw [e, Rat.den_mkRat]; decide
  rw [txt_eq, hn, hd]
  have h1 : nDigits (5 : Int).natAbs = 1 := nDigits_small (by decide)
  have h2 : nDigits 18 = 2 := by rw [nDigits_big (by decide), nDigits_small (by decide)]
  rw [if_pos (by omega)]
  unfold wrote
  rw [show decDigits (5 : Int).natAbs = [53] from decDigits_one (by decide), show decDigits 18 = [49, 56] from decDigits_two (by decide) (by decide)]
  rfl
theorem kmh : unitT [107, 109, 47, 104] = (⟨[53, 47, 49, 56], [48], [1, 0, -1, 0, 0, 0, 0]⟩, 0) := by
  have h : unitT [107, 109, 47, 104] = prodT 1 noPs [⟨readR [49, 48, 48, 48] * readR [49], [1, 0, 0, 0, 0, 0, 0], 1⟩, ⟨readR [51, 54, 48, 48], [0, 0, 1, 0, 0, 0, 0], -1⟩] := by
    unfold unitT
    rw [if_neg (by decide), if_neg (by decide), if_neg (by decide)]
    rw [show ([107, 109, 47, 104] : List UInt8).length + 1 = 5 from rfl, kmh_factors]
    rfl
  have r1 : readR [49, 48, 48, 48] = (1000 : Nat) / (1 : Nat) := readR_of rfl
  have r2 : readR [49] = (1 : Nat) / (1 : Nat) := readR_of rfl
  have r3 : readR [51, 54, 48, 48] = (3600 : Nat) / (1 : Nat) := readR_of rfl
  rw [h, r1, r2, r3]
  have e : (1 : Rat) * ((((1000 : Nat) : Rat) / ((1 : Nat) : Rat)) * (((1 : Nat) : Rat) / ((1 : Nat) : Rat))) ^ (1 : Int) * (((3600 : Nat) : Rat) / ((1 : Nat) : Rat)) ^ (-1 : Int) = 5 / 18 := by
    rw [Rat.zpow_one, Rat.zpow_neg, Rat.zpow_one]
    simp
    grind
  have h2 : prodT 1 noPs [⟨(((1000 : Nat) : Rat) / ((1 : Nat) : Rat)) * (((1 : Nat) : Rat) / ((1 : Nat) : Rat)), [1, 0, 0, 0, 0, 0, 0], 1⟩, ⟨((3600 : Nat) : Rat) / ((1 : Nat) : Rat), [0, 0, 1, 0, 0, 0, 0], -1⟩] = mkT (1 * ((((1000 : Nat) : Rat) / ((1 : Nat) : Rat)) * (((1 : Nat) : Rat) / ((1 : Nat) : Rat))) ^ (1 : Int) * (((3600 : Nat) : Rat) / ((1 : Nat) : Rat)) ^ (-1 : Int)) [1, 0, -1, 0, 0, 0, 0] := rfl
  rw [h2, e, mkT_ok (by rw [txt_5_18]; decide) (by decide), txt_5_18]
end Go.Proofs.YtoegbjmoecbjdaaGreatDoor
namespace Go.Proofs.YtoegbjmoecbjdaaGreatDoor
open Go.RowKit Go.Lib Big
def RatIs (w : World) (x : Value) (q : Rat) (K : Nat) : Prop := ∃ s a b, RatAt w x s a b ∧ ratv s a b = q ∧ 0 < b ∧ a < B64 ^ K ∧ b < B64 ^ K
theorem RatIs.below {w w' : World} {x : Value} {q : Rat} {K : Nat} (h : RatIs w x q K) (hb : Below w.heap.size w w') : RatIs w' x q K := by
  obtain ⟨s, a, b, h1, h2⟩ := h
  exact ⟨s, a, b, h1.below hb, h2⟩
theorem RatIs.more {w : World} {x : Value} {q : Rat} {K M : Nat} (h : RatIs w x q K) (hM : K ≤ M) : RatIs w x q M := by
  obtain ⟨s, a, b, h1, h2, h3, h4, h5⟩ := h
  have := Nat.pow_le_pow_right B64_pos hM
  exact ⟨s, a, b, h1, h2, h3, by omega, by omega⟩
theorem RatIs.agg {w : World} {x : Value} {q : Rat} {K : Nat} (h : RatIs w x q K) : ∃ b p n c r m d, x = .agg #[.bool b, .slice p n c, .slice r m d] := by
  obtain ⟨s, a, b, ⟨u, v, rfl, hu, hv, -⟩, -⟩ := h
  obtain ⟨p, n, c, rfl⟩ := hu.slice
  obtain ⟨r, m, d, rfl⟩ := hv.slice
  exact ⟨_, _, _, _, _, _, _, rfl⟩
theorem ratAt_flag {w : World} {x : Value} {s : Bool} {a b : Nat} (h : RatAt w x s a b) : s = true → 0 < a := by
  obtain ⟨u, v, -, -, -, h⟩ := h; exact h
def IsPost (q : Rat) (K : Nat) (w : World) (e : Ending) (w' : World) : Prop := ∃ x, e = .returned x ∧ RatIs w' x q K ∧ Below w.heap.size w w'
theorem add_is (x y : Value) (p q : Rat) (K : Nat) (w : World) (hK : 2 * K + 1 ≤ 1073741824) (hx : RatIs w x p K) (hy : RatIs w y q K) : Calls Tryz.prog 79 #[x, y] w (IsPost (p + q) (2 * K + 1) w) := by
  obtain ⟨s, a, b, h1, rfl, h3, h4, h5⟩ := hx
  obtain ⟨t, c, d, k1, rfl, k3, k4, k5⟩ := hy
  refine (add_any x y s t a b c d K w hK h4 h5 k4 k5 h3 k3 h1 k1).mono ?_
  rintro e w' ⟨z, r, n, m, rfl, hz, hb, hm, hv, hn, hm2, -⟩
  exact ⟨z, rfl, ⟨r, n, m, hz, hv, hm, hn, hm2⟩, hb⟩
theorem sub_is (x y : Value) (p q : Rat) (K : Nat) (w : World) (hK : 2 * K + 1 ≤ 1073741824) (hx : RatIs w x p K) (hy : RatIs w y q K) : Calls Tryz.prog 75 #[x, y] w (IsPost (p - q) (2 * K + 1) w) := by
  obtain ⟨s, a, b, h1, rfl, h3, h4, h5⟩ := hx
  obtain ⟨t, c, d, k1, rfl, k3, k4, k5⟩ := hy
  refine (sub_any x y s t a b c d K w hK h4 h5 k4 k5 h3 k3 h1 k1).mono ?_
  rintro e w' ⟨z, r, n, m, rfl, hz, hb, hm, hv, hn, hm2⟩
  exact ⟨z, rfl, ⟨r, n, m, hz, hv, hm, hn, hm2⟩, hb⟩
theorem mul_lt2 {a b K : Nat} (ha : a < B64 ^ K) (hb : b < B64 ^ K) : a * b < B64 ^ (2 * K) := by
  rw [pow_two]
  exact Nat.mul_lt_mul'' ha hb
theorem mul_is (x y : Value) (p q : Rat) (K : Nat) (w : World) (hK : K ≤ 1073741824) (hx : RatIs w x p K) (hy : RatIs w y q K) : Calls Tryz.prog 81 #[x, y] w (IsPost (p * q) (2 * K) w) := by
  obtain ⟨s, a, b, h1, rfl, h3, h4, h5⟩ := hx
  obtain ⟨t, c, d, k1, rfl, k3, k4, k5⟩ := hy
  refine (mul_any x y s t a b c d K w hK h4 h5 k4 k5 h1 k1).mono ?_
  rintro e w' ⟨z, rfl, hz, hb⟩
  exact ⟨z, rfl, ⟨_, _, _, hz, by rw [ratv_drop, ratv_mul h3 k3], Nat.mul_pos h3 k3, mul_lt2 h4 k4, mul_lt2 h5 k5⟩, hb⟩
theorem ratv_zero_iff {s : Bool} {a b : Nat} (hb : 0 < b) : ratv s a b = 0 ↔ a = 0 := by
  have h1 := natCast_ne hb
  constructor
  · intro h
    unfold ratv at h
    apply Nat.eq_zero_of_not_pos
    intro ha
    have h2 := natCast_ne ha
    cases s
    · simp only [Bool.false_eq_true, if_false] at h; grind
    · simp only [if_true] at h; grind
  · rintro rfl
    unfold ratv
    cases s <;> simp <;> grind
theorem quo_is (x y : Value) (p q : Rat) (K : Nat) (w : World) (hK : K ≤ 1073741824) (hq : q ≠ 0) (hx : RatIs w x p K) (hy : RatIs w y q K) : Calls Tryz.prog 82 #[x, y] w (IsPost (p / q) (2 * K) w) := by
  obtain ⟨s, a, b, h1, rfl, h3, h4, h5⟩ := hx
  obtain ⟨t, c, d, k1, rfl, k3, k4, k5⟩ := hy
  have hc : 0 < c := by
    apply Nat.pos_of_ne_zero; intro h0; exact hq ((ratv_zero_iff k3).2 h0)
  refine (quo_any x y s t a b c d K w hK h4 h5 k4 k5 h1 k1).mono ?_
  rintro e w' ⟨z, rfl, hz, hb⟩
  exact ⟨z, rfl, ⟨_, _, _, hz, by rw [ratv_drop, ratv_quo h3 k3 hc], Nat.mul_pos h3 hc, mul_lt2 h4 k5, mul_lt2 h5 k4⟩, hb⟩
theorem qtext_is (x : Value) (q : Rat) (K : Nat) (w : World) (hK : K ≤ 1000000) (hx : RatIs w x q K) (htab : Tab w) : Calls Tryz.prog 64 #[x] w fun e w' => e = .returned (.string ⟨(txt q).toArray⟩) ∧ Below w.heap.size w w' := by
  obtain ⟨s, a, b, h1, rfl, h3, h4, h5⟩ := hx
  rw [← numText_txt h3 (ratAt_flag h1)]
  exact qtext_any x s a b K w hK h4 h5 h3 h1 htab
theorem readQ_lt {l : List UInt8} {s : Bool} {n d : Nat} (h : readQ l = some (s, n, d)) : n < B64 ^ 20 ∧ d < B64 ^ 20 ∧ 0 < d := by
  unfold readQ at h
  split at h
  · cases h
  · rename_i hl
    split at h
    · rename_i s0 n0 d0 hr
      split at h
      · cases h; exact readL_lt hr (by omega)
      · cases h
    · cases h
def NumPost (o : Option Rat) (w : World) (e : Ending) (w' : World) : Prop :=
  Below w.heap.size w w' ∧ ∃ b p n c q m d, e = .returned (.tuple #[.agg #[.bool b, .slice p n c, .slice q m d], .bool o.isSome]) ∧ ∀ r, o = some r → RatIs w' (.agg #[.bool b, .slice p n c, .slice q m d]) r 20
theorem qread_is (s : ByteArray) (w : World) (htab : Tab w) : Calls Tryz.prog 67 #[.string s] w (NumPost (num s.data.toList) w) := by
  refine (qread_c s w htab).mono fun e w' h => ⟨h.1, ?_⟩
  obtain ⟨-, b, p, n, c, q, m, d, he, hr⟩ := h
  unfold num
  cases hq : readQ s.data.toList with
  | none => rw [hq] at he; exact ⟨b, p, n, c, q, m, d, he, fun r h => by cases h⟩
  | some t =>
    obtain ⟨sg, x, y⟩ := t
    rw [hq] at he hr
    refine ⟨b, p, n, c, q, m, d, he, ?_⟩
    rintro r h
    cases h
    obtain ⟨h1, h2, h3⟩ := readQ_lt hq
    exact ⟨sg, x, y, hr _ _ _ rfl, rfl, h3, h1, h2⟩
theorem closure_is (x y : ByteArray) (g : Nat) (f : FuncId) (p q r : Rat) (K : Nat) (w : World) (hg : g < w.heap.size) (hcl : w.cell? ⟨g, 0, none⟩ = some (.func (.func f) #[] #[])) (hx : Hid (Calls Tryz.prog 67 #[.string x] w (NumPost (some p) w))) (hy : ∀ W, Below w.heap.size w W → Hid (Calls Tryz.prog 67 #[.string y] W (NumPost (some q) W)))
    (hent : ∀ args W, (callFunc f args).run Tryz.prog W = .ok (.enter f args) W) (hop : ∀ W u v, Below w.heap.size w W → RatIs W u p 20 → RatIs W v q 20 → Hid (Calls Tryz.prog f #[u, v] W (IsPost r K W)))
    (ht : ∀ W z, Below w.heap.size w W → RatIs W z r K → Hid (Calls Tryz.prog 64 #[z] W fun e w' => e = .returned (.string ⟨(txt r).toArray⟩) ∧ Below W.heap.size W w')) : Calls Tryz.prog 126 #[.string x, .string y, .pointer (some ⟨g, 0, none⟩)] w fun e w' => e = .returned (.string ⟨(txt r).toArray⟩) ∧ Below w.heap.size w w' := by
  have Hcl := hiD hcl
  have Hg := hiD hg
  clear hcl hg
  go_enter Tryz.func126, Tryz.ntmps126
  go_wp2_with fail
  refine hx.out.mono ?_
  rintro e w2 ⟨hb2, b1, p1, n1, c1, q1, m1, d1, rfl, hr1⟩
  have hbw := hiD (hb2.trans ((bea w2 (.cells #[.bool b1, .slice p1 n1 c1, .slice q1 m1 d1] 66)).mono hb2.size))
  have hR1 := hiD ((hr1 _ rfl).below (bea w2 (.cells #[.bool b1, .slice p1 n1 c1, .slice q1 m1 d1] 66)))
  have hb1 := hiD (heap_new w2 (.cells #[.bool b1, .slice p1 n1 c1, .slice q1 m1 d1] 66))
  have hy2 := hy _ hbw.out
  clear hb2 hy hr1
  go_wp2_with fail
  refine hy2.out.mono ?_
  rintro e w3 ⟨hb3, b', p', n', c', q', m', d', rfl, hr3⟩
  have hbw3 := hiD (hbw.out.trans (hb3.mono hbw.out.size))
  have hbw4 := hiD (hbw3.out.trans ((bea w3 (.cells #[.bool b', .slice p' n' c', .slice q' m' d'] 66)).mono hbw3.out.size))
  have hA := hiD (bea w3 (.cells #[.bool b', .slice p' n' c', .slice q' m' d'] 66))
  have hR3 := hiD ((hr3 _ rfl).below hA.out)
  have hR2 := hiD ((hR1.out.below hb3).below hA.out)
  have hbox := (hb3.trans (hA.out.mono hb3.size)).block w2.heap.size (by simp)
  have hbx := hbox.trans hb1.out
  have e0 := ceh hbx 0
  have e1 := ceh hbx 1
  have e2 := ceh hbx 2
  have hcl4 := (hbw4.out.cell (p := ⟨g, 0, none⟩) Hg.out).trans Hcl.out
  have hop4 := hop _ _ _ hbw4.out hR2.out hR3.out
  clear hb3 hy2 hr3 hbox hbx hop
  go_wp2_with fail
  refine hop4.out.mono ?_
  rintro e w5 ⟨z, rfl, hz, hb5⟩
  have hbw5 := hiD (hbw4.out.trans (hb5.mono hbw4.out.size))
  have ht5 := ht _ _ hbw5.out hz
  clear hb5 hz ht hop4
  go_wp2_with fail
  refine ht5.out.mono ?_
  rintro e w6 ⟨rfl, hb6⟩
  have hbw6 := hiD (hbw5.out.trans (hb6.mono hbw5.out.size))
  clear hb6
  go_wp2_with fail
  go_ret
  exact ⟨rfl, hbw6.out⟩
theorem closure_any (x y : ByteArray) (g : Nat) (f : FuncId) (F : Rat → Rat → Rat) (K : Nat) (w : World) (hK : K ≤ 1000000) (hg : g < w.heap.size) (hcl : w.cell? ⟨g, 0, none⟩ = some (.func (.func f) #[] #[])) (htab : Tab w)
    (hent : ∀ args W, (callFunc f args).run Tryz.prog W = .ok (.enter f args) W) (hop : ∀ W u v p q, num x.data.toList = some p → num y.data.toList = some q → Below w.heap.size w W → RatIs W u p 20 → RatIs W v q 20 → Calls Tryz.prog f #[u, v] W (IsPost (F p q) K W)) :
    Calls Tryz.prog 126 #[.string x, .string y, .pointer (some ⟨g, 0, none⟩)] w fun e w' => e = .returned (.string ⟨(opT F x.data.toList y.data.toList).toArray⟩) ∧ Below w.heap.size w w' := by
  have hx := qread_c x w htab
  have hx' := qread_is x w htab
  have hy := fun W (hb : Below w.heap.size w W) => qread_c y W (htab.below hb)
  have hy' := fun W (hb : Below w.heap.size w W) => qread_is y W (htab.below hb)
  cases hnx : num x.data.toList with
  | none =>
    have hr : readQ x.data.toList = none := by unfold num at hnx; simpa using hnx
    rw [hr] at hx
    rw [opT_none1 hnx]
    exact closure_bad1 x y _ w (hiD hx)
  | some p =>
    cases hny : num y.data.toList with
    | none =>
      have hr : readQ y.data.toList = none := by unfold num at hny; simpa using hny
      obtain ⟨t, ht⟩ : ∃ t, readQ x.data.toList = some t := by
        unfold num at hnx
        rw [Option.map_eq_some_iff] at hnx
        obtain ⟨t, h, -⟩ := hnx; exact ⟨t, h⟩
      rw [ht] at hx
      rw [opT_none2 hny]
      refine closure_bad2 x y _ t w (hiD hx) fun W hb => hiD ?_
      have := hy W hb
      rwa [hr] at this
    | some q =>
      rw [opT_some hnx hny]
      rw [hnx] at hx'
      refine closure_is x y g f p q (F p q) K w hg hcl (hiD hx') (fun W hb => hiD ?_) hent (fun W u v hb hu hv => hiD (hop W u v p q hnx hny hb hu hv)) fun W z hb hz => hiD (qtext_is z _ K W hK hz (htab.below hb))
      have := hy' W hb
      rwa [hny] at this
def TxtPost (l : List UInt8) (w : World) (e : Ending) (w' : World) : Prop := e = .returned (.string ⟨l.toArray⟩) ∧ Below w.heap.size w w'
theorem closure_from (x y : ByteArray) (f : FuncId) (F : Rat → Rat → Rat) (K : Nat) (w : World) (hK : K ≤ 1000000) (htab : Tab w)
    (hent : ∀ args W, (callFunc f args).run Tryz.prog W = .ok (.enter f args) W) (hop : ∀ W u v p q, num x.data.toList = some p → num y.data.toList = some q → Below w.heap.size w W → RatIs W u p 20 → RatIs W v q 20 → Calls Tryz.prog f #[u, v] W (IsPost (F p q) K W)) :
    Calls Tryz.prog 126 #[.string x, .string y, .pointer (some ⟨w.heap.size, 0, none⟩)] (w.alloc (.cells #[.func (.func f) #[] #[]] 85)) (TxtPost (opT F x.data.toList y.data.toList) w) := by
  have hb := bea w (.cells #[.func (.func f) #[] #[]] 85)
  refine (closure_any x y w.heap.size f F K (w.alloc (.cells #[.func (.func f) #[] #[]] 85)) hK (by simp) ?_ (htab.below hb) hent fun W u v p q h1 h2 h3 h4 h5 => hop W u v p q h1 h2 (hb.trans (h3.mono hb.size)) h4 h5).mono ?_
  · exact ceh (heap_new w _) 0
  · rintro e w' ⟨he, hb2⟩
    exact ⟨he, hb.trans (hb2.mono hb.size)⟩
theorem add_q (x y : ByteArray) (w : World) (htab : Tab w) : Calls Tryz.prog 26 #[.string x, .string y] w (TxtPost (opT (· + ·) x.data.toList y.data.toList) w) := by
  have hcl := hiD (closure_from x y 79 (· + ·) 41 w (by omega) htab (fun args W => by kernel_rfl) fun W u v p q _ _ _ hu hv => add_is u v p q 20 W (by omega) hu hv)
  generalize opT (· + ·) x.data.toList y.data.toList = l at hcl ⊢
  clear htab
  go_enter Tryz.func26, Tryz.ntmps26
  go_wp2_with fail
  refine (onTexts_any 79 w).mono ?_
  rintro e w1 ⟨rfl, rfl⟩
  go_wp2_with fail
  refine hcl.out.mono ?_
  rintro e w2 ⟨rfl, hb⟩
  have Hb := hiD hb
  clear hb
  go_wp2_with fail
  go_ret
  exact ⟨rfl, Hb.out⟩
theorem sub_q (x y : ByteArray) (w : World) (htab : Tab w) : Calls Tryz.prog 28 #[.string x, .string y] w (TxtPost (opT (· - ·) x.data.toList y.data.toList) w) := by
  have hcl := hiD (closure_from x y 75 (· - ·) 41 w (by omega) htab (fun args W => by kernel_rfl) fun W u v p q _ _ _ hu hv => sub_is u v p q 20 W (by omega) hu hv)
  generalize opT (· - ·) x.data.toList y.data.toList = l at hcl ⊢
  clear htab
  go_enter Tryz.func28, Tryz.ntmps28
  go_wp2_with fail
  refine (onTexts_any 75 w).mono ?_
  rintro e w1 ⟨rfl, rfl⟩
  go_wp2_with fail
  refine hcl.out.mono ?_
  rintro e w2 ⟨rfl, hb⟩
  have Hb := hiD hb
  clear hb
  go_wp2_with fail
  go_ret
  exact ⟨rfl, Hb.out⟩
theorem toList_beq (y : ByteArray) (l : List UInt8) : (y.toList == l) = decide (y.data.toList = l) := by
  rw [Lib.toList_data]
  by_cases h : y.data.toList = l
  · rw [decide_eq_true h]; simpa using h
  · rw [decide_eq_false h, beq_eq_false_iff_ne]; simpa using h
theorem sign_is (x : Value) (q : Rat) (K : Nat) (w : World) (hx : RatIs w x q K) : Calls Tryz.prog 76 #[x] w fun e w' => e = .returned (.int .i64 (sgnR q)) ∧ Below w.heap.size w w' := by
  obtain ⟨s, a, b, h1, rfl, h3, h4, h5⟩ := hx
  have e : sgn s a = sgnR (ratv s a b) := by
    obtain ⟨g1, g2, g3⟩ := ratv_num h3 (ratAt_flag h1)
    have hz := ratv_zero_iff (s := s) (a := a) h3
    unfold sgn sgnR
    have hn : (ratv s a b < 0) ↔ (ratv s a b).num < 0 := by have := Rat.num_nonneg (q := ratv s a b); grind
    cases s
    · rw [decide_eq_false_iff_not] at g1
      rw [if_neg (by simp), if_neg (fun h => g1 (hn.1 h))]
      by_cases ha : a = 0
      · rw [if_pos ha, if_pos (hz.2 ha)]
      · rw [if_neg ha, if_neg (fun h => ha (hz.1 h))]
    · rw [decide_eq_true_iff] at g1
      rw [if_pos rfl, if_pos (hn.2 g1)]
  rw [← e]
  exact sign_any x s a b w h1
def CmpTPost (c : Int × Bool) (w : World) (e : Ending) (w' : World) : Prop := e = .returned (.tuple #[.int .i64 c.1, .bool c.2]) ∧ Below w.heap.size w w'
theorem compare_bad1 (x y : ByteArray) (w : World) (hx : Hid (Calls Tryz.prog 67 #[.string x] w (NumPost none w))) : Calls Tryz.prog 24 #[.string x, .string y] w (CmpTPost (0, false) w) := by
  go_enter Tryz.func24, Tryz.ntmps24
  go_wp2_with fail
  refine hx.out.mono ?_
  rintro e w2 ⟨hb2, b, p, n, c, q, m, d, rfl, -⟩
  have hbw := hiD (hb2.trans ((bea w2 (.cells #[.bool b, .slice p n c, .slice q m d] 66)).mono hb2.size))
  clear hb2
  go_wp2_with fail
  go_ret2
  exact ⟨rfl, hbw.out⟩
theorem compare_bad2 (x y : ByteArray) (r : Rat) (w : World) (hx : Hid (Calls Tryz.prog 67 #[.string x] w (NumPost (some r) w))) (hy : ∀ W, Below w.heap.size w W → Hid (Calls Tryz.prog 67 #[.string y] W (NumPost none W))) : Calls Tryz.prog 24 #[.string x, .string y] w (CmpTPost (0, false) w) := by
  go_enter Tryz.func24, Tryz.ntmps24
  go_wp2_with fail
  refine hx.out.mono ?_
  rintro e w2 ⟨hb2, b, p, n, c, q, m, d, rfl, -⟩
  have hbw := hiD (hb2.trans ((bea w2 (.cells #[.bool b, .slice p n c, .slice q m d] 66)).mono hb2.size))
  have hy2 := hy _ hbw.out
  clear hb2 hy
  go_wp2_with fail
  refine hy2.out.mono ?_
  rintro e w3 ⟨hb3, b', p', n', c', q', m', d', rfl, -⟩
  have hbw3 := hiD (hbw.out.trans (hb3.mono hbw.out.size))
  have hbw4 := hiD (hbw3.out.trans ((bea w3 (.cells #[.bool b', .slice p' n' c', .slice q' m' d'] 66)).mono hbw3.out.size))
  clear hb3
  go_wp2_with fail
  go_ret2
  exact ⟨rfl, hbw4.out⟩
theorem compare_ok (x y : ByteArray) (p q : Rat) (w : World) (hx : Hid (Calls Tryz.prog 67 #[.string x] w (NumPost (some p) w))) (hy : ∀ W, Below w.heap.size w W → Hid (Calls Tryz.prog 67 #[.string y] W (NumPost (some q) W))) : Calls Tryz.prog 24 #[.string x, .string y] w (CmpTPost (sgnR (p - q), true) w) := by
  have hop : Hid (∀ W u v, RatIs W u p 20 → RatIs W v q 20 → Calls Tryz.prog 75 #[u, v] W (IsPost (p - q) 41 W)) := hiD fun W u v hu hv => sub_is u v p q 20 W (by omega) hu hv
  have hsg : Hid (∀ W z, RatIs W z (p - q) 41 → Calls Tryz.prog 76 #[z] W fun e w' => e = .returned (.int .i64 (sgnR (p - q))) ∧ Below W.heap.size W w') := hiD fun W z hz => sign_is z (p - q) 41 W hz
  generalize sgnR (p - q) = c at hsg ⊢
  go_enter Tryz.func24, Tryz.ntmps24
  go_wp2_with fail
  refine hx.out.mono ?_
  rintro e w2 ⟨hb2, b1, p1, n1, c1, q1, m1, d1, rfl, hr1⟩
  have hbw := hiD (hb2.trans ((bea w2 (.cells #[.bool b1, .slice p1 n1 c1, .slice q1 m1 d1] 66)).mono hb2.size))
  have hR1 := hiD ((hr1 _ rfl).below (bea w2 (.cells #[.bool b1, .slice p1 n1 c1, .slice q1 m1 d1] 66)))
  have hb1 := hiD (heap_new w2 (.cells #[.bool b1, .slice p1 n1 c1, .slice q1 m1 d1] 66))
  have hy2 := hy _ hbw.out
  clear hb2 hy hr1
  go_wp2_with fail
  refine hy2.out.mono ?_
  rintro e w3 ⟨hb3, b', p', n', c', q', m', d', rfl, hr3⟩
  have hbw3 := hiD (hbw.out.trans (hb3.mono hbw.out.size))
  have hbw4 := hiD (hbw3.out.trans ((bea w3 (.cells #[.bool b', .slice p' n' c', .slice q' m' d'] 66)).mono hbw3.out.size))
  have hA := hiD (bea w3 (.cells #[.bool b', .slice p' n' c', .slice q' m' d'] 66))
  have hR3 := hiD ((hr3 _ rfl).below hA.out)
  have hR2 := hiD ((hR1.out.below hb3).below hA.out)
  have hbox := (hb3.trans (hA.out.mono hb3.size)).block w2.heap.size (by simp)
  have hbx := hbox.trans hb1.out
  have e0 := ceh hbx 0
  have e1 := ceh hbx 1
  have e2 := ceh hbx 2
  have hop4 := hiD (hop.out _ _ _ hR2.out hR3.out)
  clear hb3 hy2 hr3 hbox hbx
  go_wp2_with fail
  refine hop4.out.mono ?_
  rintro e w5 ⟨z, rfl, hz, hb5⟩
  have hbw5 := hiD (hbw4.out.trans (hb5.mono hbw4.out.size))
  have ht5 := hiD (hsg.out _ _ hz)
  clear hb5 hz hop4
  go_wp2_with fail
  refine ht5.out.mono ?_
  rintro e w6 ⟨rfl, hb6⟩
  have hbw6 := hiD (hbw5.out.trans (hb6.mono hbw5.out.size))
  clear hb6
  go_wp2_with fail
  go_ret2
  exact ⟨rfl, hbw6.out⟩
theorem compare_q (x y : ByteArray) (w : World) (htab : Tab w) : Calls Tryz.prog 24 #[.string x, .string y] w (CmpTPost (cmpT x.data.toList y.data.toList) w) := by
  have hx := qread_is x w htab
  have hy := fun W (hb : Below w.heap.size w W) => qread_is y W (htab.below hb)
  unfold cmpT
  cases hnx : num x.data.toList with
  | none => rw [hnx] at hx; exact compare_bad1 x y w (hiD hx)
  | some p =>
    rw [hnx] at hx
    cases hny : num y.data.toList with
    | none => rw [hny] at hy; exact compare_bad2 x y p w (hiD hx) fun W hb => hiD (hy W hb)
    | some q => rw [hny] at hy; exact compare_ok x y p q w (hiD hx) fun W hb => hiD (hy W hb)
theorem One.drew {B : Nat} {s : Bool} {u1 v1 : Value} {w0 W : World} (h : One B s u1 v1 w0 W) : One B s u1 v1 w0 W.drew := ⟨h.size, h.below.drew, h.x, h.z⟩
theorem One.all {B : Nat} {s : Bool} {u1 v1 : Value} {w0 W : World} (h : One B s u1 v1 w0 W) : One B s u1 v1 w0 W ∧ W.cell? ⟨B, 0, none⟩ = some (.bool s) ∧ W.cell? ⟨B, 1, none⟩ = some u1 ∧ W.cell? ⟨B, 2, none⟩ = some v1 := ⟨h, h.cells⟩
theorem pow_pos (u1 v1 : Value) (a b E K : Nat) (w : World) (hE : E ≤ 1000000) (hK : K * E + 1 + K ≤ most) (ha : a < B64 ^ K) (hb : b < B64 ^ K) (hu1 : NatAt w u1 a) (hv1 : NatAt w v1 b) :
    Calls Tryz.prog 102 #[.agg #[.bool false, u1, v1], .int .i64 E] w (RatPost false (a ^ E) (b ^ E) w) := by
  have hm1 : Hid (∀ W, Below w.heap.size w W → Calls Tryz.prog 146 #[u1, .int .i64 E] W (NatPost (a ^ E) W)) := hiD fun W h => power_any u1 a E K W hK hE ha (hu1.below h)
  have hm2 : Hid (∀ W, Below w.heap.size w W → Calls Tryz.prog 146 #[v1, .int .i64 E] W (NatPost (b ^ E) W)) := hiD fun W h => power_any v1 b E K W hK hE hb (hv1.below h)
  have hone := One.start w false u1 v1
  have Hone := hiD hone
  obtain ⟨-, c0, c1, c2⟩ := hone.all
  have hdec : decide ((E : Int) < 0) = false := by simp
  clear hone hu1 hv1 ha hb hK
  generalize a ^ E = n at hm1 ⊢
  generalize b ^ E = m at hm2 ⊢
  go_enter Tryz.func102, Tryz.ntmps102
  go_wp2_with fail
  clear c0 c1 c2
  refine wp_region_held_drew (S := fun w' => One w.heap.size false u1 v1 w w' ∧ w'.cell? ⟨w.heap.size, 0, none⟩ = some (.bool false) ∧ w'.cell? ⟨w.heap.size, 1, none⟩ = some u1 ∧ w'.cell? ⟨w.heap.size, 2, none⟩ = some v1) (by kernel_rfl) (One.all (One.drew Hone.out)) (fun hHeld => ?_)
  refine wpAnyH_take (i := 0) (v := (.pointer (some ⟨w.heap.size, 0, none⟩))) rfl (by kernel_rfl) (by kernel_rfl) (by kernel_rfl) (fun _ _ _ h => h) (Or.inl ⟨by rfl, by intro W hSw; clear hHeld; go_split_ands; go_simp⟩) (by assumption) ?_
  simp only [Act.put, List.setIfInBounds_toArray]
  refine wpAnyH_take (i := 1) (v := (.bool false)) rfl (by kernel_rfl) (by kernel_rfl) (by kernel_rfl) (fun _ _ _ h => h) (Or.inl ⟨by rfl, by intro W hSw; clear hHeld; go_split_ands; go_simp⟩) (by assumption) ?_
  simp only [Act.put]
  refine wpAnyH_take (i := 2) (v := (.bool false)) rfl (by kernel_rfl) (by kernel_rfl) (by kernel_rfl) (fun _ _ _ h => h) (Or.inl ⟨by rfl, by intro W hSw; clear hHeld; go_split_ands; go_simp⟩) (by assumption) ?_
  simp only [Act.put]
  refine wpAnyH_take (i := 3) (v := undef) rfl (by kernel_rfl) (by kernel_rfl) (by kernel_rfl) (fun _ _ _ h => h) (Or.inr ⟨by rfl, rfl⟩) (by assumption) ?_
  simp only [Act.put]
  refine wpAnyH_take (i := 4) (v := undef) rfl (by kernel_rfl) (by kernel_rfl) (by kernel_rfl) (fun _ _ _ h => h) (Or.inr ⟨by rfl, rfl⟩) (by assumption) ?_
  simp only [Act.put]
  refine wpAnyH_take (i := 5) (v := undef) rfl (by kernel_rfl) (by kernel_rfl) (by kernel_rfl) (fun _ _ _ h => h) (Or.inr ⟨by rfl, rfl⟩) (by assumption) ?_
  simp only [Act.put]
  refine wpAnyH_take (i := 6) (v := (.bool false)) rfl (by kernel_rfl) (by kernel_rfl) (by kernel_rfl) (fun _ _ _ h => h) (Or.inl ⟨by rfl, by intro W hSw; clear hHeld; go_split_ands; go_simp⟩) (by assumption) ?_
  simp only [Act.put]
  refine wpAnyH_take (i := 7) (v := (.pointer (some ⟨w.heap.size, 1, none⟩))) rfl (by kernel_rfl) (by kernel_rfl) (by kernel_rfl) (fun _ _ _ h => h) (Or.inl ⟨by rfl, by intro W hSw; clear hHeld; go_split_ands; go_simp⟩) (by assumption) ?_
  simp only [Act.put]
  refine wpAnyH_take (i := 8) (v := u1) rfl (by kernel_rfl) (by kernel_rfl) (by kernel_rfl) (fun _ _ _ h => h) (Or.inl ⟨by rfl, by intro W hSw; clear hHeld; go_split_ands; go_simp⟩) (by assumption) ?_
  simp only [Act.put]
  refine wpAnyH_take (i := 9) (v := (.int .i64 E)) rfl (by kernel_rfl) (by kernel_rfl) (by kernel_rfl) (fun _ _ _ h => h) (Or.inl ⟨by rfl, by intro W hSw; clear hHeld; go_split_ands; go_simp⟩) (by assumption) ?_
  simp only [Act.put]
  refine wpAnyH_take (i := 11) (v := (.pointer (some ⟨w.heap.size, 2, none⟩))) rfl (by kernel_rfl) (by kernel_rfl) (by kernel_rfl) (fun _ _ _ h => h) (Or.inl ⟨by rfl, by intro W hSw; clear hHeld; go_split_ands; go_simp⟩) (by assumption) ?_
  simp only [Act.put]
  refine wpAnyH_take (i := 12) (v := v1) rfl (by kernel_rfl) (by kernel_rfl) (by kernel_rfl) (fun _ _ _ h => h) (Or.inl ⟨by rfl, by intro W hSw; clear hHeld; go_split_ands; go_simp⟩) (by assumption) ?_
  simp only [Act.put]
  refine wpAnyH_take (i := 13) (v := (.int .i64 E)) rfl (by kernel_rfl) (by kernel_rfl) (by kernel_rfl) (fun _ _ _ h => h) (Or.inl ⟨by rfl, by intro W hSw; clear hHeld; go_split_ands; go_simp⟩) (by assumption) ?_
  simp only [Act.put]
  refine wpAnyH_ready (rs := [10]) (by kernel_rfl) (by simp) ?_
  refine AllReadyH.cons (i := 10) rfl (fun K hK => ?_) AllReadyH.nil
  go_simp
  refine (hm1.out _ hHeld.1.below).mono ?_
  rintro e w1 ⟨vt, rfl, hvt, hb1⟩
  obtain ⟨pt, nt, ct, rfl⟩ := hvt.slice
  go_simp
  refine hK.out _ _ (One.all (One.next hHeld.1 hb1)) (fun hHeld => ?_)
  clear hK K
  refine wpAnyH_ready (rs := [14]) (by kernel_rfl) (by simp) ?_
  refine AllReadyH.cons (i := 14) rfl (fun K hK => ?_) AllReadyH.nil
  go_simp
  refine (hm2.out _ hHeld.1.below).mono ?_
  rintro e w2 ⟨vb, rfl, hvb, hb2⟩
  obtain ⟨pb, nb, cb, rfl⟩ := hvb.slice
  go_simp
  refine hK.out _ _ (One.all (One.next hHeld.1 hb2)) (fun hHeld => ?_)
  clear hK K
  refine wpAnyH_ready (rs := [15]) (by kernel_rfl) (by simp) ?_
  refine AllReadyH.cons (i := 15) rfl (fun K hK => ?_) AllReadyH.nil
  go_simp
  refine (signed_nat _ _ _ _ _ _ (hvt.below hb2) hvb).mono ?_
  rintro e w3 ⟨rfl, hb3⟩
  have htw := One.next hHeld.1 hb3
  obtain ⟨z0, z1, z2, k0, k1, k2, f0, f1, f2⟩ := One.slots htw
  go_simp
  refine hK.out _ _ (One.all htw) (fun hHeld => ?_)
  clear hK K
  refine wpAnyH_ready (rs := [16]) (by kernel_rfl) (by simp) ?_
  refine AllReadyH.cons (i := 16) rfl (fun K hK => ?_) AllReadyH.nil
  go_simp
  refine hK.out _ _ (One.all (One.put3 htw (Nat.le_refl _) _ _ _ _ _ _ _)) (fun hHeld => ?_)
  clear hK K
  refine wpAnyH_done (by kernel_rfl) ?_ _
  go_wp2_with fail
  have q1 := htw.nat3 (Nat.le_refl _) ((hvt.below hb2).below hb3) false pt pb nt ct nb cb
  have q2 := htw.nat3 (Nat.le_refl _) (hvb.below hb3) false pt pb nt ct nb cb
  have q3 := (htw.put3 (Nat.le_refl _) false pt pb nt ct nb cb).below
  have hfin : Hid (∀ W, W = (((w3.setCell ⟨w.heap.size + 1, 0, none⟩ (.bool false)).setCell ⟨w.heap.size + 1, 1, none⟩ (.slice pt nt ct)).setCell ⟨w.heap.size + 1, 2, none⟩ (.slice pb nb cb)) → RatPost false n m w (.returned (.agg #[.bool false, .slice pt nt ct, .slice pb nb cb])) W) := hiD (by
    rintro W rfl
    exact ⟨_, rfl, ⟨_, _, rfl, q1, q2, by intro h; simp at h⟩, q3⟩)
  refine bodyPost_ret (v := .agg #[.bool false, .slice pt nt ct, .slice pb nb cb]) (by simp [results, Tryz.results102, go_sem, k0, k1, k2]) rfl ?_
  exact hfin.out _ rfl
theorem pow_neg (u1 v1 : Value) (a b E K : Nat) (f : Bool) (hf : ((E : Int).tmod 2 == 1) = f) (w : World) (hE : E ≤ 1000000) (hK : K * E + 1 + K ≤ most) (ha : a < B64 ^ K) (hb : b < B64 ^ K) (hu1 : NatAt w u1 a) (hv1 : NatAt w v1 b) :
    Calls Tryz.prog 102 #[.agg #[.bool true, u1, v1], .int .i64 E] w (RatPost f (a ^ E) (b ^ E) w) := by
  have hm1 : Hid (∀ W, Below w.heap.size w W → Calls Tryz.prog 146 #[u1, .int .i64 E] W (NatPost (a ^ E) W)) := hiD fun W h => power_any u1 a E K W hK hE ha (hu1.below h)
  have hm2 : Hid (∀ W, Below w.heap.size w W → Calls Tryz.prog 146 #[v1, .int .i64 E] W (NatPost (b ^ E) W)) := hiD fun W h => power_any v1 b E K W hK hE hb (hv1.below h)
  have hone := One.start w true u1 v1
  have Hone := hiD hone
  obtain ⟨-, c0, c1, c2⟩ := hone.all
  have hdec : decide ((E : Int) < 0) = false := by simp
  clear hone hu1 hv1 ha hb hK
  generalize a ^ E = n at hm1 ⊢
  generalize b ^ E = m at hm2 ⊢
  go_enter Tryz.func102, Tryz.ntmps102
  go_wp2_with fail
  go_region_held3 (fun w' => One w.heap.size true u1 v1 w w' ∧ w'.cell? ⟨w.heap.size, 0, none⟩ = some (.bool true) ∧ w'.cell? ⟨w.heap.size, 1, none⟩ = some u1 ∧ w'.cell? ⟨w.heap.size, 2, none⟩ = some v1)
    (first | exact One.all (One.drew Hone.out) | exact One.all Hone.out | (go_split_ands; exact One.all (One.next (by assumption) hb1)) | (go_split_ands; exact One.all (One.next (by assumption) hb2)) | (go_split_ands; exact One.all (One.next (by assumption) hb3)) | (go_split_ands; exact One.all (One.put3 (by assumption) (Nat.le_refl _) _ _ _ _ _ _ _)) | go_keep)
    (first | (go_at_call_of 146 u1; go_split_ands; refine (hm1.out _ (One.below (by assumption))).mono ?_; rintro e w1 ⟨vt, rfl, hvt, hb1⟩; obtain ⟨pt, nt, ct, rfl⟩ := hvt.slice) | (go_at_call_of 146 v1; go_split_ands; refine (hm2.out _ (One.below (by assumption))).mono ?_; rintro e w2 ⟨vb, rfl, hvb, hb2⟩; obtain ⟨pb, nb, cb, rfl⟩ := hvb.slice) | (go_at_call 129; go_split_ands; refine (signed_nat _ _ _ _ _ _ (NatAt.below (by assumption) (by assumption)) (by assumption)).mono ?_; rintro e w3 ⟨rfl, hb3⟩; have htw := One.next (by assumption) hb3; obtain ⟨z0, z1, z2, k0, k1, k2, f0, f1, f2⟩ := One.slots htw))
  go_wp2_with fail
  have q1 := htw.nat3 (Nat.le_refl _) ((hvt.below hb2).below hb3) (f && !(n == 0)) pt pb nt ct nb cb
  have q2 := htw.nat3 (Nat.le_refl _) (hvb.below hb3) (f && !(n == 0)) pt pb nt ct nb cb
  have q3 := (htw.put3 (Nat.le_refl _) (f && !(n == 0)) pt pb nt ct nb cb).below
  have hfin : Hid (∀ W, W = (((w3.setCell ⟨w.heap.size + 1, 0, none⟩ (.bool (f && !(n == 0)))).setCell ⟨w.heap.size + 1, 1, none⟩ (.slice pt nt ct)).setCell ⟨w.heap.size + 1, 2, none⟩ (.slice pb nb cb)) → RatPost f n m w (.returned (.agg #[.bool (f && !(n == 0)), .slice pt nt ct, .slice pb nb cb])) W) := hiD (by
    rintro W rfl
    exact ⟨_, rfl, ⟨_, _, rfl, q1, q2, by intro h; simp at h; omega⟩, q3⟩)
  refine bodyPost_ret (v := .agg #[.bool (f && !(n == 0)), .slice pt nt ct, .slice pb nb cb]) (by simp [results, Tryz.results102, go_sem, k0, k1, k2]) rfl ?_
  exact hfin.out _ rfl
end Go.Proofs.YtoegbjmoecbjdaaGreatDoor
