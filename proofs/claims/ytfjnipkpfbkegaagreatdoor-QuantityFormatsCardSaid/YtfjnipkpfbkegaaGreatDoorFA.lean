/- The text of a unit, and that it is read as the unit. -/
import Derived.Test.YtfjnipkpfbkegaaGreatDoorXTA
import Derived.Test.YtfjnipkpfbkegaaGreatDoorXTC
import Derived.Lib.Join
set_option maxRecDepth 100000
namespace Go.Proofs.YtfjnipkpfbkegaaGreatDoor
open Go.Lib Big
def nameT : Nat → List UInt8
  | 0 => [109]
  | 1 => [107, 103]
  | 2 => [115]
  | 3 => [75]
  | 4 => [109, 111, 108]
  | 5 => [65]
  | _ => [99, 100]
def wordP (i : Nat) (p : Int) : List (List UInt8) := if p = 0 then [] else if p = 1 then [nameT i] else [nameT i ++ (94 :: itoa p)]
def wordsP : Nat → List Int → List (List UInt8)
  | _, [] => []
  | i, p :: r => wordP i p ++ wordsP (i + 1) r
def headT (f : List UInt8) (ps : List Int) : List (List UInt8) := if f == [49] && !(ps == noPs) then [] else [f]
def wordsT (u : UnitT) : List (List UInt8) := headT u.f u.ps ++ wordsP 0 u.ps
def fmtT (u : UnitT) : List UInt8 × Int := if plainT u then (join (wordsT u) [32], 0) else ([], 10)
def Tail (r : List UInt8) : Prop := r = [] ∨ ∃ t, r = 32 :: t
def WordOk (w : List UInt8) (f : FacT) : Prop := (∃ c t, w = c :: t ∧ c ≠ 100) ∧ ∀ r, Tail r → factorT (w ++ r) = some (f, w.length)
theorem takeW_app {p : UInt8 → Bool} {a r : List UInt8} (h : a.all p = true) (hr : ∀ c t, r = c :: t → p c = false) : (a ++ r).takeWhile p = a := by
  induction a with
  | nil =>
    cases r with
    | nil => rfl
    | cons c t => simp [hr c t rfl]
  | cons b a ih =>
    simp only [List.all_cons, Bool.and_eq_true] at h
    simp only [List.cons_append]
    rw [List.takeWhile_cons, if_pos h.1, ih h.2]
theorem cntD_app {a r : List UInt8} (h : a.all isDig = true) (hr : ∀ c t, r = c :: t → isDig c = false) : cntD (a ++ r) = a.length := by
  unfold cntD; rw [takeW_app h hr]
theorem cntL_app {a r : List UInt8} (h : a.all isLet = true) (hr : ∀ c t, r = c :: t → isLet c = false) : cntL (a ++ r) = a.length := by
  unfold cntL; rw [takeW_app h hr]
theorem tail_dig {r : List UInt8} (h : Tail r) : ∀ c t, r = c :: t → isDig c = false := by
  rintro c t rfl
  rcases h with h | ⟨s, h⟩
  · cases h
  · cases h; rfl
theorem tail_let {r : List UInt8} (h : Tail r) : ∀ c t, r = c :: t → isLet c = false := by
  rintro c t rfl
  rcases h with h | ⟨s, h⟩
  · cases h
  · cases h; rfl
theorem parse_num {f : List UInt8} {q : Rat} (h : num f = some q) : parseT f = (f, 0) := by
  have hl := num_len h
  have ht := txt_num h
  have hne : f ≠ [] := by rintro rfl; rw [num_nil] at h; cases h
  unfold parseT
  rw [if_neg (by omega)]
  unfold num at h
  rw [Option.map_eq_some_iff] at h
  obtain ⟨⟨s, n, d⟩, h1, h0⟩ := h
  unfold readQ at h1
  split at h1
  · cases h1
  · split at h1
    · rename_i s0 n0 d0 hr
      split at h1
      · cases h1
        rw [hr]
        simp only at h0 ⊢
        rw [ratv_drop] at h0
        rw [h0, ht, if_neg hne]
      · cases h1
    · cases h1
theorem word_num {f : List UInt8} {q : Rat} (h : num f = some q) (hq : 0 < q) : WordOk f ⟨q, noPs, 1⟩ := by
  have hw := num_wrote h
  have hn : decide (q.num < 0) = false := by have := Rat.num_nonneg.2 (Rat.le_of_lt hq); simpa using this
  rw [hn] at hw
  simp only [Bool.false_eq_true, if_false, List.nil_append] at hw
  obtain ⟨c, t, e1, c1, c2⟩ := dec_first q.num.natAbs
  have hdig := (dec_all q.num.natAbs).1
  have hden := (dec_all q.den).1
  have hdne := dec_ne q.den
  have hf0 : f ≠ [48] := by
    rintro rfl
    rw [num_zero] at h; cases h; exact absurd hq (by decide)
  refine ⟨⟨c, t ++ (if q.den = 1 then [] else 47 :: decDigits q.den), ?_, ?_⟩, ?_⟩
  · rw [hw, e1]; rfl
  · rintro rfl; revert c2; decide
  · intro r hr
    have hlen : lenT (f ++ r) = f.length ∧ 0 < cntD (f ++ r) := by
      rw [hw]
      by_cases hd : q.den = 1
      · rw [if_pos hd, List.append_nil]
        have hc := cntD_app hdig (tail_dig hr)
        refine ⟨?_, by rw [hc, e1]; simp⟩
        unfold lenT
        rw [hc, List.drop_left]
        rcases hr with rfl | ⟨s, rfl⟩
        · rfl
        · rfl
      · rw [if_neg hd, List.append_assoc, List.cons_append]
        have hc : cntD (decDigits q.num.natAbs ++ 47 :: (decDigits q.den ++ r)) = (decDigits q.num.natAbs).length := cntD_app hdig (by intro c t he; cases he; rfl)
        refine ⟨?_, by rw [hc, e1]; simp⟩
        unfold lenT
        rw [hc, List.drop_left]
        simp only
        have hc2 := cntD_app hden (tail_dig hr)
        have hp : 0 < (decDigits q.den).length := List.length_pos_iff.2 hdne
        rw [hc2, if_pos (by simp [hp])]
        simp only [List.length_append, List.length_cons]
        omega
    unfold factorT
    rw [if_pos hlen.2]
    unfold numberT
    rw [hlen.1, List.take_left, parse_num h]
    rw [if_pos ⟨rfl, hf0⟩, readR_num h]
theorem sat_dec {n : Nat} (h : n ≤ 12) : satT (decDigits n) = n := by
  by_cases h1 : n < 10
  · rw [decDigits_one h1]
    have e : (UInt8.ofNat (48 + n)).toNat = 48 + n := by rw [UInt8.toNat_ofNat']; omega
    unfold satT
    simp only [List.foldl_cons, List.foldl_nil, e]
    rw [if_pos (by decide)]
    omega
  · rw [decDigits_two h1 (by omega)]
    have e1 : (UInt8.ofNat (48 + n / 10)).toNat = 48 + n / 10 := by rw [UInt8.toNat_ofNat']; omega
    have e2 : (UInt8.ofNat (48 + n % 10)).toNat = 48 + n % 10 := by rw [UInt8.toNat_ofNat']; omega
    unfold satT
    simp only [List.foldl_cons, List.foldl_nil, e1, e2]
    rw [if_pos (show (0 : Int) ≤ 12 by decide), if_pos (by omega)]
    omega
theorem expo_pos {l : List UInt8} (h : ∀ t, l ≠ 45 :: t) : expoT l = if cntD l = 0 then (0, 0) else (satT (l.take (cntD l)), cntD l) := by
  unfold expoT
  split
  · rename_i t; exact absurd rfl (h t)
  · rfl
theorem expo_itoa {p : Int} {r : List UInt8} (h : isPow p = true) (hr : Tail r) : expoT (itoa p ++ r) = (p, (itoa p).length) := by
  unfold isPow at h
  simp only [Bool.and_eq_true, decide_eq_true_eq] at h
  unfold itoa
  by_cases hn : p < 0
  · rw [if_pos hn, List.cons_append]
    unfold expoT
    simp only
    have hc := cntD_app (dec_all p.natAbs).1 (tail_dig hr)
    have hp := List.length_pos_iff.2 (dec_ne p.natAbs)
    rw [hc, if_neg (by omega), List.take_left, sat_dec (by omega)]
    simp only [List.length_cons, Prod.mk.injEq]
    omega
  · rw [if_neg hn]
    obtain ⟨c, t, e, c1, c2⟩ := dec_first p.toNat
    have hc := cntD_app (dec_all p.toNat).1 (tail_dig hr)
    have hp := List.length_pos_iff.2 (dec_ne p.toNat)
    rw [expo_pos (by rw [e]; rintro t2 he; cases he; revert c1; decide), hc, if_neg (by omega), List.take_left, sat_dec (by omega), show ((p.toNat : Nat) : Int) = p by omega]
def unitP (i : Nat) : List Int := noPs.set i 1
theorem name_word {i : Nat} (h : i < 7) : wordT (nameT i) = some (1, unitP i) := by
  have r1 : readR [49] = 1 := by rw [show readR [49] = ((1 : Nat) : Rat) / ((1 : Nat) : Rat) from readR_of rfl]; simp <;> grind
  have r2 : readR [49, 48, 48, 48] = ((1000 : Nat) : Rat) / ((1 : Nat) : Rat) := readR_of rfl
  have r3 : readR [49, 47, 49, 48, 48, 48] = ((1 : Nat) : Rat) / ((1000 : Nat) : Rat) := readR_of rfl
  match i, h with
  | 0, _ => show some (readR [49], _) = _; rw [r1]; rfl
  | 1, _ =>
    show some (readR [49, 48, 48, 48] * readR [49, 47, 49, 48, 48, 48], _) = _
    rw [r2, r3]
    have : (((1000 : Nat) : Rat) / ((1 : Nat) : Rat)) * (((1 : Nat) : Rat) / ((1000 : Nat) : Rat)) = 1 := by simp; grind
    rw [this]; rfl
  | 2, _ => show some (readR [49], _) = _; rw [r1]; rfl
  | 3, _ => show some (readR [49], _) = _; rw [r1]; rfl
  | 4, _ => show some (readR [49], _) = _; rw [r1]; rfl
  | 5, _ => show some (readR [49], _) = _; rw [r1]; rfl
  | 6, _ => show some (readR [49], _) = _; rw [r1]; rfl
theorem name_let (i : Nat) : (nameT i).all isLet = true := by
  unfold nameT
  split <;> rfl
theorem name_first (i : Nat) : ∃ c t, nameT i = c :: t ∧ c ≠ 100 ∧ isDig c = false := by
  unfold nameT
  split <;> exact ⟨_, _, rfl, by decide, by decide⟩
theorem word_pow {i : Nat} {p : Int} (hi : i < 7) (hp : isPow p = true) : WordOk (if p = 1 then nameT i else nameT i ++ (94 :: itoa p)) ⟨1, unitP i, p⟩ := by
  obtain ⟨c, t, e, c1, c2⟩ := name_first i
  refine ⟨?_, ?_⟩
  · by_cases h1 : p = 1
    · rw [if_pos h1]; exact ⟨c, t, e, c1⟩
    · rw [if_neg h1, e]; exact ⟨c, _, rfl, c1⟩
  · intro r hr
    by_cases h1 : p = 1
    · rw [if_pos h1, h1]
      have hd : cntD (nameT i ++ r) = 0 := by rw [e]; unfold cntD; simp [c2]
      unfold factorT
      rw [hd, if_neg (by omega)]
      unfold symbolT
      rw [cntL_app (name_let i) (tail_let hr), List.take_left, name_word hi, List.drop_left]
      rcases hr with rfl | ⟨s, rfl⟩ <;> rfl
    · rw [if_neg h1]
      have hd : cntD (nameT i ++ 94 :: itoa p ++ r) = 0 := by rw [e]; unfold cntD; simp [c2]
      unfold factorT
      rw [hd, if_neg (by omega)]
      unfold symbolT
      rw [List.append_assoc, cntL_app (name_let i) (by intro c t he; cases he; rfl), List.take_left, name_word hi, List.drop_left]
      simp only [List.cons_append]
      have hl : 0 < (itoa p).length := by
        unfold itoa
        split
        · simp
        · exact List.length_pos_iff.2 (dec_ne _)
      rw [expo_itoa hp hr, if_neg (by simp only; omega)]
      simp only [List.length_append, List.length_cons]
      congr 2; omega
def pairP (i : Nat) (p : Int) : List (List UInt8 × FacT) := if p = 0 then [] else [(if p = 1 then nameT i else nameT i ++ (94 :: itoa p), ⟨1, unitP i, p⟩)]
def pairsP : Nat → List Int → List (List UInt8 × FacT)
  | _, [] => []
  | i, p :: r => pairP i p ++ pairsP (i + 1) r
theorem pairP_words (i : Nat) (p : Int) : (pairP i p).map (·.1) = wordP i p := by
  unfold pairP wordP
  split
  · rfl
  · split <;> rfl
theorem pairs_words (i : Nat) (l : List Int) : (pairsP i l).map (·.1) = wordsP i l := by
  induction l generalizing i with
  | nil => rfl
  | cons p r ih => simp only [pairsP, wordsP, List.map_append, pairP_words, ih]
theorem pairs_ok (l : List Int) : ∀ i, i + l.length ≤ 7 → inR l = true → ∀ x ∈ pairsP i l, WordOk x.1 x.2 := by
  induction l with
  | nil => intro i _ _ x hx; cases hx
  | cons p r ih =>
    intro i hi hr x hx
    simp only [List.length_cons] at hi
    unfold inR at hr
    rw [List.all_cons, Bool.and_eq_true] at hr
    simp only [pairsP, List.mem_append] at hx
    rcases hx with hx | hx
    · unfold pairP at hx
      split at hx
      · cases hx
      · rw [List.mem_singleton] at hx
        subst hx
        exact word_pow (by omega) hr.1
    · exact ih (i + 1) (by omega) hr.2 x hx
theorem tail_join (r : List (List UInt8)) : Tail (joinTail [32] r) := by
  cases r with
  | nil => exact .inl rfl
  | cons x r => exact .inr ⟨x ++ joinTail [32] r, by simp [joinTail]⟩
theorem facs_join (ws : List (List UInt8 × FacT)) : ∀ (w : List UInt8) (f : FacT) (acc : List FacT) (fuel : Nat), WordOk w f → (∀ x ∈ ws, WordOk x.1 x.2) → ws.length < fuel →
    factorsT (join (w :: ws.map (·.1)) [32]) 1 acc fuel = some (acc ++ f :: ws.map (·.2)) := by
  induction ws with
  | nil =>
    intro w f acc fuel h _ hf
    obtain ⟨k, rfl⟩ : ∃ k, fuel = k + 1 := ⟨fuel - 1, by simp at hf; omega⟩
    have h1 := h.2 [] (.inl rfl)
    rw [List.append_nil] at h1
    simp only [List.map_nil, join_one]
    unfold factorsT
    rw [h1]
    simp
  | cons y ws ih =>
    intro w f acc fuel h hws hf
    obtain ⟨k, rfl⟩ : ∃ k, fuel = k + 1 := ⟨fuel - 1, by simp at hf; omega⟩
    have h1 := h.2 _ (tail_join ((y :: ws).map (·.1)))
    have hj : joinTail [32] ((y :: ws).map (·.1)) = 32 :: join (y.1 :: ws.map (·.1)) [32] := by
      rw [join_cons]; simp [joinTail]
    rw [join_cons]
    rw [hj] at h1 ⊢
    unfold factorsT
    rw [h1]
    simp only
    rw [if_neg (by simp), List.drop_left]
    simp only
    rw [ih y.1 y.2 _ k (hws _ (by simp)) (fun x hx => hws x (by simp [hx])) (by simp at hf; omega)]
    simp
def addP : Nat → List Int → List Int → List Int
  | _, [], a => a
  | i, p :: r, a => addP (i + 1) r (a.set i (a.getD i 0 + p))
theorem list7 {l : List Int} (h : l.length = 7) : ∃ a b c d e f g, l = [a, b, c, d, e, f, g] := by
  match l, h with
  | [a, b, c, d, e, f, g], _ => exact ⟨a, b, c, d, e, f, g, rfl⟩
theorem zip_unit {a : List Int} {i : Nat} (p : Int) (h : a.length = 7) (hi : i < 7) : List.zipWith (fun x y => x + y * p) a (unitP i) = a.set i (a.getD i 0 + p) := by
  obtain ⟨a0, a1, a2, a3, a4, a5, a6, rfl⟩ := list7 h
  match i, hi with
  | 0, _ => simp [unitP, noPs]
  | 1, _ => simp [unitP, noPs]
  | 2, _ => simp [unitP, noPs]
  | 3, _ => simp [unitP, noPs]
  | 4, _ => simp [unitP, noPs]
  | 5, _ => simp [unitP, noPs]
  | 6, _ => simp [unitP, noPs]
theorem set_same {a : List Int} {i : Nat} (h : i < a.length) : a.set i (a.getD i 0 + 0) = a := by
  rw [Int.add_zero]
  apply List.ext_getElem (by simp)
  intro n h1 h2
  rw [List.getElem_set]
  split
  · rename_i e; subst e; simp [h]
  · rfl
theorem one_pw (k : Nat) : (1 : Rat) ^ k = 1 := by
  induction k with
  | zero => rfl
  | succ k ih => rw [Rat.pow_succ, ih, Rat.mul_one]
theorem one_zp (n : Int) : (1 : Rat) ^ n = 1 := by
  cases n with
  | ofNat k => rw [Int.ofNat_eq_natCast, Rat.zpow_natCast]; exact one_pw k
  | negSucc k => rw [Int.negSucc_eq, Rat.zpow_neg]; have := one_pw (k + 1); rw [← Rat.zpow_natCast] at this; rw [show ((k : Int) + 1) = ((k + 1 : Nat) : Int) from rfl, this]; grind
theorem prod_pairs (q : Rat) (l : List Int) : ∀ (i : Nat) (a : List Int), a.length = 7 → i + l.length ≤ 7 → inR l = true → prodT q a ((pairsP i l).map (·.2)) = mkT q (addP i l a) := by
  induction l with
  | nil => intro i a _ _ _; rfl
  | cons p r ih =>
    intro i a ha hi hr
    simp only [List.length_cons] at hi
    unfold inR at hr
    rw [List.all_cons, Bool.and_eq_true] at hr
    simp only [pairsP, addP, List.map_append]
    unfold pairP
    by_cases h0 : p = 0
    · rw [if_pos h0, h0, set_same (by omega)]
      exact ih (i + 1) a ha (by omega) hr.2
    · rw [if_neg h0]
      simp only [List.map_cons, List.map_nil, List.cons_append, List.nil_append]
      rw [prodT_cons_yes hr.1, zip_unit p ha (by omega)]
      simp only
      rw [one_zp, Rat.mul_one]
      exact ih (i + 1) _ (by simp [ha]) (by omega) hr.2
theorem addP_all {l : List Int} (h : l.length = 7) : addP 0 l noPs = l := by
  obtain ⟨a0, a1, a2, a3, a4, a5, a6, rfl⟩ := list7 h
  simp [addP, noPs]
theorem pairs_ne {l : List Int} (h : l.length = 7) (hne : l ≠ noPs) : pairsP 0 l ≠ [] := by
  obtain ⟨a0, a1, a2, a3, a4, a5, a6, rfl⟩ := list7 h
  intro he
  simp only [pairsP, List.append_eq_nil_iff, pairP] at he
  have k : ∀ {p : Int} {x : List UInt8 × FacT}, (if p = 0 then [] else [x]) = [] → p = 0 := by
    intro p x hx
    split at hx
    · assumption
    · cases hx
  obtain ⟨h0, h1, h2, h3, h4, h5, h6, -⟩ := he
  exact hne (by rw [k h0, k h1, k h2, k h3, k h4, k h5, k h6]; rfl)
theorem itoa_len {p : Int} (h : isPow p = true) : (itoa p).length ≤ 3 := by
  unfold isPow at h
  simp only [Bool.and_eq_true, decide_eq_true_eq] at h
  have k : ∀ n, n < 100 → (decDigits n).length ≤ 2 := fun n hn => by
    by_cases h1 : n < 10
    · rw [decDigits_one h1]; simp
    · rw [decDigits_two h1 hn]; simp
  unfold itoa
  split
  · have := k p.natAbs (by omega); simp; omega
  · have := k p.toNat (by omega); omega
theorem name_len (i : Nat) : (nameT i).length ≤ 3 := by
  unfold nameT
  split <;> decide
theorem words_len (l : List Int) : ∀ i, inR l = true → lens (wordsP i l) ≤ 7 * l.length ∧ (wordsP i l).length ≤ l.length := by
  induction l with
  | nil => intro i _; exact ⟨Nat.le_refl _, Nat.le_refl _⟩
  | cons p r ih =>
    intro i hr
    unfold inR at hr
    rw [List.all_cons, Bool.and_eq_true] at hr
    obtain ⟨h1, h2⟩ := ih (i + 1) hr.2
    have hi := itoa_len hr.1
    have hn := name_len i
    simp only [wordsP]
    have k : lens (wordP i p) ≤ 7 ∧ (wordP i p).length ≤ 1 := by
      unfold wordP
      split
      · exact ⟨by decide, by decide⟩
      · split
        · exact ⟨by simp [lens]; omega, by simp⟩
        · exact ⟨by simp [lens]; omega, by simp⟩
    have e : lens (wordP i p ++ wordsP (i + 1) r) = lens (wordP i p) + lens (wordsP (i + 1) r) := by simp [lens]
    rw [e, List.length_append, List.length_cons]
    omega
theorem fmt_len {f : List UInt8} {ps : List Int} (hf : f.length ≤ 82) (hr : inR ps = true) (hp : ps.length = 7) : (join (wordsT ⟨f, [48], ps⟩) [32]).length ≤ 138 := by
  obtain ⟨h1, h2⟩ := words_len ps 0 hr
  have hh : lens (headT f ps) ≤ 82 ∧ (headT f ps).length ≤ 1 := by
    unfold headT
    split
    · exact ⟨by decide, by decide⟩
    · exact ⟨by simp [lens]; omega, by simp⟩
  unfold wordsT
  have e : lens (headT f ps ++ wordsP 0 ps) = lens (headT f ps) + lens (wordsP 0 ps) := by simp [lens]
  have el := @List.length_append _ (headT f ps) (wordsP 0 ps)
  simp only
  cases hw : headT f ps ++ wordsP 0 ps with
  | nil => rw [Go.Lib.join_nil]; simp
  | cons x r =>
    rw [join_length]
    rw [hw] at e el
    simp only [List.length_cons, List.length_nil] at el ⊢
    omega
theorem unit_fmt {u : UnitT} (hu : plainT u = true) (hp : u.ps.length = 7) : unitT (join (wordsT u) [32]) = (u, 0) := by
  obtain ⟨h1, h2, h3, h4⟩ := plainT_iff.1 hu
  have hue := unit_ext hu
  have ht := txt_num h1
  have hfl := num_len h1
  have hlen : (join (wordsT u) [32]).length ≤ 138 := by
    have := fmt_len (f := u.f) hfl h3 hp
    obtain ⟨f, o, ps⟩ := u
    simp only at h4
    subst h4
    exact this
  have hmk : mkT (valT u.f) u.ps = (u, 0) := by
    rw [mkT_ok (by rw [ht]; rintro h0; rw [h0, num_nil] at h1; cases h1) h3, ← hue]
  -- the words as pairs
  obtain ⟨w, f, ws, hw, hok, hoks, hl, hprod⟩ : ∃ (w : List UInt8) (f : FacT) (ws : List (List UInt8 × FacT)), wordsT u = w :: (ws.map (·.1)) ∧ WordOk w f ∧ (∀ x ∈ ws, WordOk x.1 x.2) ∧ ws.length ≤ 7 ∧ prodT 1 noPs (f :: ws.map (·.2)) = (u, 0) := by
    have hpo := pairs_ok u.ps 0 (by omega) h3
    have hpl : (pairsP 0 u.ps).length ≤ 7 := by
      have := (words_len u.ps 0 h3).2
      rw [← pairs_words, List.length_map] at this
      omega
    have hpp := fun q => prod_pairs q u.ps 0 noPs rfl (by omega) h3
    rw [addP_all hp] at hpp
    unfold wordsT headT
    by_cases hc : (u.f == [49] && !(u.ps == noPs)) = true
    · rw [if_pos hc]
      simp only [Bool.and_eq_true, beq_iff_eq, Bool.not_eq_true', beq_eq_false_iff_ne] at hc
      have hv : valT u.f = 1 := by
        rw [hc.1]
        have e1 : readR [49] = 1 := by rw [show readR [49] = ((1 : Nat) : Rat) / ((1 : Nat) : Rat) from readR_of rfl]; simp <;> grind
        rw [hc.1] at h1
        rw [← readR_num h1, e1]
      rw [← pairs_words]
      cases hq : pairsP 0 u.ps with
      | nil => exact absurd hq (pairs_ne hp hc.2)
      | cons x ws =>
        rw [hq] at hpo hpl hpp
        refine ⟨x.1, x.2, ws, rfl, hpo x (by simp), fun y hy => hpo y (by simp [hy]), by simp at hpl; omega, ?_⟩
        rw [← hmk, hv]
        exact hpp 1
    · rw [if_neg hc, ← pairs_words]
      refine ⟨u.f, ⟨valT u.f, noPs, 1⟩, pairsP 0 u.ps, rfl, word_num h1 h2, hpo, hpl, ?_⟩
      rw [prodT_cons_yes (show isPow 1 = true by decide)]
      simp only
      rw [Rat.zpow_one, Rat.one_mul, show List.zipWith (fun p r => p + r * (1 : Int)) noPs noPs = noPs by decide, hpp, hmk]
  obtain ⟨⟨c, t, he, hc⟩, hf⟩ := hok
  have hj : ∀ x y, (join (wordsT u) [32] == 100 :: x :: y) = false := by
    intro x y
    rw [hw, join_cons, he, List.cons_append]
    apply Bool.eq_false_iff.2
    intro hb
    have := beq_iff_eq.1 hb
    injection this with h1 h2
    exact hc h1
  unfold unitT
  rw [if_neg (by omega), hj, hj]
  simp only [Bool.false_eq_true, if_false]
  rw [hw, facs_join ws w f [] _ ⟨⟨c, t, he, hc⟩, hf⟩ hoks (by
    rw [join_length]
    simp only [List.length_map, List.length_cons, List.length_nil]
    omega)]
  simp only [List.nil_append]
  rw [if_neg (by simp; omega), hprod]
end Go.Proofs.YtfjnipkpfbkegaaGreatDoor
