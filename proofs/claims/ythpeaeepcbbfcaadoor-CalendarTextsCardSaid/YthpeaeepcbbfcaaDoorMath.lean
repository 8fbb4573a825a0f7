/- Plain arithmetic of the five calendars. -/
namespace Go.Proofs.YthpeaeepcbbfcaaDoor

/-- The multiples of n from 0 on and before y (signed). -/
def mul (n y : Int) : Int := (y + (n - 1)) / n
/-- A leap year. -/
def lp (c y : Int) : Bool :=
  if c = 1 then decide (y % 400 = 0) || (decide (y % 4 = 0) && !decide (y % 100 = 0))
  else if c = 2 then decide (y % 4 = 0) else decide (c = 4)
def lpn (c y : Int) : Int := if lp c y = true then 1 else 0
/-- The leap years from 0 on and before y (signed). -/
def lps (c y : Int) : Int :=
  if c = 1 then mul 4 y - mul 100 y + mul 400 y else if c = 2 then mul 4 y else if c = 4 then y else 0
def start (c y : Int) : Int := (if c = 5 then y * 360 else y * 365) + lps c y
def len (c y : Int) : Int := (if c = 5 then 360 else 365) + lpn c y
/-- The days of a month. -/
def dm (c y m : Int) : Int :=
  if c = 5 then 30 else if m = 2 then 28 + lpn c y else if m = 4 ∨ m = 6 ∨ m = 9 ∨ m = 11 then 30 else 31
/-- The days of a year before a month. -/
def cum (c y m : Int) : Int :=
  if c = 5 then 30 * (m - 1) else
  if m = 1 then 0 else if m = 2 then 31 else
  (if m = 3 then 59 else if m = 4 then 90 else if m = 5 then 120 else if m = 6 then 151 else if m = 7 then 181 else if m = 8 then 212
   else if m = 9 then 243 else if m = 10 then 273 else if m = 11 then 304 else if m = 12 then 334 else 365) + lpn c y
def num (c y m d : Int) : Int := start c y + cum c y m + d - 1
def isCal (c : Int) : Prop := 1 ≤ c ∧ c ≤ 5
/-- A valid date. -/
def Ok (c y m d : Int) : Prop := -9999 ≤ y ∧ y ≤ 9999 ∧ 1 ≤ m ∧ m ≤ 12 ∧ 1 ≤ d ∧ d ≤ dm c y m
instance (c y m d : Int) : Decidable (Ok c y m d) := by unfold Ok; infer_instance
def ok (c y m d : Int) : Bool := decide (Ok c y m d)

theorem lpn_01 (c y : Int) : 0 ≤ lpn c y ∧ lpn c y ≤ 1 := by unfold lpn; split <;> omega
theorem lpn_1 (y : Int) : lpn 1 y = if y % 400 = 0 ∨ (y % 4 = 0 ∧ ¬ y % 100 = 0) then 1 else 0 := by
  unfold lpn lp
  by_cases a : y % 400 = 0 <;> by_cases b : y % 4 = 0 <;> by_cases d : y % 100 = 0 <;> simp [a, b, d]
theorem lpn_2 (y : Int) : lpn 2 y = if y % 4 = 0 then 1 else 0 := by
  unfold lpn lp
  by_cases b : y % 4 = 0 <;> simp [b]
theorem lps_succ (c y : Int) : lps c (y + 1) = lps c y + lpn c y := by
  by_cases h1 : c = 1
  · subst h1
    rw [lpn_1]; unfold lps mul; simp only [if_true]
    split <;> omega
  · by_cases h2 : c = 2
    · subst h2
      rw [lpn_2]; unfold lps mul
      rw [if_neg (by omega), if_pos rfl, if_neg (by omega), if_pos rfl]
      split <;> omega
    · by_cases h4 : c = 4
      · subst h4; simp [lps, lpn, lp]
      · simp [lps, lpn, lp, h1, h2, h4]
theorem lps_bd (c y : Int) : (0 ≤ y → 0 ≤ lps c y ∧ lps c y ≤ y) ∧ (y ≤ 0 → y ≤ lps c y ∧ lps c y ≤ 0) := by
  unfold lps mul
  split
  · constructor <;> intro h <;> omega
  · split
    · constructor <;> intro h <;> omega
    · split
      · constructor <;> intro h <;> omega
      · constructor <;> intro h <;> omega
theorem start_succ (c y : Int) : start c (y + 1) = start c y + len c y := by
  unfold start len
  rw [lps_succ]
  split <;> omega
theorem start_zero (c : Int) : start c 0 = 0 := by
  have := lps_bd c 0
  unfold start
  split <;> omega
theorem len_bd (c y : Int) : 360 ≤ len c y ∧ len c y ≤ 366 := by
  have := lpn_01 c y
  unfold len; split <;> omega
theorem start_mono_nat (c y : Int) (k : Nat) : start c y + k * 360 ≤ start c (y + k) := by
  induction k with
  | zero => simp
  | succ k ih =>
    have := start_succ c (y + k)
    have hb := len_bd c (y + k)
    have e : y + ((k + 1 : Nat) : Int) = y + k + 1 := by omega
    rw [e, this]; omega
theorem start_mono (c y z : Int) (h : y ≤ z) : start c y + (z - y) * 360 ≤ start c z := by
  have := start_mono_nat c y (z - y).toNat
  have e : y + ((z - y).toNat : Int) = z := by omega
  rw [e] at this; omega
theorem start_le (c y z : Int) (h : y ≤ z) : start c y ≤ start c z := by have := start_mono c y z h; omega
theorem start_bd (c y : Int) (h0 : -10000 ≤ y) (h1 : y ≤ 10000) : -3660000 ≤ start c y ∧ start c y ≤ 3660000 := by
  have := lps_bd c y
  unfold start; split <;> omega
theorem dm_bd (c y m : Int) : 28 ≤ dm c y m ∧ dm c y m ≤ 31 := by
  have := lpn_01 c y
  unfold dm; repeat' split
  all_goals omega
theorem cum_one (c y : Int) : cum c y 1 = 0 := by unfold cum; split <;> simp
theorem cum_succ (c y m : Int) (h1 : 1 ≤ m) (h2 : m ≤ 12) : cum c y (m + 1) = cum c y m + dm c y m := by
  by_cases h5 : c = 5
  · simp only [cum, dm, h5, if_true]; omega
  · have hm : m = 1 ∨ m = 2 ∨ m = 3 ∨ m = 4 ∨ m = 5 ∨ m = 6 ∨ m = 7 ∨ m = 8 ∨ m = 9 ∨ m = 10 ∨ m = 11 ∨ m = 12 := by omega
    simp only [cum, dm, if_neg h5]
    rcases hm with h | h | h | h | h | h | h | h | h | h | h | h <;> subst h <;> simp <;> omega
theorem cum_last (c y : Int) : cum c y 13 = len c y := by
  have := lpn_01 c y
  unfold cum len; split
  · rename_i h; subst h; simp [lpn, lp]
  · simp
theorem cum_bd (c y m : Int) (h1 : 1 ≤ m) (h2 : m ≤ 13) : 0 ≤ cum c y m ∧ cum c y m ≤ 366 := by
  have := lpn_01 c y
  by_cases h5 : c = 5
  · simp only [cum, h5, if_true]; omega
  · have hm : m = 1 ∨ m = 2 ∨ m = 3 ∨ m = 4 ∨ m = 5 ∨ m = 6 ∨ m = 7 ∨ m = 8 ∨ m = 9 ∨ m = 10 ∨ m = 11 ∨ m = 12 ∨ m = 13 := by omega
    simp only [cum, if_neg h5]
    rcases hm with h | h | h | h | h | h | h | h | h | h | h | h | h <;> subst h <;> simp <;> omega
theorem cum_mono_nat (c y m : Int) (k : Nat) (h1 : 1 ≤ m) (h2 : m + k ≤ 13) : cum c y m + k * 28 ≤ cum c y (m + k) := by
  induction k with
  | zero => simp
  | succ k ih =>
    have e : m + ((k + 1 : Nat) : Int) = m + k + 1 := by omega
    rw [e, cum_succ c y (m + k) (by omega) (by omega)]
    have := dm_bd c y (m + k)
    have := ih (by omega)
    omega
theorem cum_mono (c y m k : Int) (h1 : 1 ≤ m) (h : m ≤ k) (h2 : k ≤ 13) : cum c y m + (k - m) * 28 ≤ cum c y k := by
  have := cum_mono_nat c y m (k - m).toNat h1 (by omega)
  have e : m + ((k - m).toNat : Int) = k := by omega
  rw [e] at this; omega
/-- A valid date lies in its year. -/
theorem num_in {c y m d : Int} (h : Ok c y m d) : start c y ≤ num c y m d ∧ num c y m d < start c (y + 1) := by
  obtain ⟨_, _, h1, h2, h3, h4⟩ := h
  have a := cum_bd c y m h1 (by omega)
  have b := cum_succ c y m h1 h2
  have e := cum_mono c y (m + 1) 13 (by omega) (by omega) (by omega)
  rw [cum_last] at e
  rw [start_succ]
  unfold num
  omega
theorem num_range {c y m d : Int} (h : Ok c y m d) : start c (-9999) ≤ num c y m d ∧ num c y m d < start c 10000 := by
  have := num_in h
  have a := start_le c (-9999) y h.1
  have b := start_le c (y + 1) 10000 (by have := h.2.1; omega)
  omega
/-- Dates in the order of their days. -/
theorem num_lt_year {c y m d z k e : Int} (h : Ok c y m d) (g : Ok c z k e) (hlt : y < z) : num c y m d < num c z k e := by
  have a := num_in h
  have b := num_in g
  have := start_le c (y + 1) z (by omega)
  omega
theorem num_lt_month {c y m d k e : Int} (h : Ok c y m d) (g : Ok c y k e) (hlt : m < k) : num c y m d < num c y k e := by
  obtain ⟨_, _, h1, h2, h3, h4⟩ := h
  obtain ⟨_, _, g1, g2, g3, g4⟩ := g
  have b := cum_succ c y m h1 h2
  have e := cum_mono c y (m + 1) k (by omega) (by omega) (by omega)
  unfold num
  omega
theorem num_lt_day {c y m d e : Int} (hlt : d < e) : num c y m d < num c y m e := by unfold num; omega
/-- Later: by year, month, day. -/
def Later (y m d z k e : Int) : Prop := y < z ∨ (y = z ∧ (m < k ∨ (m = k ∧ d < e)))
theorem num_lt {c y m d z k e : Int} (h : Ok c y m d) (g : Ok c z k e) (hl : Later y m d z k e) : num c y m d < num c z k e := by
  rcases hl with hl | ⟨rfl, hl | ⟨rfl, hl⟩⟩
  · exact num_lt_year h g hl
  · exact num_lt_month h g hl
  · exact num_lt_day hl
theorem later_or (y m d z k e : Int) : Later y m d z k e ∨ (y = z ∧ m = k ∧ d = e) ∨ Later z k e y m d := by unfold Later; omega
theorem num_inj {c y m d z k e : Int} (h : Ok c y m d) (g : Ok c z k e) (he : num c y m d = num c z k e) : y = z ∧ m = k ∧ d = e := by
  rcases later_or y m d z k e with hl | hl | hl
  · have := num_lt h g hl; omega
  · exact hl
  · have := num_lt g h hl; omega
theorem later_of_lt {c y m d z k e : Int} (h : Ok c y m d) (g : Ok c z k e) (he : num c y m d < num c z k e) : Later y m d z k e := by
  rcases later_or y m d z k e with hl | ⟨rfl, rfl, rfl⟩ | hl
  · exact hl
  · omega
  · have := num_lt g h hl; omega
end Go.Proofs.YthpeaeepcbbfcaaDoor
