/- The checksum as plain arithmetic: the program's way and the document's way give the same number, and another byte gives another one. -/
set_option maxRecDepth 100000
namespace Go.Proofs.YtpbcdmefngbjjaaGreatDoor.Crc
def P32 : Nat := 3988292384
def st (s : Nat) : Nat := s / 2 ^^^ (s % 2 * P32)
def stn : Nat → Nat → Nat
  | 0, s => s
  | k + 1, s => st (stn k s)
def byteS (s b : Nat) : Nat := stn 8 (s ^^^ b)
def crcS (s : Nat) (l : List UInt8) : Nat := l.foldl (fun s c => byteS s c.toNat) s
def crc (l : List UInt8) : Nat := 4294967295 ^^^ crcS 4294967295 l
theorem xl {a b c : Nat} (h : a ^^^ c = b ^^^ c) : a = b := by
  have := congrArg (· ^^^ c) h
  simpa [Nat.xor_assoc] using this
theorem xr {a b c : Nat} (h : a ^^^ b = a ^^^ c) : b = c := by
  rw [Nat.xor_comm a b, Nat.xor_comm a c] at h; exact xl h
theorem xor_lt {a b : Nat} (ha : a < 4294967296) (hb : b < 4294967296) : a ^^^ b < 4294967296 := Nat.xor_lt_two_pow (n := 32) ha hb
theorem mod2P (s : Nat) : s % 2 * P32 < 4294967296 := by
  have : s % 2 = 0 ∨ s % 2 = 1 := by omega
  unfold P32; omega
theorem st_lt {s : Nat} (h : s < 4294967296) : st s < 4294967296 := xor_lt (by omega) (mod2P s)
theorem stn_lt {s : Nat} (h : s < 4294967296) : ∀ k, stn k s < 4294967296
  | 0 => h
  | k + 1 => st_lt (stn_lt h k)
theorem byteS_lt {s b : Nat} (h : s < 4294967296) (hb : b < 256) : byteS s b < 4294967296 := stn_lt (xor_lt h (by omega)) 8
theorem crcS_lt (l : List UInt8) : ∀ {s : Nat}, s < 4294967296 → crcS s l < 4294967296 := by
  induction l with
  | nil => intro s h; exact h
  | cons c l ih => intro s h; exact ih (byteS_lt h c.toNat_lt)
theorem crcS_snoc (s : Nat) (l : List UInt8) (c : UInt8) : crcS s (l ++ [c]) = byteS (crcS s l) c.toNat := by
  unfold crcS; rw [List.foldl_append]; rfl
theorem st_inj {s t : Nat} (hs : s < 4294967296) (ht : t < 4294967296) (h : st s = st t) : s = t := by
  unfold st at h
  have b1 : (s / 2).testBit 31 = false := Nat.testBit_lt_two_pow (by omega)
  have b2 : (t / 2).testBit 31 = false := Nat.testBit_lt_two_pow (by omega)
  have bp : P32.testBit 31 = true := by decide
  have hb := congrArg (fun x => Nat.testBit x 31) h
  simp only [Nat.testBit_xor, b1, b2, Bool.false_xor] at hb
  rcases (by omega : s % 2 = 0 ∨ s % 2 = 1) with e1 | e1 <;> rcases (by omega : t % 2 = 0 ∨ t % 2 = 1) with e2 | e2
  · rw [e1, e2] at h; have := xl h; omega
  · rw [e1, e2] at hb; simp [bp] at hb
  · rw [e1, e2] at hb; simp [bp] at hb
  · rw [e1, e2] at h; have := xl h; omega
theorem stn_inj {s t : Nat} (hs : s < 4294967296) (ht : t < 4294967296) : ∀ k, stn k s = stn k t → s = t
  | 0, h => h
  | k + 1, h => stn_inj hs ht k (st_inj (stn_lt hs k) (stn_lt ht k) h)
theorem byteS_inj {s t b : Nat} (hs : s < 4294967296) (ht : t < 4294967296) (hb : b < 256) (h : byteS s b = byteS t b) : s = t := by
  have := stn_inj (xor_lt hs (by omega)) (xor_lt ht (by omega)) 8 h
  exact xl this
theorem byteS_inj' {s b c : Nat} (hs : s < 4294967296) (hb : b < 256) (hc : c < 256) (h : byteS s b = byteS s c) : b = c := by
  have := stn_inj (xor_lt hs (by omega)) (xor_lt hs (by omega)) 8 h
  exact xr this
theorem crcS_inj (l : List UInt8) : ∀ {s t : Nat}, s < 4294967296 → t < 4294967296 → crcS s l = crcS t l → s = t := by
  induction l with
  | nil => intro s t _ _ h; exact h
  | cons c l ih => intro s t hs ht h; exact byteS_inj hs ht c.toNat_lt (ih (byteS_lt hs c.toNat_lt) (byteS_lt ht c.toNat_lt) h)
theorem crcS_other {l : List UInt8} {k : Nat} (hk : k < l.length) {c : UInt8} (hc : c ≠ l.getD k 0) {s : Nat} (hs : s < 4294967296) : crcS s (l.set k c) ≠ crcS s l := by
  induction l generalizing k s with
  | nil => simp at hk
  | cons x l ih =>
    cases k with
    | zero =>
      intro h
      have h1 := crcS_inj l (byteS_lt hs c.toNat_lt) (byteS_lt hs x.toNat_lt) h
      have h2 := byteS_inj' hs c.toNat_lt x.toNat_lt h1
      exact hc (by simpa using UInt8.toNat_inj.1 h2)
    | succ k => exact ih (by simpa using hk) (by simpa using hc) (byteS_lt hs x.toNat_lt)
theorem crc_lt (l : List UInt8) : crc l < 4294967296 := xor_lt (by omega) (crcS_lt l (by omega))
theorem crc_other {l : List UInt8} {k : Nat} (hk : k < l.length) {c : UInt8} (hc : c ≠ l.getD k 0) : crc (l.set k c) ≠ crc l := by
  intro h
  exact crcS_other hk hc (s := 4294967295) (by omega) (xr h)
/-- The document's way through the bits of a byte. -/
def rj (s b : Nat) : Nat → Nat
  | 0 => s
  | j + 1 => rj s b j / 2 ^^^ ((rj s b j ^^^ b / 2 ^ j % 2) % 2 * P32)
theorem xor_half (a b : Nat) : (a ^^^ b) / 2 = a / 2 ^^^ b / 2 := by
  have := Nat.shiftRight_xor_distrib (a := a) (b := b) (i := 1)
  simpa [Nat.shiftRight_succ, Nat.shiftRight_zero] using this
theorem xor_mod2 (a b : Nat) : (a ^^^ b) % 2 = (a ^^^ b % 2) % 2 := by
  have h1 := Nat.xor_mod_two_pow (a := a) (b := b) (n := 1)
  have h2 := Nat.xor_mod_two_pow (a := a) (b := b % 2) (n := 1)
  simp only [Nat.pow_one, Nat.mod_mod] at h1 h2
  rw [h1, h2]
theorem stn_rj (s b : Nat) : ∀ j, stn j (s ^^^ b) = rj s b j ^^^ b / 2 ^ j
  | 0 => by simp [stn, rj]
  | j + 1 => by
    rw [stn, stn_rj s b j, st, rj, xor_half, xor_mod2, Nat.pow_succ, ← Nat.div_div_eq_div_mul]
    rw [Nat.xor_assoc, Nat.xor_assoc, Nat.xor_comm (b / 2 ^ j / 2)]
theorem byteS_rj {s b : Nat} (hb : b < 256) : rj s b 8 = byteS s b := by
  unfold byteS
  rw [stn_rj, Nat.div_eq_of_lt (by omega), Nat.xor_zero]
theorem rj_lt {s b : Nat} (h : s < 4294967296) : ∀ j, rj s b j < 4294967296
  | 0 => h
  | j + 1 => by
    have := rj_lt (b := b) h j
    exact xor_lt (by omega) (mod2P _)
/-- The document's state behind i bits. -/
def ra (l : List UInt8) (i : Nat) : Nat := rj (crcS 4294967295 (l.take (i / 8))) (l.getD (i / 8) 0).toNat (i % 8)
theorem ra_lt (l : List UInt8) (i : Nat) : ra l i < 4294967296 := rj_lt (crcS_lt _ (by omega)) _
theorem ra_zero (l : List UInt8) : ra l 0 = 4294967295 := by simp [ra, rj, crcS]
theorem ra_end (l : List UInt8) : ra l (8 * l.length) = crcS 4294967295 l := by
  unfold ra
  rw [Nat.mul_div_cancel_left _ (by omega), Nat.mul_mod_right, List.take_length, rj]
theorem ra_succ (l : List UInt8) (i : Nat) (hi : i < 8 * l.length) : ra l (i + 1) = ra l i / 2 ^^^ ((ra l i ^^^ (l.getD (i / 8) 0).toNat / 2 ^ (i % 8) % 2) % 2 * P32) := by
  by_cases h : i % 8 = 7
  · have e1 : (i + 1) / 8 = i / 8 + 1 := by omega
    have e2 : (i + 1) % 8 = 0 := by omega
    have hl : i / 8 < l.length := by omega
    unfold ra
    rw [e1, e2, h, rj, List.take_succ_eq_append_getElem hl, crcS_snoc, ← byteS_rj (l[i/8]).toNat_lt]
    have e3 : l.getD (i / 8) 0 = l[i / 8] := by simp [List.getD_eq_getElem?_getD, hl]
    rw [e3]
    rfl
  · have e1 : (i + 1) / 8 = i / 8 := by omega
    have e2 : (i + 1) % 8 = i % 8 + 1 := by omega
    unfold ra
    rw [e1, e2]
    rfl
theorem odd_step (c : Nat) (b : Nat) : c / 2 ^^^ ((c ^^^ b) % 2 * P32) = if (c ^^^ b) % 2 = 1 then c / 2 ^^^ P32 else c / 2 := by
  rcases (by omega : (c ^^^ b) % 2 = 0 ∨ (c ^^^ b) % 2 = 1) with h | h <;> simp [h]
end Go.Proofs.YtpbcdmefngbjjaaGreatDoor.Crc
