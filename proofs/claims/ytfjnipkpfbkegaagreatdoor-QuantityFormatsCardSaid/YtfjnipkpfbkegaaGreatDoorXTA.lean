/- Units as texts and powers: products, powers and conversions; the units of texts. -/
import Derived.Test.YtfjnipkpfbkegaaGreatDoorPart19
import Derived.Lib.ParseIntBCases
namespace Go.Proofs.YtfjnipkpfbkegaaGreatDoor
open Go.Lib Big
def plainT (u : UnitT) : Bool := validT u && u.o == [48]
theorem posT_iff {x : List UInt8} : posT x = true ↔ num x = some (valT x) ∧ 0 < valT x := by
  unfold posT valT
  cases h : num x with
  | none => simp
  | some q => simp
theorem plainT_iff {u : UnitT} : plainT u = true ↔ num u.f = some (valT u.f) ∧ 0 < valT u.f ∧ inR u.ps = true ∧ u.o = [48] := by
  unfold plainT validT
  rw [Bool.and_eq_true, Bool.and_eq_true, Bool.and_eq_true, posT_iff, beq_iff_eq]
  constructor
  · rintro ⟨⟨⟨h1, h2⟩, h3, h4⟩, h5⟩; exact ⟨h1, h2, h4, h5⟩
  · rintro ⟨h1, h2, h3, h4⟩; exact ⟨⟨⟨h1, h2⟩, by rw [h4, num_zero]; rfl, h3⟩, h4⟩
theorem unit_ext {u : UnitT} (h : plainT u = true) : u = ⟨txt (valT u.f), [48], u.ps⟩ := by
  obtain ⟨h1, h2, h3, h4⟩ := plainT_iff.1 h
  obtain ⟨f, o, ps⟩ := u
  have := txt_num h1
  simp only [UnitT.mk.injEq]
  exact ⟨this.symm, h4, trivial⟩
end Go.Proofs.YtfjnipkpfbkegaaGreatDoor
namespace Go.Proofs.YtfjnipkpfbkegaaGreatDoor
open Go.RowKit Big
open Go.Lib
theorem dec_byte {n : Nat} (h : n < 10) : (UInt8.ofNat (48 + n)).toNat = 48 + n := by
  rw [UInt8.toNat_ofNat']; omega
theorem dec_first (u : Nat) : ∃ c t, decDigits u = c :: t ∧ 48 ≤ c.toNat ∧ c.toNat ≤ 57 := by
  induction u using Nat.strongRecOn with
  | _ u ih =>
    by_cases h : u < 10
    · exact ⟨_, [], decDigits_one h, by rw [dec_byte h]; omega, by rw [dec_byte h]; omega⟩
    · obtain ⟨c, t, e, h1, h2⟩ := ih (u / 10) (by omega)
      refine ⟨c, t ++ [UInt8.ofNat (48 + u % 10)], ?_, h1, h2⟩
      rw [decDigits, dif_neg h, e, List.cons_append]
theorem num_wrote {l : List UInt8} {q : Rat} (h : num l = some q) : l = (if decide (q.num < 0) then [45] else []) ++ decDigits q.num.natAbs ++ (if q.den = 1 then [] else 47 :: decDigits q.den) := by
  have h1 := txt_num h
  rw [txt_eq] at h1
  split at h1
  · exact h1.symm
  · rw [← h1, num_nil] at h; cases h
end Go.Proofs.YtfjnipkpfbkegaaGreatDoor
