/- What tokens stand for. -/
import Derived.Test.YtpbcdmefngbjjaaGreatDoorCK
namespace Go.Proofs.YtpbcdmefngbjjaaGreatDoor
/-- Bytes copied one by one from a distance. -/
def cp : Nat → Nat → List UInt8 → List UInt8
  | 0, _, o => o
  | n + 1, d, o => cp n d (o ++ [o.getD (o.length - d) 0])
theorem cp_length (d : Nat) : ∀ n o, (cp n d o).length = o.length + n
  | 0, _ => rfl
  | n + 1, o => by rw [cp, cp_length d n]; simp; omega
/-- What is left of the tokens b stands for, behind out. -/
def und (out b : List UInt8) : Option (List UInt8) :=
  match b with
  | [] => some out
  | c :: r =>
    if c.toNat < 128 then
      if r.length < c.toNat + 1 then none else und (out ++ r.take (c.toNat + 1)) (r.drop (c.toNat + 1))
    else if r.length < 2 then none
    else if nb (r.take 2) = 0 ∨ out.length < nb (r.take 2) then none
    else und (cp (c.toNat - 124) (nb (r.take 2)) out) (r.drop 2)
termination_by b.length
decreasing_by all_goals simp_wf; omega
theorem und_nil (out : List UInt8) : und out [] = some out := by rw [und]
theorem und_plain {out r : List UInt8} {c : UInt8} (h : c.toNat < 128) (hr : c.toNat + 1 ≤ r.length) : und out (c :: r) = und (out ++ r.take (c.toNat + 1)) (r.drop (c.toNat + 1)) := by
  rw [und, if_pos h, if_neg (by omega)]
theorem und_plain_no {out r : List UInt8} {c : UInt8} (h : c.toNat < 128) (hr : r.length < c.toNat + 1) : und out (c :: r) = none := by
  rw [und, if_pos h, if_pos hr]
theorem und_short {out r : List UInt8} {c : UInt8} (h : 128 ≤ c.toNat) (hr : r.length < 2) : und out (c :: r) = none := by
  rw [und, if_neg (by omega), if_pos hr]
theorem und_far {out r : List UInt8} {c : UInt8} (h : 128 ≤ c.toNat) (hr : 2 ≤ r.length) (hd : nb (r.take 2) = 0 ∨ out.length < nb (r.take 2)) : und out (c :: r) = none := by
  rw [und, if_neg (by omega), if_neg (by omega), if_pos hd]
theorem und_copy {out r : List UInt8} {c : UInt8} (h : 128 ≤ c.toNat) (hr : 2 ≤ r.length) (hd : ¬ (nb (r.take 2) = 0 ∨ out.length < nb (r.take 2))) : und out (c :: r) = und (cp (c.toNat - 124) (nb (r.take 2)) out) (r.drop 2) := by
  rw [und, if_neg (by omega), if_neg (by omega), if_neg hd]
end Go.Proofs.YtpbcdmefngbjjaaGreatDoor
