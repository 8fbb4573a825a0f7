/- Slice, whatever it is given. -/
import Derived.Test.YtigidchicloleaaGreatDoorGV
namespace Go.Proofs.YtigidchicloleaaGreatDoor.Arr
open Go.RowKit Go.Shelf
open Go.Lib
def SliceAll (s : List Int) (l : List (List UInt8)) (cuts : List (Int × Int × Int)) (w : World) (e : Ending) (w' : World) : Prop :=
  Below w.heap.size w w' ∧ ∃ (z : Int) (q1 q2 : Option Addr) (n1 d1 m1 d2 : Nat) (s1 : List Nat) (l1 : List (List UInt8)), e = .returned (.tuple #[.agg #[.slice q1 n1 d1, .slice q2 m1 d2], .int .i64 z]) ∧ s1.length = n1 ∧ l1.length = m1 ∧ n1 ≤ 4 ∧ m1 ≤ 4096 ∧ RdN w' q1 s1 ∧ RdS w' q2 l1 ∧
    ((z = 0 ∧ ∃ t : List Nat, s = t.map Int.ofNat ∧ Shp t ∧ validA s l = true ∧ slabOk t cuts = true ∧ s1 = cnts cuts ∧ l1 = sliceV t l cuts) ∨ (z ≠ 0 ∧ s1 = [] ∧ l1 = []))
theorem sliceall_no {s : List Int} {l : List (List UInt8)} {cuts : List (Int × Int × Int)} {w : World} {k : Int} (hk : k ≠ 0) {e : Ending} {w' : World} (h : SliceNo w k e w') : SliceAll s l cuts w e w' :=
  ⟨h.1, k, none, none, 0, 0, 0, 0, [], [], h.2, rfl, rfl, by omega, by omega, ⟨fun z hz => (by cases hz), .inl rfl⟩, .inl rfl, .inr ⟨hk, rfl, rfl⟩⟩
theorem slice_all (p q cq : Option Addr) (c d n m k cd : Nat) (s : List Int) (l : List (List UInt8)) (cuts : List (Int × Int × Int)) (w : World) (he : Env w) (hs : Hid (s.length = n)) (hl : Hid (l.length = m)) (hm : m ≤ 5000) (hk : Hid (cuts.length = k)) (hp : Rd w p s) (hq : RdS w q l) (hcq : RdC w cq cuts) :
    Calls Tryz.prog 24 #[.agg #[.slice p n c, .slice q m d], .slice cq k cd] w (SliceAll s l cuts w) := by
  cases hva : validA s l with
  | false => exact (slice_no1 p q cq c d n m k cd s l w he hs hl hm hp hq hva).mono (fun e w' h => sliceall_no (by decide) h)
  | true =>
    have hv : vs s = true := by
      unfold validA at hva
      rw [Bool.and_eq_true] at hva
      exact hva.1
    obtain ⟨t, rfl, ht⟩ := vs_yes hv
    have htl : t.length = n := by rw [← hs.out, List.length_map]
    cases hsl : slabOk t cuts with
    | false => exact (slice_no2 p q cq c d n m k cd t l cuts w he (Lib.hid htl) hl hm (Lib.hid ht) hk hp hq hcq hva (Lib.hid hsl)).mono (fun e w' h => sliceall_no (by decide) h)
    | true =>
      obtain ⟨hcl, hcz, hcb, hcp⟩ := cnts_ok hsl ht.2.1
      obtain rfl : k = n := by rw [← hk.out, hcl, htl]
      refine (slice_yes p q cq c d k m cd t cuts l w he (Lib.hid htl) hl hm (Lib.hid ht) hp hq hcq hva (Lib.hid hsl)).mono ?_
      rintro e w' ⟨hb, q', d', V, rfl, h1, -, -, -, h5, -⟩
      have := ht.1
      have := ht.2.2
      exact ⟨hb, 0, q', some ⟨V, 0, none⟩, k, d', _, _, cnts cuts, sliceV t l cuts, rfl, by rw [cnts, List.length_map, hk.out], sliceV_len t l cuts, by omega, by omega, h1, h5, .inl ⟨rfl, t, rfl, ht, hva, hsl, rfl, rfl⟩⟩
end Go.Proofs.YtigidchicloleaaGreatDoor.Arr
