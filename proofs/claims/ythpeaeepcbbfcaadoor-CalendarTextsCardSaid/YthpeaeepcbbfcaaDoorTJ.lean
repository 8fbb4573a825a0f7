/- The texts of dates: the document's Parse. -/
import Derived.Test.YthpeaeepcbbfcaaDoorTI
import Derived.Deep.RegionWith
namespace Go.Proofs.YthpeaeepcbbfcaaDoor
open Go.RowKit

/-- Is the byte at place j right? -/
def okAt (t : List UInt8) (j : Nat) : Bool := if j = 4 ∨ j = 7 then t.getD j 0 == 45 else isD (t.getD j 0)
theorem pat_dash (k : Nat) (h : k < 10) (hd : k = 4 ∨ k = 7) : (((⟨#[48, 48, 48, 48, 45, 48, 48, 45, 48, 48]⟩ : ByteArray)[k]'(show k < 10 from h)).toNat : Int) = 45 := by
  rcases hd with rfl | rfl <;> rfl
theorem pat_dig (k : Nat) (h : k < 10) (hd : ¬ (k = 4 ∨ k = 7)) : (((⟨#[48, 48, 48, 48, 45, 48, 48, 45, 48, 48]⟩ : ByteArray)[k]'(show k < 10 from h)).toNat : Int) = 48 := by
  have : k = 0 ∨ k = 1 ∨ k = 2 ∨ k = 3 ∨ k = 5 ∨ k = 6 ∨ k = 8 ∨ k = 9 := by omega
  rcases this with rfl | rfl | rfl | rfl | rfl | rfl | rfl | rfl <;> rfl
theorem byte_of (b : ByteArray) (k : Nat) (h : k < b.size) : b.data.toList.getD k 0 = b[k] := by
  rw [List.getD_eq_getElem?_getD, List.getElem?_eq_getElem (by simpa using h)]; rfl
theorem ok_step {t : List UInt8} {k : Nat} (h : ∀ j, j < k → okAt t j = true) (hk : okAt t k = true) : ∀ j, j < k + 1 → okAt t j = true := fun j hj => by
  by_cases e : j = k
  · subst e; exact hk
  · exact h j (by omega)
theorem ok_dash {t : List UInt8} {k : Nat} {c : UInt8} (hd : k = 4 ∨ k = 7) (hb : t.getD k 0 = c) (h : c = 45) : okAt t k = true := by
  unfold okAt; rw [if_pos hd, hb, h]; rfl
theorem ok_dig {t : List UInt8} {k : Nat} {c : UInt8} (hd : ¬ (k = 4 ∨ k = 7)) (hb : t.getD k 0 = c) (h1 : ¬ (c.toNat : Int) < 48) (h2 : ¬ (57 : Int) < c.toNat) : okAt t k = true := by
  unfold okAt; rw [if_neg hd, hb]; exact isD_iff.2 ⟨by omega, by omega⟩

/-- A call of value. -/
def ValIs (x : ByteArray) (v : Int) : Prop := ∀ W, Calls Tryd.prog 16 #[.string x] W fun e w' => e = .returned (.int .i64 v) ∧ w' = W
/-- What the document's Parse keeps: the result's box. -/
structure Pk (w0 : World) (g : Nat) (W : World) : Prop where
  below : Below w0.heap.size w0 W
  box : Bk W g #[.int .i64 0, .int .i64 0, .int .i64 0] 23
theorem Pk.drew {w0 W : World} {g : Nat} (h : Pk w0 g W) : Pk w0 g W.drew := ⟨h.below.drew, h.box⟩
theorem Pk.next {w0 W W' : World} {g : Nat} (h : Pk w0 g W) (hb : Below W.heap.size W W') : Pk w0 g W' := ⟨bel_next h.below hb, h.box.next hb⟩
end Go.Proofs.YthpeaeepcbbfcaaDoor
