/- The following index: plain lists, and the program's step. -/
import Derived.Test.YtigidchicloleaaGreatDoorGE
import Derived.Test.YtigidchicloleaaGreatDoorGF
namespace Go.Proofs.YtigidchicloleaaGreatDoor.Arr
open Go.RowKit
open Go.Lib
theorem plc_add : ∀ (s l : List Nat) (a : Nat), l.length = s.length → plc s l a = a * prod s + plc s l 0
  | [], l, a, h => by
    obtain rfl : l = [] := List.eq_nil_of_length_eq_zero h
    simp [plc, prod]
  | s :: ss, [], a, h => absurd h (by simp)
  | s :: ss, i :: is, a, h => by
    have hl : is.length = ss.length := by simpa using h
    rw [plc, plc, plc_add ss is (a * s + i) hl, plc_add ss is (0 * s + i) hl, prod_cons, Nat.zero_mul, Nat.zero_add, Nat.add_mul, Nat.mul_assoc, Nat.add_assoc]
def ixOf : List Nat → Nat → List Nat
  | [], _ => []
  | _ :: ss, i => (i / prod ss) :: ixOf ss (i % prod ss)
theorem IsIx.tail {s i : Nat} {ss is : List Nat} (h : IsIx (s :: ss) (i :: is)) : i < s ∧ IsIx ss is :=
  ⟨h.2 0 (by simp), by have := h.1; simpa using this, fun k hk => by have := h.2 (k + 1) (by simp; omega); simpa using this⟩
theorem IsIx.cons {s i : Nat} {ss is : List Nat} (h1 : i < s) (h2 : IsIx ss is) : IsIx (s :: ss) (i :: is) :=
  ⟨by simp [h2.1], fun k hk => by
    cases k with
    | zero => simpa using h1
    | succ k => have := h2.2 k (by simpa using hk); simpa using this⟩
theorem ixOf_plc : ∀ (s l : List Nat), IsIx s l → ixOf s (plc s l 0) = l
  | [], l, h => by
    obtain rfl : l = [] := List.eq_nil_of_length_eq_zero h.1
    rfl
  | s :: ss, [], h => absurd h.1 (by simp)
  | s :: ss, i :: is, h => by
    obtain ⟨h1, h2⟩ := h.tail
    have hlt := (plc_lt ss is 0 h2).1
    rw [Nat.zero_add, Nat.one_mul] at hlt
    have e : plc (s :: ss) (i :: is) 0 = i * prod ss + plc ss is 0 := by
      rw [plc, plc_add ss is (0 * s + i) h2.1, Nat.zero_mul, Nat.zero_add]
    rw [e, ixOf, Nat.mul_comm i, Nat.mul_add_div (by omega), Nat.div_eq_of_lt hlt, Nat.add_zero, Nat.mul_add_mod, Nat.mod_eq_of_lt hlt, ixOf_plc ss is h2]
theorem ixOf_is : ∀ (s : List Nat) (i : Nat), i < prod s → IsIx s (ixOf s i) ∧ plc s (ixOf s i) 0 = i
  | [], i, h => by
    have : i = 0 := by simp [prod] at h; exact h
    subst this
    exact ⟨⟨rfl, fun k hk => absurd hk (by simp)⟩, rfl⟩
  | s :: ss, i, h => by
    rw [prod_cons] at h
    have hp : 0 < prod ss := by
      rcases Nat.eq_zero_or_pos (prod ss) with h0 | h0
      · rw [h0, Nat.mul_zero] at h; omega
      · exact h0
    obtain ⟨h1, h2⟩ := ixOf_is ss (i % prod ss) (Nat.mod_lt _ hp)
    refine ⟨IsIx.cons ?_ h1, ?_⟩
    · exact Nat.div_lt_of_lt_mul (by rw [Nat.mul_comm]; exact h)
    · rw [ixOf, plc, plc_add ss _ _ h1.1, h2, Nat.zero_mul, Nat.zero_add, Nat.mul_comm]
      exact Nat.div_add_mod _ _
def zeros (l : List Nat) : List Nat := l.map (fun _ => 0)
def incr : List Nat → List Nat → Option (List Nat)
  | s :: ss, i :: is => match incr ss is with
    | some r => some (i :: r)
    | none => if i + 1 < s then some ((i + 1) :: zeros ss) else none
  | _, _ => none
theorem zeros_is : ∀ (s l : List Nat), IsIx s l → IsIx s (zeros s) ∧ plc s (zeros s) 0 = 0
  | [], l, _ => ⟨⟨rfl, fun k hk => absurd hk (by simp)⟩, rfl⟩
  | s :: ss, [], h => absurd h.1 (by simp)
  | s :: ss, i :: is, h => by
    obtain ⟨h1, h2⟩ := h.tail
    obtain ⟨h3, h4⟩ := zeros_is ss is h2
    exact ⟨IsIx.cons (show 0 < s by omega) h3, by show plc ss (zeros ss) (0 * s + 0) = 0; rw [Nat.zero_mul]; exact h4⟩
theorem incr_is : ∀ (s l : List Nat), IsIx s l → (∀ r, incr s l = some r → IsIx s r ∧ plc s r 0 = plc s l 0 + 1) ∧ (incr s l = none → plc s l 0 + 1 = prod s)
  | [], l, h => by
    obtain rfl : l = [] := List.eq_nil_of_length_eq_zero h.1
    exact ⟨fun r hr => by simp [incr] at hr, fun _ => rfl⟩
  | s :: ss, [], h => absurd h.1 (by simp)
  | s :: ss, i :: is, h => by
    obtain ⟨h1, h2⟩ := h.tail
    obtain ⟨h3, h4⟩ := incr_is ss is h2
    obtain ⟨h5, h6⟩ := zeros_is ss is h2
    have e : ∀ j js, js.length = ss.length → plc (s :: ss) (j :: js) 0 = j * prod ss + plc ss js 0 := fun j js hl => by
      rw [plc, plc_add ss js (0 * s + j) hl, Nat.zero_mul, Nat.zero_add]
    cases hr : incr ss is with
    | some r =>
      obtain ⟨h7, h8⟩ := h3 r hr
      refine ⟨fun r' hr' => ?_, fun hn => by simp [incr, hr] at hn⟩
      obtain rfl : i :: r = r' := by simpa [incr, hr] using hr'
      exact ⟨IsIx.cons h1 h7, by rw [e _ _ h7.1, e _ _ h2.1, h8]; omega⟩
    | none =>
      have h9 := h4 hr
      by_cases hi : i + 1 < s
      · refine ⟨fun r' hr' => ?_, fun hn => by simp [incr, hr, hi] at hn⟩
        obtain rfl : (i + 1) :: zeros ss = r' := by simpa [incr, hr, hi] using hr'
        exact ⟨IsIx.cons hi h5, by rw [e _ _ h5.1, e _ _ h2.1, h6, Nat.add_mul]; omega⟩
      · refine ⟨fun r' hr' => by simp [incr, hr, hi] at hr', fun _ => ?_⟩
        obtain rfl : i + 1 = s := by omega
        rw [e _ _ h2.1, prod_cons, Nat.add_mul]; omega
theorem incr_drop : ∀ (k : Nat) (s l r : List Nat), l.length = s.length → incr (s.drop k) (l.drop k) = some r → incr s l = some (l.take k ++ r)
  | 0, _, _, _, _, h => h
  | k + 1, [], l, r, _, h => by simp [incr] at h
  | k + 1, s :: ss, [], r, hl, _ => absurd hl (by simp)
  | k + 1, s :: ss, i :: is, r, hl, h => by
    have := incr_drop k ss is r (by simpa using hl) (by simpa using h)
    simp [incr, this]
theorem incr_at {s l : List Nat} {k : Nat} (hk : k < s.length) (hl : l.length = s.length) (h : incr (s.drop (k + 1)) (l.drop (k + 1)) = none) :
    incr (s.drop k) (l.drop k) = if l.getD k 0 + 1 < s.getD k 0 then some ((l.getD k 0 + 1) :: zeros (s.drop (k + 1))) else none := by
  have hk2 : k < l.length := by omega
  rw [List.drop_eq_getElem_cons hk, List.drop_eq_getElem_cons hk2, incr, h]
  simp [List.getD_eq_getElem?_getD, hk, hk2]
def ixC (l : List Nat) : Array Value := (l.map (fun x => Value.int .i64 ((x : Nat) : Int))).toArray
theorem set_mid {α : Type} : ∀ (A : List α) (x v : α) (B : List α), (A ++ x :: B).set A.length v = A ++ v :: B
  | [], _, _, _ => rfl
  | a :: A, x, v, B => by simp [set_mid A x v B]
theorem ixC_set (A : List Nat) (x v : Nat) (B : List Nat) {k : Nat} (hk : A.length = k) : (ixC (A ++ x :: B)).setIfInBounds k (.int .i64 ((v : Nat) : Int)) = ixC (A ++ v :: B) := by
  subst hk
  unfold ixC
  rw [List.setIfInBounds_toArray, List.map_append, List.map_cons, List.map_append, List.map_cons]
  have := set_mid (A.map (fun x => Value.int .i64 ((x : Nat) : Int))) (.int .i64 ((x : Nat) : Int)) (.int .i64 ((v : Nat) : Int)) (B.map (fun x => Value.int .i64 ((x : Nat) : Int)))
  rw [List.length_map] at this
  rw [this]
theorem ixC_at {l : List Nat} {k : Nat} (hk : k < l.length) : (ixC l)[k]? = some (.int .i64 ((l.getD k 0 : Nat) : Int)) := by
  simp [ixC, List.getD_eq_getElem?_getD, hk]
theorem heap_set (W : World) (g k : Nat) (v : Value) (cs : Array Value) (t : TypeId) (h : W.heap[g]? = some (.cells cs t (0, 0))) : (W.setCell ⟨g, k, none⟩ v).heap[g]? = some (.cells (cs.setIfInBounds k v) t (0, 0)) := by
  obtain ⟨h1, h2⟩ := Array.getElem?_eq_some_iff.1 h
  unfold World.setCell
  rw [Array.getElem?_eq_getElem (by simpa using h1), Array.getElem_modify]
  simp [h2]
end Go.Proofs.YtigidchicloleaaGreatDoor.Arr
