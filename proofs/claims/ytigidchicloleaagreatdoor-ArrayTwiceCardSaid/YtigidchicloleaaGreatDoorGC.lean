/- Indexes: which lists are indexes of a shape, and their places. -/
import Derived.Test.YtigidchicloleaaGreatDoorGB
import Derived.BigQuiet
import Derived.Deep.QuietTactic
set_option maxHeartbeats 1000000
set_option maxRecDepth 100000
namespace Go.Proofs.YtigidchicloleaaGreatDoor.Arr
open Go.RowKit
open Go.Lib
def plc : List Nat → List Nat → Nat → Nat
  | s :: ss, i :: is, a => plc ss is (a * s + i)
  | _, _, a => a
def IsIx (s l : List Nat) : Prop := l.length = s.length ∧ ∀ k, k < s.length → l.getD k 0 < s.getD k 0
theorem plc_nil (a : Nat) : plc [] [] a = a := rfl
theorem plc_step : ∀ (s l : List Nat) (i a : Nat), i < s.length → l.length = s.length → plc (s.drop i) (l.drop i) a = plc (s.drop (i + 1)) (l.drop (i + 1)) (a * s.getD i 0 + l.getD i 0)
  | s, l, i, a, h, hl => by
    have h2 : i < l.length := by omega
    rw [List.drop_eq_getElem_cons h, List.drop_eq_getElem_cons h2, plc, List.getD_eq_getElem?_getD, List.getElem?_eq_getElem h, List.getD_eq_getElem?_getD, List.getElem?_eq_getElem h2]
    rfl
theorem prod_cons (x : Nat) (l : List Nat) : prod (x :: l) = x * prod l := by
  have h : ∀ (l : List Nat) (a : Nat), l.foldl (· * ·) a = a * l.foldl (· * ·) 1 := fun l => by
    induction l with
    | nil => intro a; simp
    | cons y l ih => intro a; simp only [List.foldl_cons, Nat.one_mul]; rw [ih (a * y), ih y, Nat.mul_assoc]
  rw [prod, List.foldl_cons, Nat.one_mul, h, prod]
theorem plc_lt : ∀ (s l : List Nat) (a : Nat), IsIx s l → plc s l a < (a + 1) * prod s ∧ a * prod s ≤ plc s l a
  | [], l, a, h => by
    obtain rfl : l = [] := List.eq_nil_of_length_eq_zero h.1
    rw [plc_nil]; simp [prod]
  | s :: ss, [], a, h => absurd h.1 (by simp)
  | s :: ss, i :: is, a, h => by
    have hi : i < s := h.2 0 (by simp)
    have ht : IsIx ss is := ⟨by have := h.1; simpa using this, fun k hk => by have := h.2 (k + 1) (by simp; omega); simpa using this⟩
    obtain ⟨h1, h2⟩ := plc_lt ss is (a * s + i) ht
    rw [plc, prod_cons]
    have e1 : (a * s + i + 1) * prod ss ≤ (a + 1) * s * prod ss := Nat.mul_le_mul_right _ (by rw [Nat.add_mul]; omega)
    have e2 : a * s * prod ss ≤ (a * s + i) * prod ss := Nat.mul_le_mul_right _ (by omega)
    rw [← Nat.mul_assoc, ← Nat.mul_assoc]
    omega
theorem prod_pos : ∀ (s l : List Nat), IsIx s l → 1 ≤ prod s
  | [], _, _ => by simp [prod]
  | s :: ss, [], h => absurd h.1 (by simp)
  | s :: ss, i :: is, h => by
    have hi : i < s := h.2 0 (by simp)
    have ht : IsIx ss is := ⟨by have := h.1; simpa using this, fun k hk => by have := h.2 (k + 1) (by simp; omega); simpa using this⟩
    rw [prod_cons]
    exact Nat.mul_le_mul (show 1 ≤ s by omega) (prod_pos ss is ht)
theorem IsIx.drop {s l : List Nat} (h : IsIx s l) (i : Nat) : IsIx (s.drop i) (l.drop i) :=
  ⟨by rw [List.length_drop, List.length_drop, h.1], fun k hk => by
    rw [List.length_drop] at hk
    have := h.2 (i + k) (by omega)
    rw [List.getD_eq_getElem?_getD, List.getD_eq_getElem?_getD] at this ⊢
    rwa [List.getElem?_drop, List.getElem?_drop]⟩
theorem plc_ge {s l : List Nat} {a : Nat} (h : IsIx s l) : a ≤ plc s l a := by
  have h1 := (plc_lt s l a h).2
  have h2 := prod_pos s l h
  exact Nat.le_trans (Nat.le_mul_of_pos_right a h2) h1
theorem plc_end {s l : List Nat} {n a : Nat} (h1 : s.length = n) (h2 : l.length = n) : plc (s.drop n) (l.drop n) a = a := by
  rw [List.drop_of_length_le (by omega), List.drop_of_length_le (by omega)]; rfl
theorem place_any (p q : Option Addr) (c d n : Nat) (s l : List Nat) (w : World) (hn : n ≤ 4) (hs : Hid (s.length = n)) (hl : Hid (l.length = n)) (hi : IsIx s l) (h4 : prod s ≤ 4096) (hp : RdN w p s) (hq : RdN w q l) :
    Calls Tryz.prog 70 #[.slice p n c, .slice q n d] w fun e w' => w = w' ∧ e = .returned (.int .i64 ((plc s l 0 : Nat) : Int)) := by
  have HP := Lib.hid hp
  have HQ := Lib.hid hq
  have HI := Lib.hid hi
  have hni : (n : Int) ≤ 4 := by omega
  have hlt4 : plc s l 0 < 4096 := by have := (plc_lt s l 0 hi).1; omega
  obtain ⟨R, HR⟩ : ∃ R, Hid (R = plc s l 0) := ⟨_, rfl⟩
  rw [← HR.out] at hlt4 ⊢
  clear hp hq hi h4
  go_enter Tryz.func70, Tryz.ntmps70
  go_wp2_with fail
  go_loop [5, 10] (fun pv iv => ∃ i a : Nat, i ≤ n ∧ iv = .int .i64 i ∧ pv = .int .i64 a ∧ Hid (R = plc (s.drop i) (l.drop i) a)) (fun _ iv => n - (Go.RowKit.intOf iv).toNat)
  case atStart => exact ⟨0, 0, Nat.zero_le _, rfl, rfl, HR⟩
  case round =>
    obtain ⟨i, a, hin, rfl, rfl, HA⟩ := hrel
    have ii : (i : Int) ≤ (n : Int) := by omega
    by_cases hlt : i < n
    · have ilt : (i : Int) < (n : Int) := by omega
      obtain ⟨b1, o1, x, rfl, -, hc1, HX⟩ := HP.out.at (k := i) (by rw [hs.out]; exact hlt)
      obtain ⟨b2, o2, y, rfl, -, hc2, HY⟩ := HQ.out.at (k := i) (by rw [hl.out]; exact hlt)
      obtain ⟨m, HM⟩ : ∃ m, Hid (m = a * x) := ⟨_, rfl⟩
      obtain ⟨a2, HA2⟩ : ∃ a2, Hid (a2 = m + y) := ⟨_, rfl⟩
      have hst : Hid (R = plc (s.drop (i + 1)) (l.drop (i + 1)) a2) := Lib.hid (by
        rw [HA.out, plc_step s l i a (by rw [hs.out]; exact hlt) (by rw [hs.out, hl.out]), HA2.out, HM.out, HX.out, HY.out])
      have ha2 : a2 < 4096 := by have := plc_ge (a := a2) (HI.out.drop (i + 1)); rw [← hst.out] at this; omega
      have hmul : (a : Int) * (x : Int) = (m : Int) := by rw [HM.out]; exact (Int.natCast_mul a x).symm
      have hadd : (m : Int) + (y : Int) = (a2 : Int) := by rw [HA2.out]; omega
      have ia2 : (a2 : Int) ≤ 4096 := by omega
      have im : (m : Int) ≤ 4096 := by rw [HA2.out] at ha2; omega
      go_wp2_with fail
      go_round
      case rel => exact ⟨i + 1, a2, by omega, by go_num, rfl, hst⟩
      case measure => simp [Go.RowKit.intOf]; omega
    · obtain rfl : i = n := by omega
      have ilt : ¬ (i : Int) < (i : Int) := by omega
      have hfin : Hid (a = R) := Lib.hid (by rw [HA.out, plc_end hs.out hl.out])
      go_wp2_with fail
      go_ret
      exact ⟨rfl, by rw [← hfin.out]; rfl⟩
end Go.Proofs.YtigidchicloleaaGreatDoor.Arr
