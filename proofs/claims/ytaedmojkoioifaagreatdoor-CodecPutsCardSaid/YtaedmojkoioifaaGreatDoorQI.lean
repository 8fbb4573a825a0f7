/- Texts of units: scanExponent. Texts of units: scanExponent at every text. Texts of units: scanSymbol. Texts of units: scanSymbol at every text; Parse. -/
import Derived.Test.YtaedmojkoioifaaGreatDoorQH
set_option maxHeartbeats 1600000
set_option maxRecDepth 100000
namespace Go.Proofs.YtaedmojkoioifaaGreatDoor
open Go.RowKit Go.Lib Big
theorem satT_snoc (l : List UInt8) (c : UInt8) : satT (l ++ [c]) = if satT l ≤ 12 then satT l * 10 + ((c.toNat : Int) - 48) else satT l := by
  unfold satT; rw [List.foldl_append]; rfl
theorem sat_bd (l : List UInt8) (h : l.all isDig = true) : 0 ≤ satT l ∧ satT l ≤ 129 := by
  suffices ∀ (n : Nat) (l : List UInt8), l.length = n → l.all isDig = true → 0 ≤ satT l ∧ satT l ≤ 129 from this l.length l rfl h
  intro n
  induction n with
  | zero => intro l hl _; rw [List.eq_nil_of_length_eq_zero hl]; exact ⟨by decide, by decide⟩
  | succ n ih =>
    intro l hl hd
    obtain ⟨m, c, rfl⟩ : ∃ m c, l = m ++ [c] := ⟨l.dropLast, l.getLast (by intro h; rw [h] at hl; simp at hl), (List.dropLast_concat_getLast _).symm⟩
    rw [List.all_append, Bool.and_eq_true] at hd
    obtain ⟨h1, h2⟩ := ih m (by simpa using hl) hd.1
    have hc : isDig c = true := by simpa using hd.2
    unfold isDig at hc
    simp at hc
    rw [satT_snoc]
    split <;> omega
theorem tw_take (p : UInt8 → Bool) (l : List UInt8) (j : Nat) (hj : j ≤ (l.takeWhile p).length) : (l.take j).all p = true := by
  induction l generalizing j with
  | nil => simp
  | cons x l ih =>
    cases j with
    | zero => simp
    | succ j =>
      rw [List.takeWhile_cons] at hj
      by_cases hx : p x = true
      · rw [if_pos hx, List.length_cons] at hj
        rw [List.take_succ_cons, List.all_cons, hx, ih j (by omega)]; rfl
      · rw [if_neg hx] at hj; simp at hj
structure ExpoAt (s : ByteArray) (st D : Nat) : Prop where
  size : st + D ≤ s.size
  cnt : cntD (s.data.toList.drop st) = D
theorem ExpoAt.step {s : ByteArray} {st D k : Nat} (h : ExpoAt s st D) (h1 : st ≤ k) (h2 : k < st + D) : 48 ≤ (s[k]'(by have := h.size; omega)).toNat ∧ (s[k]'(by have := h.size; omega)).toNat ≤ 57 ∧
    satT ((s.data.toList.drop st).take (k + 1 - st)) = if satT ((s.data.toList.drop st).take (k - st)) ≤ 12 then satT ((s.data.toList.drop st).take (k - st)) * 10 + (((s[k]'(by have := h.size; omega)).toNat : Int) - 48) else satT ((s.data.toList.drop st).take (k - st)) := by
  have hs := h.size
  have hk : k - st < (s.data.toList.drop st).length := by simp; omega
  have hc := h.cnt
  have hall := tw_take isDig (s.data.toList.drop st) (k - st + 1) (by unfold cntD at hc; omega)
  rw [List.take_succ_eq_append_getElem hk, List.all_append, Bool.and_eq_true] at hall
  have hd : isDig ((s.data.toList.drop st)[k - st]) = true := by simpa using hall.2
  have he : (s.data.toList.drop st)[k - st] = s[k]'(by omega) := by
    rw [List.getElem_drop]
    have : st + (k - st) = k := by omega
    simp only [this]
    rfl
  rw [he] at hd
  unfold isDig at hd
  simp at hd
  refine ⟨hd.1, hd.2, ?_⟩
  rw [show k + 1 - st = k - st + 1 from by omega, List.take_succ_eq_append_getElem hk, satT_snoc, he]
theorem ExpoAt.bd {s : ByteArray} {st D k : Nat} (h : ExpoAt s st D) (h2 : k ≤ st + D) : 0 ≤ satT ((s.data.toList.drop st).take (k - st)) ∧ satT ((s.data.toList.drop st).take (k - st)) ≤ 129 := by
  apply sat_bd
  have hc := h.cnt
  exact tw_take isDig _ _ (by unfold cntD at hc; omega)
end Go.Proofs.YtaedmojkoioifaaGreatDoor
