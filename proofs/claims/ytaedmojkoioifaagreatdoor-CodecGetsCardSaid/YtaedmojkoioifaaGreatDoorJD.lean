/- Lists of texts that grow. -/
import Derived.Test.YtaedmojkoioifaaGreatDoorKJ
import Derived.Test.YtaedmojkoioifaaGreatDoorKO
import Derived.Maps.AppendAt
import Derived.BigQuiet
namespace Go.Proofs.YtaedmojkoioifaaGreatDoor
open Go.RowKit
open Go.Lib
def strs (l : List (List UInt8)) : List Value := l.map (fun x => Value.string ⟨List.toArray x⟩)
theorem wpList_append_1s {w : World} {ops : Array Oper} {rest : List Oper} {o : Oper} {a : Act} {Q : Exit → Act → World → Prop} (hgd : o.guard = none) (s x : Operand)
    (ho : o.op = .call { callee := .builtin .append, args := #[s, x], argTypes := #[22, 22] })
    (B : Nat) (pv : Option Addr) (cv n : Nat) (X : List (List UInt8)) (hs : a.eval s = .slice pv n cv) (hown : w.ownsRow B 9 1 (.slice pv n cv) n (strs X))
    (g : Nat) (y : List UInt8) (hx : a.eval x = .slice (some ⟨g, 0, none⟩) 1 1) (hc : w.cell? ⟨g, 0, none⟩ = some (.string ⟨List.toArray y⟩)) (hlen : n ≤ 100000) (hB : B ≤ w.heap.size)
    (h : ∀ gv cv' w', w'.ownsRow B 9 1 (.slice (some ⟨gv, 0, none⟩) (n + 1) cv') (n + 1) (strs (X ++ [y])) → w.grownBy w' (Value.slice pv n cv).ownBlock → wpList Tryz.prog ops Q rest (a.put o.dst (.slice (some ⟨gv, 0, none⟩) (n + 1) cv')) w') : wpList Tryz.prog ops Q (o :: rest) a w := by
  obtain ⟨i0, hi, hz0, hz1, hz2⟩ := info_parts infoS9
  refine wpList_append_own_at _ hgd s x 22 ho B 9 i0 (.string ⟨#[]⟩) 1 16 Tryz.underlying22 hi hz0 hz1 hz2 rfl (by decide) _ _ _ hs hown ⟨g, 0, none⟩ 1 1 [.string ⟨List.toArray y⟩] hx rfl ?_ ?_ (by unfold maxLen; omega) (by omega) hB ?_
  · intro j u hj
    cases j with
    | zero => simp at hj; subst hj; exact hc
    | succ j => simp at hj
  · intro u hu
    obtain rfl := List.mem_singleton.1 hu
    rfl
  · intro v' w' h1 h2 _ _
    obtain ⟨gv, cv', rfl⟩ : ∃ g c, v' = .slice (some ⟨g, 0, none⟩) (n + 1) c := by
      obtain ⟨-, ⟨-, e⟩ | ⟨g, cap, _, e, -⟩⟩ := id h1
      · omega
      · exact ⟨g, cap, e⟩
    refine h gv cv' w' ?_ h2
    rw [strs, List.map_append]
    exact h1
theorem strs_reads {W : World} {B n cv : Nat} {pv : Option Addr} {X : List (List UInt8)} (h : W.ownsRow B 9 1 (.slice pv n cv) n (strs X)) (hx : X.length = n) : Ss W pv X := by
  obtain ⟨-, ⟨e, e2⟩ | ⟨g, cap, cur, e, hg, hh, -⟩⟩ := id h
  · exact .inl (by omega)
  · injection e with e _ e3
    subst e
    refine .inr ⟨g, 0, rfl, (Array.getElem?_eq_some_iff.1 hh).1, fun j hj => ?_⟩
    rw [Nat.zero_add, h.cellAt j (by omega)]
    unfold strs
    rw [List.getElem?_map, List.getD_eq_getElem?_getD, List.getElem?_eq_getElem hj]; rfl
theorem below_own9 {w U w9 : World} {pv : Option Addr} {cv n : Nat} {vals : List Value} (hb : Below w.heap.size w U) (ho : U.ownsRow w.heap.size 9 1 (.slice pv n cv) n vals) (hg : U.grownBy w9 (Value.slice pv n cv).ownBlock) : Below w.heap.size w w9 :=
  hb.grown hg hb.size (fun k e => by
    obtain ⟨-, ⟨hv, -⟩ | ⟨g, cap, cur, hv, hg, -⟩⟩ := ho
    · rw [hv] at e; cases e
    · rw [hv] at e; cases e; exact hg)
end Go.Proofs.YtaedmojkoioifaaGreatDoor
namespace Go.Proofs.YtaedmojkoioifaaGreatDoor
open Go.RowKit
open Go.Lib
theorem sl_drop {W : World} {p : Option Addr} {l : List UInt8} {n : Nat} (h : Bs W p l) (hn : n < l.length) : Bs W (p.map fun x => x.add n) (l.drop n) := by
  rcases h with h0 | ⟨b, off, hp, hlt, hc⟩
  · omega
  · have h2 : Bs W (some ⟨b, off, none⟩) l := .inr ⟨b, off, rfl, hlt, hc⟩
    rw [hp, Option.map_some, add_lit]
    exact bs_drop h2 hn
def GI (k : Int) (n : Nat) (lb lr : List UInt8) (ys : List (List UInt8)) (i : Nat) : Prop := ∀ xs : List (List UInt8), xs.length = n → chkE k xs = 0 → putT k xs = lb → lr = left k xs i ∧ ys = xs.take i
theorem fit_of_chk {k : Int} {xs : List (List UInt8)} (h : chkE k xs = 0) : ∀ x ∈ xs, fitT k x = true := by
  unfold chkE at h
  by_cases h1 : isT k = false
  · rw [if_pos h1] at h; cases h
  · rw [if_neg h1] at h
    by_cases h2 : xs.all (fitT k) = false
    · rw [if_pos h2] at h; cases h
    · exact List.all_eq_true.1 (by simpa using h2)
theorem gi_start {k : Int} {n P : Nat} {lb : List UInt8} (hP : (n + 7) / 8 = P) : GI k n lb (lb.drop P) [] 0 := fun xs hx hz hp => by
  refine ⟨?_, rfl⟩
  rw [← hp, put_left, hx, hP]
  exact List.drop_left' (stP_len _ _ _)
theorem gi_bit {k : Int} {n P i : Nat} {lb : List UInt8} {xs : List (List UInt8)} (hx : xs.length = n) (hP : (n + 7) / 8 = P) (hp : putT k xs = lb) (hi : i < n) : (lb.getD (i / 8) 0).toNat.testBit (i % 8) = decide (xs.getD i [] ≠ []) := by
  have h := stP_bit xs P n (by omega) i (by omega)
  have e : lb.getD (i / 8) 0 = (stP xs P n).getD (i / 8) 0 := by
    rw [← hp, put_left, hx, hP, List.getD_eq_getElem?_getD, List.getElem?_append_left (by rw [stP_len]; omega), ← List.getD_eq_getElem?_getD]
  rw [e, h]
  congr 1
  exact propext ⟨fun h => h.2, fun h => ⟨hi, h⟩⟩
theorem gi_at {k : Int} {n i : Nat} {lb lr : List UInt8} {ys xs : List (List UInt8)} (h : GI k n lb lr ys i) (hx : xs.length = n) (hz : chkE k xs = 0) (hp : putT k xs = lb) (hi : i < n) : lr = elemL k (xs.getD i []) ++ left k xs (i + 1) ∧ fitT k (xs.getD i []) = true ∧ ys ++ [xs.getD i []] = xs.take (i + 1) := by
  obtain ⟨h1, h2⟩ := h xs hx hz hp
  have hil : i < xs.length := by omega
  refine ⟨by rw [h1, left_at hil], fit_of_chk hz _ (by rw [List.getD_eq_getElem?_getD, List.getElem?_eq_getElem hil]; exact List.getElem_mem _), by rw [h2, take_at hil]⟩
theorem gi_text {n i P : Nat} {lb lr : List UInt8} {ys : List (List UInt8)} (h : GI 5 n lb lr ys i) (hi : i < n) (hP : (n + 7) / 8 = P) (hb : (lb.getD (i / 8) 0).toNat.testBit (i % 8) = true) :
    ((lr.length < 1 ∨ lr.length < 1 + (lr.getD 0 0).toNat) → ∀ xs : List (List UInt8), xs.length = n → chkE 5 xs = 0 → putT 5 xs ≠ lb) ∧
    (num ((lr.drop 1).take (lr.getD 0 0).toNat) = none → ∀ xs : List (List UInt8), xs.length = n → chkE 5 xs = 0 → putT 5 xs ≠ lb) ∧
    GI 5 n lb (lr.drop (1 + (lr.getD 0 0).toNat)) (ys ++ [(lr.drop 1).take (lr.getD 0 0).toNat]) (i + 1) := by
  have key : ∀ xs : List (List UInt8), xs.length = n → chkE 5 xs = 0 → putT 5 xs = lb → ∃ x R, x ≠ [] ∧ fitT 5 x = true ∧ x = xs.getD i [] ∧ R = left 5 xs (i + 1) ∧ lr = UInt8.ofNat x.length :: (x ++ R) ∧ (lr.getD 0 0).toNat = x.length ∧ ys ++ [x] = xs.take (i + 1) := fun xs hx hz hp => by
    obtain ⟨h1, h2, h3⟩ := gi_at h hx hz hp hi
    have hbit := gi_bit hx hP hp hi
    rw [hb] at hbit
    have hne : xs.getD i [] ≠ [] := of_decide_eq_true hbit.symm
    have hl := fit_len h2
    refine ⟨_, _, hne, h2, rfl, rfl, ?_, ?_, h3⟩
    · rw [h1]; unfold elemL; rw [if_pos rfl, if_neg hne]; rfl
    · rw [h1]; unfold elemL; rw [if_pos rfl, if_neg hne]
      show (UInt8.ofNat (xs.getD i []).length).toNat = _
      rw [UInt8.toNat_ofNat']; omega
  refine ⟨fun hlen xs hx hz hp => ?_, fun hnum xs hx hz hp => ?_, fun xs hx hz hp => ?_⟩
  · obtain ⟨x, R, h1, h2, h3, h4, h5, h6, h7⟩ := key xs hx hz hp
    rw [h6] at hlen
    rw [h5, List.length_cons, List.length_append] at hlen
    omega
  · obtain ⟨x, R, h1, h2, h3, h4, h5, h6, h7⟩ := key xs hx hz hp
    rw [h6, h5] at hnum
    have e : ((UInt8.ofNat x.length :: (x ++ R)).drop 1).take x.length = x := List.take_left
    rw [e] at hnum
    unfold fitT at h2
    rw [if_neg (by decide), if_neg (by decide), if_neg (by decide), if_neg (by decide), if_pos rfl, hnum] at h2
    cases x with
    | nil => exact h1 rfl
    | cons => cases h2
  · obtain ⟨x, R, h1, h2, h3, h4, h5, h6, h7⟩ := key xs hx hz hp
    rw [h6]
    have e1 : (lr.drop 1).take x.length = x := by rw [h5]; exact List.take_left
    have e2 : lr.drop (1 + x.length) = R := by rw [h5, Nat.add_comm]; exact List.drop_left
    rw [e1, e2]
    exact ⟨h4, h7⟩
theorem gi_skip {k : Int} {n i P : Nat} {lb lr : List UInt8} {ys : List (List UInt8)} (h : GI k n lb lr ys i) (hi : i < n) (hP : (n + 7) / 8 = P) (hb : (lb.getD (i / 8) 0).toNat.testBit (i % 8) = false) :
    (lr.length < widT k → ∀ xs : List (List UInt8), xs.length = n → chkE k xs = 0 → putT k xs ≠ lb) ∧ GI k n lb (lr.drop (widT k)) (ys ++ [[]]) (i + 1) := by
  have key : ∀ xs : List (List UInt8), xs.length = n → chkE k xs = 0 → putT k xs = lb → ∃ R, R = left k xs (i + 1) ∧ lr = elemL k [] ++ R ∧ (elemL k []).length = widT k ∧ ys ++ [[]] = xs.take (i + 1) := fun xs hx hz hp => by
    obtain ⟨h1, h2, h3⟩ := gi_at h hx hz hp hi
    have hbit := gi_bit hx hP hp hi
    rw [hb] at hbit
    have hne : xs.getD i [] = [] := Classical.not_not.1 (of_decide_eq_false hbit.symm)
    rw [hne] at h1 h3
    refine ⟨_, rfl, h1, ?_, h3⟩
    unfold elemL
    by_cases h5 : k = 5
    · rw [if_pos h5, if_pos rfl, h5]; rfl
    · rw [if_neg h5, be_length]
  refine ⟨fun hlen xs hx hz hp => ?_, fun xs hx hz hp => ?_⟩
  · obtain ⟨R, h1, h2, h3, h4⟩ := key xs hx hz hp
    rw [h2, List.length_append, h3] at hlen
    omega
  · obtain ⟨R, h1, h2, h3, h4⟩ := key xs hx hz hp
    refine ⟨?_, h4⟩
    rw [h2, ← h1]
    exact List.drop_left' h3
theorem gi_int {k : Int} {n i P : Nat} {lb lr : List UInt8} {ys : List (List UInt8)} (h : GI k n lb lr ys i) (hi : i < n) (hP : (n + 7) / 8 = P) (hb : (lb.getD (i / 8) 0).toNat.testBit (i % 8) = true) (h1 : 1 ≤ k) (h4 : k ≤ 4) :
    (lr.length < widT k → ∀ xs : List (List UInt8), xs.length = n → chkE k xs = 0 → putT k xs ≠ lb) ∧ GI k n lb (lr.drop (widT k)) (ys ++ [Lib.itoa (sgI (widT k) (nb (lr.take (widT k))))]) (i + 1) := by
  have key : ∀ xs : List (List UInt8), xs.length = n → chkE k xs = 0 → putT k xs = lb → ∃ x, x ≠ [] ∧ fitT k x = true ∧ lr = elemL k x ++ left k xs (i + 1) ∧ ys ++ [x] = xs.take (i + 1) := fun xs hx hz hp => by
    obtain ⟨g1, g2, g3⟩ := gi_at h hx hz hp hi
    have hbit := gi_bit hx hP hp hi
    rw [hb] at hbit
    exact ⟨_, of_decide_eq_true hbit.symm, g2, g1, g3⟩
  refine ⟨fun hlen xs hx hz hp => ?_, fun xs hx hz hp => ?_⟩
  · obtain ⟨x, g1, g2, g3, g4⟩ := key xs hx hz hp
    have e : (elemL k x).length = widT k := by unfold elemL; rw [if_neg (by omega), be_length]
    rw [g3, List.length_append, e] at hlen
    omega
  · obtain ⟨x, g1, g2, g3, g4⟩ := key xs hx hz hp
    have ht := int_take (k := k) (x := x) (R := left k xs (i + 1)) (by omega)
    rw [← g3] at ht
    rw [ht.1, ht.2, int_back g2 h1 h4 g1]
    exact ⟨rfl, g4⟩
end Go.Proofs.YtaedmojkoioifaaGreatDoor
