/- The document's text of bits. -/
import Derived.Test.YtaedmojkoioifaaGreatDoorJA
import Derived.Test.YtaedmojkoioifaaGreatDoorKI
import Derived.BigQuiet
set_option maxHeartbeats 2000000
set_option maxRecDepth 100000
namespace Go.Proofs.YtaedmojkoioifaaGreatDoor
open Go.RowKit
open Go.Lib
theorem rsigned_any (n N : Nat) (w : World) (hn : n = 1 ∨ n = 2 ∨ n = 4 ∨ n = 8) (HNL : Hid (N < 256 ^ n)) :
    Calls Tryz.prog 26 #[.int .u64 (N : Int), .int .i64 (n : Int)] w fun e w' => e = .returned (.string ⟨(Lib.itoa (sgI n N)).toArray⟩) ∧ Below w.heap.size w w' := by
  obtain ⟨v, HV⟩ : ∃ v, Hid (sgI n N = v) := ⟨_, rfl⟩
  rw [HV.out]
  rcases hn with rfl | rfl | rfl | rfl
  · have hN : N < 256 := HNL.out
    have hiN : (N : Int) ≤ 255 := by omega
    have hvb : -9223372036854775808 ≤ v ∧ v ≤ 9223372036854775807 := by
      rw [← HV.out]
      unfold sgI
      split <;> omega
    have hv : wrap64 ((N : Int) * 72057594037927936) / 72057594037927936 = v := by
      rw [← HV.out]
      unfold sgI wrap64
      split <;> (try split) <;> omega
    have HFI := Lib.hid (rfromInt_any v (Lib.hid hvb) w)
    clear hvb
    go_enter Tryz.func26, Tryz.ntmps26
    go_wp2_with fail
    refine (HFI.out).mono ?_
    rintro e w2 ⟨rfl, hb2⟩
    have HB2 := Lib.hid hb2
    clear hb2
    go_wp2_with fail
    go_ret
    exact ⟨rfl, HB2.out⟩
  · have hN : N < 65536 := HNL.out
    have hiN : (N : Int) ≤ 65535 := by omega
    have hvb : -9223372036854775808 ≤ v ∧ v ≤ 9223372036854775807 := by
      rw [← HV.out]
      unfold sgI
      split <;> omega
    have hv : wrap64 ((N : Int) * 281474976710656) / 281474976710656 = v := by
      rw [← HV.out]
      unfold sgI wrap64
      split <;> (try split) <;> omega
    have HFI := Lib.hid (rfromInt_any v (Lib.hid hvb) w)
    clear hvb
    go_enter Tryz.func26, Tryz.ntmps26
    go_wp2_with fail
    refine (HFI.out).mono ?_
    rintro e w2 ⟨rfl, hb2⟩
    have HB2 := Lib.hid hb2
    clear hb2
    go_wp2_with fail
    go_ret
    exact ⟨rfl, HB2.out⟩
  · have hN : N < 4294967296 := HNL.out
    have hiN : (N : Int) ≤ 4294967295 := by omega
    have hvb : -9223372036854775808 ≤ v ∧ v ≤ 9223372036854775807 := by
      rw [← HV.out]
      unfold sgI
      split <;> omega
    have hv : wrap64 ((N : Int) * 4294967296) / 4294967296 = v := by
      rw [← HV.out]
      unfold sgI wrap64
      split <;> (try split) <;> omega
    have HFI := Lib.hid (rfromInt_any v (Lib.hid hvb) w)
    clear hvb
    go_enter Tryz.func26, Tryz.ntmps26
    go_wp2_with fail
    refine (HFI.out).mono ?_
    rintro e w2 ⟨rfl, hb2⟩
    have HB2 := Lib.hid hb2
    clear hb2
    go_wp2_with fail
    go_ret
    exact ⟨rfl, HB2.out⟩
  · have hN : N < 18446744073709551616 := HNL.out
    have hiN : (N : Int) ≤ 18446744073709551615 := by omega
    have hvb : -9223372036854775808 ≤ v ∧ v ≤ 9223372036854775807 := by
      rw [← HV.out]
      unfold sgI
      split <;> omega
    have hv : wrap64 (N : Int) = v := by
      rw [← HV.out]
      unfold sgI wrap64
      split <;> (try split) <;> omega
    have HFI := Lib.hid (rfromInt_any v (Lib.hid hvb) w)
    clear hvb
    go_enter Tryz.func26, Tryz.ntmps26
    go_wp2_with fail
    refine (HFI.out).mono ?_
    rintro e w2 ⟨rfl, hb2⟩
    have HB2 := Lib.hid hb2
    clear hb2
    go_wp2_with fail
    go_ret
    exact ⟨rfl, HB2.out⟩
end Go.Proofs.YtaedmojkoioifaaGreatDoor
namespace Go.Proofs.YtaedmojkoioifaaGreatDoor
open Go.RowKit
open Go.Lib
def Vals (W : World) (V n i : Nat) (xs : List (List UInt8)) : Prop := ∃ cs : Array Value, W.heap[V]? = some (.cells cs 9 (0, 0)) ∧ cs.size = n ∧ ∀ j, j < n → cs[j]? = some (.string (if j < i then ⟨(xs.getD j []).toArray⟩ else ⟨#[]⟩))
theorem Vals.put {W : World} {V n i : Nat} {xs : List (List UInt8)} (h : Vals W V n i xs) (hi : i < n) : Vals (W.setCell ⟨V, i, none⟩ (.string ⟨(xs.getD i []).toArray⟩)) V n (i + 1) xs := by
  obtain ⟨cs, h1, h2, h3⟩ := h
  refine ⟨_, heap_put W V i _ _ _ h1, by simp [h2], fun j hj => ?_⟩
  rw [Array.getElem?_setIfInBounds]
  by_cases e : i = j
  · subst e
    rw [if_pos rfl, if_pos (by rw [h2]; exact hi), if_pos (Nat.lt_succ_self _)]
  · rw [if_neg e, h3 j hj]
    congr 2
    by_cases h4 : j < i
    · rw [if_pos h4, if_pos (by omega)]
    · rw [if_neg h4, if_neg (by omega)]
theorem Vals.skip {W : World} {V n i : Nat} {xs : List (List UInt8)} (h : Vals W V n i xs) (e : xs.getD i [] = []) : Vals W V n (i + 1) xs := by
  obtain ⟨cs, h1, h2, h3⟩ := h
  refine ⟨cs, h1, h2, fun j hj => ?_⟩
  rw [h3 j hj]
  congr 2
  by_cases h4 : j < i
  · rw [if_pos h4, if_pos (by omega)]
  · rw [if_neg h4]
    by_cases h5 : j = i
    · subst h5; rw [if_pos (Nat.lt_succ_self _), e]
    · rw [if_neg (by omega)]
theorem Vals.keep {W W' : World} {V n i : Nat} {xs : List (List UInt8)} (h : Vals W V n i xs) (e : W'.heap[V]? = W.heap[V]?) : Vals W' V n i xs := by
  obtain ⟨cs, h1, h2⟩ := h
  exact ⟨cs, e.trans h1, h2⟩
theorem Vals.reads {W : World} {V n : Nat} {xs : List (List UInt8)} (h : Vals W V n n xs) (hx : xs.length = n) : Ss W (some ⟨V, 0, none⟩) xs := by
  obtain ⟨cs, h1, h2, h3⟩ := h
  refine .inr ⟨V, 0, rfl, (Array.getElem?_eq_some_iff.1 h1).1, fun j hj => ?_⟩
  have h4 := h3 j (by omega)
  rw [if_pos (by omega)] at h4
  rw [Nat.zero_add]
  simp [World.cell?, h1, h4]
theorem Vals.old {W : World} {V n i : Nat} {xs : List (List UInt8)} (h : Vals W V n i xs) (hi : i < n) : W.cell? ⟨V, i, none⟩ = some (.string ⟨#[]⟩) ∧ W.frozen? ⟨V, i, none⟩ = false := by
  obtain ⟨cs, h1, h2, h3⟩ := h
  have h4 := h3 i hi
  rw [if_neg (by omega)] at h4
  exact ⟨by simp [World.cell?, h1, h4], by simp [World.frozen?, h1]⟩
theorem infoS9 : (Tryz.prog.info? 9).map (fun i => (i.zero, i.size, i.bytes)) = some (some (.string ⟨#[]⟩), 1, 16) := by kernel_rfl
theorem make_vals (n : Nat) (hn : n ≤ 10000) : ∃ Z : Array Value, (Z.size = n ∧ ∀ j, j < n → Z[j]? = some (.string ⟨#[]⟩)) ∧ ∀ W, (Instr.makeSlice 22 (.int .i64 (n : Int)) (.int .i64 (n : Int))).run Tryz.prog W = .ok (.slice (some ⟨W.heap.size, 0, none⟩) n n) (W.alloc (.cells Z 9)) := by
  obtain ⟨i0, hi, hz0, hz1, hz2⟩ := info_parts infoS9
  refine ⟨madeCells (Value.cells (.string ⟨#[]⟩)) (n * 1), ⟨by rw [size_madeCells, Nat.mul_one], fun j hj => by simp [madeCells, Value.cells, Nat.mod_one, hj]⟩, fun W => ?_⟩
  have h := run_make (P := Tryz.prog) W 22 9 i0 (.string ⟨#[]⟩) Tryz.underlying22 hi hz0 .i64 .i64 (n : Int) (n : Int) (by omega) (by omega) (by rw [hz2]; omega) (by omega)
  rw [hz1, Int.toNat_natCast] at h
  exact h
def left (k : Int) (xs : List (List UInt8)) (i : Nat) : List UInt8 := (xs.drop i).flatMap (elemL k)
theorem left_at {k : Int} {xs : List (List UInt8)} {i : Nat} (h : i < xs.length) : left k xs i = elemL k (xs.getD i []) ++ left k xs (i + 1) := by
  unfold left
  rw [List.drop_eq_getElem_cons h, List.flatMap_cons, List.getD_eq_getElem?_getD, List.getElem?_eq_getElem h]; rfl
theorem put_left (k : Int) (xs : List (List UInt8)) : putT k xs = stP xs ((xs.length + 7) / 8) xs.length ++ left k xs 0 := by
  unfold putT putS els left
  rw [List.take_length, List.drop_zero]
theorem left_len {k : Int} {xs : List (List UInt8)} (hf : ∀ x ∈ xs, fitT k x = true) (i : Nat) : (left k xs i).length ≤ 83 * xs.length := by
  unfold left
  have key : ∀ l : List (List UInt8), (∀ x ∈ l, fitT k x = true) → (l.flatMap (elemL k)).length ≤ 83 * l.length := fun l => by
    induction l with
    | nil => intro _; simp
    | cons a r ih =>
      intro h
      have h1 := ih (fun x hx => h x (List.mem_cons_of_mem _ hx))
      have h2 := elemL_len (h a (List.mem_cons_self ..))
      rw [List.flatMap_cons, List.length_append, List.length_cons]
      omega
  have := key (xs.drop i) (fun x hx => hf x (List.mem_of_mem_drop hx))
  rw [List.length_drop] at this
  omega
theorem text_back {x R : List UInt8} (hx : x ≠ []) (hl : x.length ≤ 82) : ((elemL 5 x ++ R).drop 1).take (nb ((elemL 5 x ++ R).take 1)) = x ∧ ((elemL 5 x ++ R).drop 1).drop (nb ((elemL 5 x ++ R).take 1)) = R := by
  unfold elemL
  rw [if_pos rfl, if_neg hx, List.cons_append]
  have e : nb ((UInt8.ofNat x.length :: (x ++ R)).take 1) = x.length := by
    show 0 * 256 + (UInt8.ofNat x.length).toNat = _
    rw [UInt8.toNat_ofNat']; omega
  rw [e]
  exact ⟨List.take_left, List.drop_left⟩
theorem int_take {k : Int} {x R : List UInt8} (h5 : k ≠ 5) : (elemL k x ++ R).take (widT k) = be (widT k) (vT x) ∧ (elemL k x ++ R).drop (widT k) = R := by
  unfold elemL
  rw [if_neg h5]
  have e := be_length (vT x) (widT k)
  constructor
  · exact List.take_left' e
  · exact List.drop_left' e
end Go.Proofs.YtaedmojkoioifaaGreatDoor
