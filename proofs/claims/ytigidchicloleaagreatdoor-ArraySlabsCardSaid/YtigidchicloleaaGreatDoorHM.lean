/- Copies of arrays; lists that are equal. -/
import Derived.Test.YtigidchicloleaaGreatDoorHG
set_option maxHeartbeats 4000000
set_option maxRecDepth 100000
namespace Go.Proofs.YtigidchicloleaaGreatDoor.Arr
open Go.RowKit Go.Shelf
open Go.Lib
attribute [local go_sem] Oper.semAt_some
theorem nothing_behind_s (w : World) (B : Nat) (v : Value) (n c : Nat) (xs : List Value) (ty : TypeId) (hown : w.ownsRow B 9 1 v n xs) : (Builtin.append_ #[23, 23] ty #[v, .slice none 0 c]).run Tryz.prog w = .ok v w := by
  obtain ⟨i0, hi, hz0, hz1, hz2⟩ := info_parts info9
  obtain ⟨-, ⟨rfl, rfl⟩ | ⟨g, cap, cur, rfl, -, -, hnc, -⟩⟩ := hown
  · simp [Builtin.append_, run_underlying Tryz.underlying23, sizeOf, typeInfo, hi, Builtin.lenOf, Builtin.firstCells]
  · simp [Builtin.append_, run_underlying Tryz.underlying23, sizeOf, typeInfo, hi, Builtin.lenOf, Builtin.firstCells, hnc, storeCells]
theorem run_append_sl (w : World) (B : Nat) (v : Value) (n : Nat) (X : List (List UInt8)) (hown : w.ownsRow B 9 1 v n (strs X)) (p : Option Addr) (m c : Nat) (L : List (List UInt8)) (hm : L.length = m) (hb : RdS w p L) (hlen : n + m ≤ 100000) (hB : B ≤ w.heap.size) (ty : TypeId) :
    ∃ v' w', (Builtin.append_ #[23, 23] ty #[v, .slice p m c]).run Tryz.prog w = .ok v' w' ∧ w'.ownsRow B 9 1 v' (n + m) (strs (X ++ L)) ∧ w.grownBy w' v.ownBlock := by
  subst hm
  obtain ⟨i0, hi, hz0, hz1, hz2⟩ := info_parts info9
  cases p with
  | none =>
    have h0 : L = [] := by
      rcases hb with h0 | ⟨b, off, h1, -⟩
      · exact List.eq_nil_of_length_eq_zero h0
      · cases h1
    subst h0
    exact ⟨v, w, nothing_behind_s w B v n c _ ty hown, by rw [List.append_nil]; exact hown, gb_of_below (Below.refl _ _) _⟩
  | some ad =>
    obtain ⟨b0, off, sp⟩ := ad
    by_cases h0 : L = []
    · subst h0
      obtain ⟨v', w', hr, h2, h3, h4, h5⟩ := run_append_own_at (P := Tryz.prog) w B 23 ty 9 i0 (.string ⟨#[]⟩) 1 16 Tryz.underlying23 hi hz0 hz1 hz2 rfl (by decide) v n (strs X) hown ⟨b0, off, sp⟩ ([] : List (List UInt8)).length c [] rfl (fun j u hj => by simp at hj) (fun u hu => by cases hu) (by unfold maxLen; simp at hlen ⊢; omega) (by omega) hB
      exact ⟨v', w', hr, by rw [List.append_nil]; simpa using h2, h3⟩
    · have hsp : sp = none := by
        rcases hb with h1 | ⟨b, o2, h1, -⟩
        · exact absurd (List.eq_nil_of_length_eq_zero h1) h0
        · cases h1; rfl
      subst hsp
      obtain ⟨v', w', hr, h2, h3, h4, h5⟩ := run_append_own_at (P := Tryz.prog) w B 23 ty 9 i0 (.string ⟨#[]⟩) 1 16 Tryz.underlying23 hi hz0 hz1 hz2 rfl (by decide) v n (strs X) hown ⟨b0, off, none⟩ L.length c (strs L) (by rw [strs_len, Nat.mul_one]) (fun j u hj => by
        have hjl : j < L.length := by
          have := (List.getElem?_eq_some_iff.1 hj).1
          rwa [strs_len] at this
        obtain ⟨b1, o1, x, e1, -, hc, hx⟩ := hb.at hjl
        cases e1
        rw [strs, List.getElem?_map, List.getElem?_eq_getElem hjl] at hj
        obtain rfl : Value.string ⟨List.toArray L[j]⟩ = u := by simpa using hj
        have ex : x = L[j] := by rw [hx.out, List.getD_eq_getElem?_getD, List.getElem?_eq_getElem hjl]; rfl
        rw [← ex]
        have ea : (⟨b0, off, none⟩ : Addr).add j = ⟨b0, off + j, none⟩ := by
          unfold Addr.add; split <;> simp_all
        rw [ea]; exact hc) (fun u hu => by
        obtain ⟨x, _, rfl⟩ := List.mem_map.1 hu
        rfl) (by unfold maxLen; omega) (by omega) hB
      exact ⟨v', w', hr, by rw [strs, List.map_append]; exact h2, h3⟩
theorem own_form {w : World} {B n : Nat} {v : Value} {xs : List Value} (h : w.ownsRow B 9 1 v n xs) : ∃ q d, v = .slice q n d := by
  obtain ⟨-, ⟨e, e2⟩ | ⟨g, cap, _, e, -⟩⟩ := h
  · exact ⟨none, 0, by rw [e, e2]⟩
  · exact ⟨_, _, e⟩
theorem wpList_append_sl {w : World} {ops : Array Oper} {rest : List Oper} {o : Oper} {a : Act} {Q : Exit → Act → World → Prop} (hgd : o.guard = none) (s x : Operand)
    (ho : o.op = .call { callee := .builtin .append, args := #[s, x], argTypes := #[23, 23] })
    (B : Nat) (v : Value) (n : Nat) (X : List (List UInt8)) (hs : a.eval s = v) (hown : w.ownsRow B 9 1 v n (strs X)) (p : Option Addr) (m c : Nat) (L : List (List UInt8)) (hx : a.eval x = .slice p m c) (hm : L.length = m) (hb : RdS w p L) (hlen : n + m ≤ 100000) (hB : B ≤ w.heap.size)
    (h : ∀ q d w', w'.ownsRow B 9 1 (.slice q (n + m) d) (n + m) (strs (X ++ L)) → w.grownBy w' v.ownBlock → wpList Tryz.prog ops Q rest (a.put o.dst (.slice q (n + m) d)) w') : wpList Tryz.prog ops Q (o :: rest) a w := by
  obtain ⟨v', w', hr, h2, h3⟩ := run_append_sl w B v n X hown p m c L hm hb hlen hB o.type
  obtain ⟨q, d, rfl⟩ := own_form h2
  refine wpList_plain hgd fun K hK => ?_
  unfold Oper.wp execOp
  simp only [ho, resolve, invoke, builtin, Sem.run_bind, Sem.run_pure, Result.andThen_ok, List.map_toArray, List.map_cons, List.map_nil, hs, hx, hr]
  exact hK _ _ (h q d w' h2 h3)
def CloneS (n : Nat) (l : List (List UInt8)) (w : World) (e : Ending) (w' : World) : Prop := Below w.heap.size w w' ∧ ∃ q d, e = .returned (.slice q n d) ∧ w'.ownsRow w.heap.size 9 1 (.slice q n d) n (strs l)
theorem clones_any (p : Option Addr) (n c : Nat) (l : List (List UInt8)) (w : World) (hl : Hid (l.length = n)) (hn : n ≤ 5000) (h : RdS w p l) :
    Calls Tryz.prog 91 #[.slice p n c] w (CloneS n l w) := by
  have H := Lib.hid h
  cases p with
  | none =>
    have h0 : l = [] := by
      rcases h with h0 | ⟨b, off, h1, -⟩
      · exact List.eq_nil_of_length_eq_zero h0
      · cases h1
    subst h0
    obtain rfl : n = 0 := by rw [← hl.out]; rfl
    have heq : ∀ W : World, (binOp .eql 23 (.slice none 0 c) (.slice none 0 0)).run Tryz.prog W = .ok (.bool true) W := fun W => by kernel_rfl
    clear h
    go_enter Tryz.func91, Tryz.ntmps91
    go_wp2_with fail
    go_ret
    exact ⟨Below.refl _ _, none, 0, rfl, World.ownsRow_nil _ _ _ _⟩
  | some a =>
    have heq : ∀ W : World, (binOp .eql 23 (.slice (some a) n c) (.slice none 0 0)).run Tryz.prog W = .ok (.bool false) W := fun W => by kernel_rfl
    have HBa : Hid (Below w.heap.size w (w.alloc (.cells #[] 9))) := Lib.hid ((Below.refl _ w).alloc (Nat.le_refl _) _)
    have hown : Hid ((w.alloc (.cells #[] 9)).ownsRow w.heap.size 9 1 (.slice (some ⟨w.heap.size, 0, none⟩) 0 0) 0 (strs [])) := Lib.hid ⟨rfl, .inr ⟨w.heap.size, 0, #[], rfl, Nat.le_refl _, World.alloc_heap_new w _, Nat.le_refl _, Nat.zero_le _, rfl, rfl⟩⟩
    have hsz : Hid (w.heap.size ≤ (w.alloc (.cells #[] 9)).heap.size) := Lib.hid (by simp)
    clear h
    go_enter Tryz.func91, Tryz.ntmps91
    go_wp2_with (at_builtin; refine wpList_append_sl rfl (.tmp 5) (.tmp 6) rfl w.heap.size _ 0 [] rfl hown.out (some a) n c l rfl hl.out (H.out.below HBa.out) (by omega) hsz.out ?_)
    intro q d w5 hown5 hg5
    try simp only [Nat.zero_add, List.nil_append] at hown5
    try simp only [Nat.zero_add]
    have hfin : Hid (CloneS n l w (.returned (.slice q n d)) w5) := Lib.hid ⟨HBa.out.trans ((Below.refl _ _).grown hg5 hsz.out (fun k e => own_ge' hown.out e)), q, d, rfl, hown5⟩
    clear hown5 hg5
    go_wp2_with fail
    go_ret
    exact hfin.out
def CopyPost (n m : Nat) (s : List Nat) (l : List (List UInt8)) (w : World) (e : Ending) (w' : World) : Prop :=
  Below w.heap.size w w' ∧ ∃ q d q2 d2, e = .returned (.agg #[.slice q n d, .slice q2 m d2]) ∧ RdN w' q s ∧ (∀ b off, q = some ⟨b, off, none⟩ → w.heap.size ≤ b) ∧ (∀ b off, q = some ⟨b, off, none⟩ → 0 < s.length → (Value.slice q2 m d2).ownBlock ≠ some b) ∧ w'.ownsRow w.heap.size 9 1 (.slice q2 m d2) m (strs l)
theorem pcopied_any (p q : Option Addr) (c d n m : Nat) (s : List Nat) (l : List (List UInt8)) (w : World) (hs : Hid (s.length = n)) (hn : n ≤ 4) (hsb : Hid (∀ x ∈ s, x ≤ 1024)) (hl : Hid (l.length = m)) (hm : m ≤ 5000) (hp : RdN w p s) (hq : RdS w q l) :
    Calls Tryz.prog 68 #[.agg #[.slice p n c, .slice q m d]] w (CopyPost n m s l w) := by
  have HP := Lib.hid hp
  have HQ := Lib.hid hq
  obtain ⟨A, HA⟩ : ∃ A, Hid (A = w.heap.size) := ⟨_, Lib.hid rfl⟩
  obtain ⟨W0, HW0⟩ : ∃ W0, Hid ((w.alloc (.cells #[.slice p n c, .slice q m d] 25)).alloc (.cells #[.slice none 0 0, .slice none 0 0] 25) = W0) := ⟨_, Lib.hid rfl⟩
  have HB0 : Hid (Below w.heap.size w W0) := Lib.hid (by rw [← HW0.out]; exact ((Below.refl _ w).alloc (Nat.le_refl _) _).alloc (by simp) _)
  have HS0 : Hid (W0.heap.size = A + 1 + 1) := Lib.hid (by rw [← HW0.out, HA.out]; simp)
  have HA0 : Hid (W0.heap[A]? = some (.cells #[.slice p n c, .slice q m d] 25 (0, 0))) := Lib.hid (by
    rw [← HW0.out, HA.out]; simp only [World.alloc, Array.getElem?_push, Array.size_push]
    repeat' (first | rw [if_pos (by omega)] | rw [if_neg (by omega)] | rfl))
  have HA1 : Hid (W0.heap[A + 1]? = some (.cells #[.slice none 0 0, .slice none 0 0] 25 (0, 0))) := Lib.hid (by
    rw [← HW0.out, HA.out]; simp only [World.alloc, Array.getElem?_push, Array.size_push]
    repeat' (first | rw [if_pos (by omega)] | rw [if_neg (by omega)] | rfl))
  have HBX : Hid (∀ W, Below W0.heap.size W0 W → (W.cell? ⟨A, 0, none⟩ = some (.slice p n c) ∧ W.cell? ⟨A, 1, none⟩ = some (.slice q m d)) ∧ Below w.heap.size w W ∧ W.heap[A + 1]? = some (.cells #[.slice none 0 0, .slice none 0 0] 25 (0, 0))) := Lib.hid (fun W hW => by
    have h0 := (hW.block A (by rw [HS0.out]; omega)).trans HA0.out
    exact ⟨⟨by simp [World.cell?, h0], by simp [World.cell?, h0]⟩, HB0.out.trans (hW.mono HB0.out.size), (hW.block (A + 1) (by rw [HS0.out]; omega)).trans HA1.out⟩)
  have H72 : Hid (∀ W, Below W0.heap.size W0 W → Calls Tryz.prog 75 #[.slice p n c] W (ClonePost n s W)) := Lib.hid (fun W hW => clone_any p n c s W hs hn hsb (HP.out.below (HBX.out W hW).2.1))
  have H86 : Hid (∀ W, Below W0.heap.size W0 W → Calls Tryz.prog 91 #[.slice q m d] W (CloneS m l W)) := Lib.hid (fun W hW => clones_any q m d l W hl hm (HQ.out.below (HBX.out W hW).2.1))
  have HBD : Hid (Below W0.heap.size W0 W0.drew) := Lib.hid ⟨rfl, rfl, rfl, Nat.le_refl _, fun _ _ => rfl⟩
  clear hp hq
  go_enter Tryz.func68, Tryz.ntmps68
  go_wp2_with fail
  rw [HW0.out, ← HA.out]
  refine wp_region_noPanic ?_
  refine wp_region_held_drew (S := fun W => W.cell? ⟨A, 0, none⟩ = some (.slice p n c) ∧ W.cell? ⟨A, 1, none⟩ = some (.slice q m d)) (by kernel_rfl) (HBX.out _ HBD.out).1 (fun hHeld => ?_)
  refine wpAnyH_take (i := 0) (v := ?v1) rfl (by kernel_rfl) (by kernel_rfl) (by kernel_rfl) (fun _ _ _ h => h) (Or.inl ⟨by rfl, ?hy1⟩) (by assumption) ?rest1
  case hy1 =>
    intro W' hSw
    obtain ⟨e0, e1⟩ := hSw
    go_simp
    with_reducible rfl
  simp only [List.getElem_toArray, List.getElem_cons_zero, Act.put, List.setIfInBounds_toArray, List.set_cons_zero, List.set_cons_succ]
  refine wpAnyH_take (i := 1) (v := ?v2) rfl (by kernel_rfl) (by kernel_rfl) (by kernel_rfl) (fun _ _ _ h => h) (Or.inl ⟨by rfl, ?hy2⟩) (by assumption) ?rest2
  case hy2 =>
    intro W' hSw
    obtain ⟨e0, e1⟩ := hSw
    go_simp
    with_reducible rfl
  simp only [List.getElem_toArray, List.getElem_cons_zero, List.getElem_cons_succ, Act.put, List.setIfInBounds_toArray, List.set_cons_zero, List.set_cons_succ]
  refine wpAnyH_take (i := 3) (v := ?v3) rfl (by kernel_rfl) (by kernel_rfl) (by kernel_rfl) (fun _ _ _ h => h) (Or.inl ⟨by rfl, ?hy3⟩) (by assumption) ?rest3
  case hy3 =>
    intro W' hSw
    obtain ⟨e0, e1⟩ := hSw
    go_simp
    with_reducible rfl
  simp only [List.getElem_toArray, List.getElem_cons_zero, List.getElem_cons_succ, Act.put, List.setIfInBounds_toArray, List.set_cons_zero, List.set_cons_succ]
  refine wpAnyH_take (i := 4) (v := ?v4) rfl (by kernel_rfl) (by kernel_rfl) (by kernel_rfl) (fun _ _ _ h => h) (Or.inl ⟨by rfl, ?hy4⟩) (by assumption) ?rest4
  case hy4 =>
    intro W' hSw
    obtain ⟨e0, e1⟩ := hSw
    go_simp
    with_reducible rfl
  simp only [List.getElem_toArray, List.getElem_cons_zero, List.getElem_cons_succ, Act.put, List.setIfInBounds_toArray, List.set_cons_zero, List.set_cons_succ]
  refine wpAnyH_ready (rs := [2]) (by kernel_rfl) (by simp) ?_
  refine AllReadyH.cons (i := 2) rfl (fun K hK => ?_) AllReadyH.nil
  go_simp
  refine (H72.out _ HBD.out).mono ?_
  rintro e w2 ⟨hb2, q1, d1, rfl, hq1, -, -, hq4⟩
  have HB2 : Hid (Below W0.heap.size W0 w2) := Lib.hid (HBD.out.trans (hb2.mono HBD.out.size))
  have HQ1 := Lib.hid hq1
  have HQ4 := Lib.hid hq4
  clear hb2 hq1 hq4
  refine hK.out _ _ ((HBX.out _ HB2.out).1) (fun hHeld => ?_)
  clear hK K
  refine wpAnyH_ready (rs := [5]) (by kernel_rfl) (by simp) ?_
  refine AllReadyH.cons (i := 5) rfl (fun K hK => ?_) AllReadyH.nil
  go_simp
  refine (H86.out _ HB2.out).mono ?_
  rintro e w3 ⟨hb3, q2, d2, rfl, hown3⟩
  have HB23 := Lib.hid hb3
  have HB3 : Hid (Below W0.heap.size W0 w3) := Lib.hid (HB2.out.trans (hb3.mono HB2.out.size))
  have HOW := Lib.hid hown3
  clear hb3 hown3
  refine hK.out _ _ ((HBX.out _ HB3.out).1) (fun hHeld => ?_)
  clear hK K
  refine wpAnyH_take (i := 6) (v := ?v5) rfl (by kernel_rfl) (by kernel_rfl) (by kernel_rfl) (fun _ _ _ h => h) (Or.inl ⟨by rfl, ?hy5⟩) (by assumption) ?rest5
  case hy5 =>
    intro W' hSw
    obtain ⟨e0, e1⟩ := hSw
    go_simp
    with_reducible rfl
  simp only [List.getElem_toArray, List.getElem_cons_zero, List.getElem_cons_succ, Act.put, List.setIfInBounds_toArray, List.set_cons_zero, List.set_cons_succ]
  have y6 := (HBX.out _ HB3.out).2.2
  have r0 : w3.cell? ⟨A + 1, 0, none⟩ = some (.slice none 0 0) := by simp [World.cell?, y6]
  have r1 : w3.cell? ⟨A + 1, 1, none⟩ = some (.slice none 0 0) := by simp [World.cell?, y6]
  have z0 : w3.frozen? ⟨A + 1, 0, none⟩ = false := by simp [World.frozen?, y6]
  have z1 : w3.frozen? ⟨A + 1, 1, none⟩ = false := by simp [World.frozen?, y6]
  have hE1 := heap_set w3 (A + 1) 0 (.slice q1 n d1) _ _ y6
  have hE2 := heap_set _ (A + 1) 1 (.slice q2 m d2) _ _ hE1
  obtain ⟨W7, hW7⟩ : ∃ W7, (w3.setCell ⟨A + 1, 0, none⟩ (.slice q1 n d1)).setCell ⟨A + 1, 1, none⟩ (.slice q2 m d2) = W7 := ⟨_, rfl⟩
  rw [hW7] at hE2
  have k0 : W7.cell? ⟨A + 1, 0, none⟩ = some (.slice q1 n d1) := by simp [World.cell?, hE2]
  have k1 : W7.cell? ⟨A + 1, 1, none⟩ = some (.slice q2 m d2) := by simp [World.cell?, hE2]
  have hg67 : w3.grownBy W7 (some (A + 1)) := by rw [← hW7]; exact (gb_set _ _ _ _).trans (gb_set _ _ _ _)
  have HFIN : Hid (CopyPost n m s l w (.returned (.agg #[.slice q1 n d1, .slice q2 m d2])) W7) := Lib.hid (by
      have hAw := HA.out
      have hB3 := (HBX.out _ HB3.out).2.1
      have o2 : w.grownBy W7 none := gb_trans_new (gb_of_below hB3 none) hg67 (by omega)
      refine ⟨⟨o2.os, o2.tape, o2.output, o2.size, fun k hk => o2.block k hk (by intro e; cases e)⟩, q1, d1, q2, d2, rfl, ?_, fun b off e => Nat.le_trans (by have := HB0.out.size; omega) (Nat.le_trans (show W0.heap.size ≤ W0.drew.heap.size from Nat.le_refl _) (HQ4.out b off e)), ?_, ?_⟩
      · refine (HQ1.out.below HB23.out).keep hg67.size (fun b off e h0 => ?_)
        obtain ⟨b', off', x, e', hb', -⟩ := (HQ1.out.below HB23.out).at h0
        rw [e] at e'; cases e'
        have h9 := HQ4.out b off e
        have h8 : W0.drew.heap.size = A + 1 + 1 := HS0.out
        exact hg67.block b hb' (by intro e2; injection e2 with e2; omega)
      · intro b off e h0 e2
        obtain ⟨b', off', x, e', hb', -⟩ := HQ1.out.at h0
        rw [e] at e'; cases e'
        have := own_ge' HOW.out e2
        omega
      · have h7 := HOW.out
        have h8 : A + 1 + 1 ≤ w2.heap.size := by rw [← HS0.out]; exact HB2.out.size
        have := h7.kept hg67 (by
          rcases Option.eq_none_or_eq_some (Value.slice q2 m d2).ownBlock with e | ⟨k, e⟩
          · exact .inl e
          · refine .inr ?_
            rw [e]; intro e2; injection e2 with e2
            have := own_ge' h7 e
            omega)
        exact ⟨this.1, this.2.imp id fun ⟨g, cap, cur, e, hg', r⟩ => ⟨g, cap, cur, e, by omega, r⟩⟩)
  have HS7 : Hid ((fun W => W.cell? ⟨A, 0, none⟩ = some (.slice p n c) ∧ W.cell? ⟨A, 1, none⟩ = some (.slice q m d)) W7) := Lib.hid (by
    obtain ⟨⟨h0, h1⟩, -, -⟩ := HBX.out _ HB3.out
    have hsz := HS0.out
    have h3 := HB3.out.size
    have hne : W7.heap[A]? = w3.heap[A]? := hg67.block A (by omega) (by intro e; injection e with e; omega)
    exact ⟨(World.cell?_of_block (a := ⟨A, 0, none⟩) hne).trans h0, (World.cell?_of_block (a := ⟨A, 1, none⟩) hne).trans h1⟩)
  clear hE1 hE2 y6 hg67
  refine wpAnyH_ready (rs := [7]) (by kernel_rfl) (by simp) ?_
  refine AllReadyH.cons (i := 7) rfl (fun K hK => ?_) AllReadyH.nil
  go_simp
  try rw [hW7]
  refine hK.out _ _ HS7.out (fun hHeld => ?_)
  clear hK K
  refine wpAnyH_done (by kernel_rfl) ?_ _
  refine NoPanic.normal ?_
  clear hHeld
  go_wp2_with fail
  (try simp only [Exit.inBlock, Exit.then])
  refine bodyPost_ret (v := .agg #[.slice q1 n d1, .slice q2 m d2]) ?_ rfl HFIN.out
  simp [results, Tryz.f68, go_sem, k0, k1]
end Go.Proofs.YtigidchicloleaaGreatDoor.Arr
