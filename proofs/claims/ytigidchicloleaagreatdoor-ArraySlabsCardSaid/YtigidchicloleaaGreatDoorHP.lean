/- The document's Paste, where it is good. -/
import Derived.Test.YtigidchicloleaaGreatDoorHO
set_option maxHeartbeats 16000000
set_option maxRecDepth 100000
namespace Go.Proofs.YtigidchicloleaaGreatDoor.Arr
open Go.RowKit Go.Shelf
open Go.Lib
attribute [local go_sem] Oper.semAt_some
def pasG (pos : Nat → Nat) (bl : List (List UInt8)) (n : Nat) (l : List (List UInt8)) : List (List UInt8) := (List.range n).foldl (fun L i => L.set (pos i) (bl.getD i [])) l
theorem pasG_succ (pos : Nat → Nat) (bl : List (List UInt8)) (n : Nat) (l : List (List UInt8)) : pasG pos bl (n + 1) l = (pasG pos bl n l).set (pos n) (bl.getD n []) := by
  simp [pasG, List.range_succ]
theorem pasG_len (pos : Nat → Nat) (bl : List (List UInt8)) : ∀ (n : Nat) (l : List (List UInt8)), (pasG pos bl n l).length = l.length
  | 0, _ => rfl
  | n + 1, l => by rw [pasG_succ, List.length_set, pasG_len pos bl n l]
structure RI (W3 : World) (B m : Nat) (qv : Option Addr) (dv : Nat) (pos : Nat → Nat) (bl l : List (List UInt8)) (i : Nat) (W : World) : Prop where
  so : W.os = W3.os
  st : W.tape = W3.tape
  sp : W.output = W3.output
  size : W3.heap.size ≤ W.heap.size
  blk : ∀ k, k < W3.heap.size → (Value.slice qv m dv).ownBlock ≠ some k → W.heap[k]? = W3.heap[k]?
  vals : W.ownsRow B 9 1 (.slice qv m dv) m (strs (pasG pos bl i l))
theorem wp_via {P : Program} {c : Code} {Q : Exit → Act → World → Prop} {a : Act} {w : World} (Q1 : Act → Act → World → Prop) (h1 : c.wp P (fun e a' w' => e = .normal ∧ Q1 a a' w') a w) (h2 : ∀ a' w', Q1 a a' w' → Q .normal a' w') : c.wp P Q a w :=
  Code.wp_mono (fun e a' w' h => by obtain ⟨rfl, h⟩ := h; exact h2 _ _ h) h1
theorem own_kind9 {w : World} {B n b : Nat} {v : Value} {xs : List Value} (h : w.ownsRow B 9 1 v n xs) (hb : v.ownBlock = some b) : ∃ cs, w.heap[b]? = some (.cells cs 9 (0, 0)) := by
  obtain ⟨-, ⟨e, -⟩ | ⟨g, cap, cur, e, -, hh, -⟩⟩ := h
  · rw [e] at hb; cases hb
  · rw [e] at hb; injection hb with hb; subst hb; exact ⟨cur, hh⟩
structure P7 (W2 : World) (k m : Nat) (s : List Nat) (l : List (List UInt8)) (G : Nat) (qc : Option Addr) (dc : Nat) (qv : Option Addr) (dv : Nat) (W : World) : Prop where
  below : Below W2.heap.size W2 W
  box : W.heap[G]? = some (.cells #[.slice qc k dc, .slice qv m dv] 25 (0, 0))
  lt : W2.heap.size ≤ G
  sh : RdN W qc s
  shb : ∀ b off, qc = some ⟨b, off, none⟩ → 0 < s.length → W2.heap.size ≤ b ∧ b ≠ G ∧ (Value.slice qv m dv).ownBlock ≠ some b
  vals : W.ownsRow W2.heap.size 9 1 (.slice qv m dv) m (strs l)
theorem run_append_sl2 (w : World) (B o n : Nat) (hown : w.ownsRow B 9 1 (.slice (some ⟨o, 0, none⟩) 0 n) 0 (strs [])) (p : Option Addr) (m c : Nat) (L : List (List UInt8)) (hm : L.length = m) (hb : RdS w p L) (hlen : m ≤ 100000) (hB : B ≤ w.heap.size) (ty : TypeId) :
    ∃ q d w', (Builtin.append_ #[23, 23] ty #[.slice (some ⟨o, 0, none⟩) 0 n, .slice p m c]).run Tryz.prog w = .ok (.slice q m d) w' ∧ w'.ownsRow B 9 1 (.slice q m d) m (strs L) ∧ w.grownBy w' (some o) ∧ ((Value.slice q m d).ownBlock = some o ∨ (Value.slice q m d).ownBlock = some w.heap.size) := by
  subst hm
  obtain ⟨i0, hi, hz0, hz1, hz2⟩ := info_parts info9
  cases p with
  | none =>
    have h0 : L = [] := by
      rcases hb with h0 | ⟨b, off, h1, -⟩
      · exact List.eq_nil_of_length_eq_zero h0
      · cases h1
    subst h0
    exact ⟨_, _, w, nothing_behind_s w B _ 0 c _ ty hown, hown, gb_of_below (Below.refl _ _) _, .inl rfl⟩
  | some ad =>
    have key : ∃ v' w', (Builtin.append_ #[23, 23] ty #[.slice (some ⟨o, 0, none⟩) 0 n, .slice (some ad) L.length c]).run Tryz.prog w = .ok v' w' ∧ w'.ownsRow B 9 1 v' (0 + L.length) (strs [] ++ strs L) ∧ w.grownBy w' (some o) ∧ (v'.ownBlock = some o ∨ v'.ownBlock = some w.heap.size) := by
      obtain ⟨v', w', hr, h2, h3, -, h5⟩ := run_append_own_at (P := Tryz.prog) w B 23 ty 9 i0 (.string ⟨#[]⟩) 1 16 Tryz.underlying23 hi hz0 hz1 hz2 rfl (by decide) _ 0 (strs []) hown ad L.length c (strs L) (by rw [strs_len, Nat.mul_one]) (fun j u hj => by
        have hjl : j < L.length := by
          have := (List.getElem?_eq_some_iff.1 hj).1
          rwa [strs_len] at this
        obtain ⟨b1, o1, x, e1, -, hc, hx⟩ := hb.at hjl
        cases e1
        rw [strs_at hjl] at hj
        injection hj with hj
        subst hj
        rw [← hx.out]
        have ea : (⟨b1, o1, none⟩ : Addr).add j = ⟨b1, o1 + j, none⟩ := by
          unfold Addr.add; split <;> simp_all
        rw [ea]; exact hc) (fun u hu => by
        obtain ⟨x, _, rfl⟩ := List.mem_map.1 hu
        rfl) (by unfold maxLen; omega) (by omega) hB
      exact ⟨v', w', hr, h2, h3, h5⟩
    obtain ⟨v', w', hr, h2, h3, h5⟩ := key
    obtain ⟨q, d, rfl⟩ := own_form h2
    rw [Nat.zero_add] at hr h2 h5
    exact ⟨q, d, w', hr, by simpa [strs] using h2, h3, h5⟩
theorem op_append_sl2 {w : World} {o : Oper} {a : Act} {K : Act → World → Prop} {Q : Exit → Act → World → Prop} (s x : Operand)
    (ho : o.op = .call { callee := .builtin .append, args := #[s, x], argTypes := #[23, 23] })
    (B b n : Nat) (hs : a.eval s = .slice (some ⟨b, 0, none⟩) 0 n) (hown : w.ownsRow B 9 1 (.slice (some ⟨b, 0, none⟩) 0 n) 0 (strs [])) (p : Option Addr) (m c : Nat) (L : List (List UInt8)) (hx : a.eval x = .slice p m c) (hm : L.length = m) (hb : RdS w p L) (hlen : m ≤ 100000) (hB : B ≤ w.heap.size)
    (h : ∀ q d w', w'.ownsRow B 9 1 (.slice q m d) m (strs L) → w.grownBy w' (some b) → ((Value.slice q m d).ownBlock = some b ∨ (Value.slice q m d).ownBlock = some w.heap.size) → K (a.put o.dst (.slice q m d)) w') : o.wp Tryz.prog a w K Q := by
  obtain ⟨q, d, w', hr, h2, h3, h4⟩ := run_append_sl2 w B b n hown p m c L hm hb hlen hB o.type
  unfold Oper.wp execOp
  simp only [ho, resolve, invoke, builtin, Sem.run_bind, Sem.run_pure, Result.andThen_ok, List.map_toArray, List.map_cons, List.map_nil, hs, hx, hr]
  exact h q d w' h2 h3 h4
theorem rpaste_yes (p q p2 q2 cq : Option Addr) (c d c2 d2 k m m2 cd : Nat) (s : List Nat) (l bl : List (List UInt8)) (cuts : List (Int × Int × Int)) (w : World) (hs : Hid (s.length = k)) (hl : Hid (l.length = m)) (hm : m ≤ 5000) (hbl : Hid (bl.length = m2)) (hm2 : m2 ≤ 5000) (hk : Hid (cuts.length = k)) (hsh : Hid (Shp s)) (hp : RdN w p s) (hq : RdS w q l) (hp2 : RdN w p2 (cnts cuts)) (hq2 : RdS w q2 bl) (hcq : RdC w cq cuts)
    (hva : validA (s.map Int.ofNat) l = true) (hvb : validA ((cnts cuts).map Int.ofNat) bl = true) (hsl : Hid (slabOk s cuts = true)) :
    Calls Tryz.prog 27 #[.agg #[.slice p k c, .slice q m d], .slice cq k cd, .agg #[.slice p2 k c2, .slice q2 m2 d2]] w (ArrPost w 0 s (pasteV s l cuts bl)) := by
  have HP := Lib.hid hp
  have HQ := Lib.hid hq
  have HP2 := Lib.hid hp2
  have HQ2 := Lib.hid hq2
  have HCQ := Lib.hid hcq
  obtain ⟨hcl, hcz, hcb, hcp⟩ := cnts_ok hsl.out hsh.out.2.1
  have HCZ := Lib.hid hcz
  have HCB := Lib.hid hcb
  have HCN : Hid ((cnts cuts).length = k) := Lib.hid (by rw [cnts, List.length_map, hk.out])
  have hn4 : k ≤ 4 := by rw [← hs.out]; exact hsh.out.1
  obtain ⟨N, HN⟩ : ∃ N, Hid (N = prod (cnts cuts)) := ⟨_, rfl⟩
  have HML : Hid (m = prod s) := Lib.hid (by
    unfold validA at hva
    rw [Bool.and_eq_true, Bool.and_eq_true, decide_eq_true_eq, toNat_map, hl.out] at hva
    exact hva.2.1)
  have HMB : Hid (m2 = N) := Lib.hid (by
    unfold validA at hvb
    rw [Bool.and_eq_true, Bool.and_eq_true, decide_eq_true_eq, toNat_map, hbl.out] at hvb
    rw [HN.out]; exact hvb.2.1)
  have hN4 : N ≤ 4096 := by rw [HN.out]; exact Nat.le_trans hcp hsh.out.2.2
  obtain ⟨pos, HPOS⟩ : ∃ pos : Nat → Nat, Hid (pos = fun i => plc s (thr cuts (ixOf (cnts cuts) i)) 0) := ⟨_, Lib.hid rfl⟩
  obtain ⟨A, HA⟩ : ∃ A, Hid (A = w.heap.size) := ⟨_, Lib.hid rfl⟩
  obtain ⟨W0, HW0⟩ : ∃ W0, Hid (((w.alloc (.cells #[.slice p k c, .slice q m d] 25)).alloc (.cells #[.slice p2 k c2, .slice q2 m2 d2] 25)).alloc (.cells #[.slice none 0 0, .slice none 0 0] 25) = W0) := ⟨_, Lib.hid rfl⟩
  have HB0 : Hid (Below w.heap.size w W0) := Lib.hid (by rw [← HW0.out]; exact (((Below.refl _ w).alloc (Nat.le_refl _) _).alloc (by simp) _).alloc (by simp; omega) _)
  have HRB : Hid (w.heap.size ≤ A + 1 + 1) := Lib.hid (by rw [HA.out]; omega)
  have HS0 : Hid (W0.heap.size = A + 1 + 1 + 1) := Lib.hid (by rw [← HW0.out, HA.out]; simp)
  have HA0 : Hid (W0.heap[A]? = some (.cells #[.slice p k c, .slice q m d] 25 (0, 0))) := Lib.hid (by
    rw [← HW0.out, HA.out]; simp only [World.alloc, Array.getElem?_push, Array.size_push]
    repeat' (first | rw [if_pos (by omega)] | rw [if_neg (by omega)] | rfl))
  have HA1 : Hid (W0.heap[A + 1]? = some (.cells #[.slice p2 k c2, .slice q2 m2 d2] 25 (0, 0))) := Lib.hid (by
    rw [← HW0.out, HA.out]; simp only [World.alloc, Array.getElem?_push, Array.size_push]
    repeat' (first | rw [if_pos (by omega)] | rw [if_neg (by omega)] | rfl))
  have HA2 : Hid (W0.heap[A + 1 + 1]? = some (.cells #[.slice none 0 0, .slice none 0 0] 25 (0, 0))) := Lib.hid (by
    rw [← HW0.out, HA.out]; simp only [World.alloc, Array.getElem?_push, Array.size_push]
    repeat' (first | rw [if_pos (by omega)] | rw [if_neg (by omega)] | rfl))
  have HBX : Hid (∀ W, Below W0.heap.size W0 W → Below w.heap.size w W ∧ W.heap[A]? = some (.cells #[.slice p k c, .slice q m d] 25 (0, 0)) ∧ W.heap[A + 1]? = some (.cells #[.slice p2 k c2, .slice q2 m2 d2] 25 (0, 0)) ∧ W.heap[A + 1 + 1]? = some (.cells #[.slice none 0 0, .slice none 0 0] 25 (0, 0))) := Lib.hid (fun W hW =>
    ⟨HB0.out.trans (hW.mono HB0.out.size), (hW.block A (by rw [HS0.out]; omega)).trans HA0.out, (hW.block (A + 1) (by rw [HS0.out]; omega)).trans HA1.out, (hW.block (A + 1 + 1) (by rw [HS0.out]; omega)).trans HA2.out⟩)
  have HVA : Hid (Calls Tryz.prog 22 #[.agg #[.slice p k c, .slice q m d]] W0 fun e w' => Below W0.heap.size W0 w' ∧ e = .returned (.bool true)) := Lib.hid (by
    have := rvalidA_any p q c d k m (s.map Int.ofNat) l W0 (Lib.hid (by rw [List.length_map, hs.out])) hl hm (HP.out.below HB0.out) (HQ.out.below HB0.out)
    rwa [hva] at this)
  have HVB : Hid (∀ W, Below W0.heap.size W0 W → Calls Tryz.prog 22 #[.agg #[.slice p2 k c2, .slice q2 m2 d2]] W fun e w' => Below W.heap.size W w' ∧ e = .returned (.bool true)) := Lib.hid (fun W hW => by
    have := rvalidA_any p2 q2 c2 d2 k m2 ((cnts cuts).map Int.ofNat) bl W (Lib.hid (by rw [List.length_map, HCN.out])) hbl hm2 (HP2.out.below (HBX.out W hW).1) (HQ2.out.below (HBX.out W hW).1)
    rwa [hvb] at this)
  have HFI : Hid (∀ W, Below W0.heap.size W0 W → Calls Tryz.prog 63 #[.slice p k c, .slice cq k cd] W fun e w' => Below W.heap.size W w' ∧ e = .returned (.bool true)) := Lib.hid (fun W hW => by
    rw [← hsl.out]; exact rfits_any p cq c cd k k s cuts W hs hk hn4 hsh.out.2.1 (HP.out.below (HBX.out W hW).1) (HCQ.out.below (HBX.out W hW).1))
  have HCO : Hid (∀ W, Below W0.heap.size W0 W → Calls Tryz.prog 64 #[.slice cq k cd] W fun e w' => ∃ g, e = .returned (.slice (some ⟨g, 0, none⟩) k k) ∧ w'.heap[g]? = some (.cells (ixC (cnts cuts)) 3 (0, 0)) ∧ Below W.heap.size W w') := Lib.hid (fun W hW =>
    (rcounts_any cq cd k cuts W hn4 hk HCZ (HCQ.out.below (HBX.out W hW).1)).mono (fun e w' h => ⟨_, h.2.1, h.2.2, h.1⟩))
  have HEQ : Hid (∀ W g, Below W0.heap.size W0 W → W.heap[g]? = some (.cells (ixC (cnts cuts)) 3 (0, 0)) → Calls Tryz.prog 71 #[.slice p2 k c2, .slice (some ⟨g, 0, none⟩) k k] W fun e w' => Below W.heap.size W w' ∧ e = .returned (.bool true)) := Lib.hid (fun W g hW hg => by
    have := samesh_any p2 (some ⟨g, 0, none⟩) c2 k k k ((cnts cuts).map Int.ofNat) ((cnts cuts).map Int.ofNat) W (Lib.hid (by rw [List.length_map, HCN.out])) (Lib.hid (by rw [List.length_map, HCN.out])) (by omega) (by omega) (HP2.out.below (HBX.out W hW).1) (rdn_row hg (fun x hx => by have := HCB.out x hx; omega))
    rw [decide_eq_true rfl] at this
    exact this)
  clear hp hq hp2 hq2 hcq hva hvb hcl hcz hcb hcp
  go_enter Tryz.func27, Tryz.ntmps27
  go_wp2_with fail
  rw [HW0.out, ← HA.out]
  refine (HVA.out).mono ?_
  rintro e w1 ⟨hb1, rfl⟩
  have HB1 := Lib.hid hb1
  obtain ⟨-, x0, x1, y1⟩ := HBX.out w1 hb1
  have c1 : w1.cell? ⟨A + 1, 0, none⟩ = some (.slice p2 k c2) := by simp [World.cell?, x1]
  have c2' : w1.cell? ⟨A + 1, 1, none⟩ = some (.slice q2 m2 d2) := by simp [World.cell?, x1]
  clear hb1 x0 x1 y1
  go_wp2_with fail
  refine (HVB.out _ HB1.out).mono ?_
  rintro e w2 ⟨hb2, rfl⟩
  have HB2 := Lib.hid (HB1.out.trans (hb2.mono HB1.out.size))
  clear hb2 c1 c2'
  obtain ⟨-, x0, x1, y1⟩ := HBX.out w2 HB2.out
  have c0 : w2.cell? ⟨A, 0, none⟩ = some (.slice p k c) := by simp [World.cell?, x0]
  clear x0 x1 y1
  go_wp2_with fail
  refine (HFI.out _ HB2.out).mono ?_
  rintro e w3 ⟨hb3, rfl⟩
  have HB3 := Lib.hid (HB2.out.trans (hb3.mono HB2.out.size))
  clear hb3 c0
  have HSS : Hid (∀ W, Below W0.heap.size W0 W → (fun W => W.cell? ⟨A + 1, 0, none⟩ = some (.slice p2 k c2)) W) := Lib.hid (fun W hW => by
    have := (HBX.out W hW).2.2.1
    simp [World.cell?, this])
  have HBD : Hid (Below W0.heap.size W0 w3.drew) := Lib.hid (HB3.out.trans ⟨rfl, rfl, rfl, Nat.le_refl _, fun _ _ => rfl⟩)
  go_wp2_with fail
  refine wp_region_noPanic ?_
  refine wp_region_held_drew (S := fun W => W.cell? ⟨A + 1, 0, none⟩ = some (.slice p2 k c2)) (by kernel_rfl) (HSS.out _ HBD.out) (fun hHeld => ?_)
  refine wpAnyH_take (i := 0) (v := ?v1) rfl (by kernel_rfl) (by kernel_rfl) (by kernel_rfl) (fun _ _ _ h => h) (Or.inl ⟨by rfl, ?hy1⟩) (by assumption) ?rest1
  case hy1 =>
    intro W' hSw
    obtain e0 := hSw
    go_simp
    with_reducible rfl
  simp only [List.getElem_toArray, List.getElem_cons_zero, Act.put, List.setIfInBounds_toArray, List.set_cons_zero, List.set_cons_succ]
  refine wpAnyH_take (i := 1) (v := ?v2) rfl (by kernel_rfl) (by kernel_rfl) (by kernel_rfl) (fun _ _ _ h => h) (Or.inl ⟨by rfl, ?hy2⟩) (by assumption) ?rest2
  case hy2 =>
    intro W' hSw
    obtain e0 := hSw
    go_simp
    with_reducible rfl
  simp only [List.getElem_toArray, List.getElem_cons_zero, List.getElem_cons_succ, Act.put, List.setIfInBounds_toArray, List.set_cons_zero, List.set_cons_succ]
  refine wpAnyH_take (i := 2) (v := ?v3) rfl (by kernel_rfl) (by kernel_rfl) (by kernel_rfl) (fun _ _ _ h => h) (Or.inl ⟨by rfl, ?hy3⟩) (by assumption) ?rest3
  case hy3 =>
    intro W' hSw
    obtain e0 := hSw
    go_simp
    with_reducible rfl
  simp only [List.getElem_toArray, List.getElem_cons_zero, List.getElem_cons_succ, Act.put, List.setIfInBounds_toArray, List.set_cons_zero, List.set_cons_succ]
  refine wpAnyH_ready (rs := [3]) (by kernel_rfl) (by simp) ?_
  refine AllReadyH.cons (i := 3) rfl (fun K hK => ?_) AllReadyH.nil
  go_simp
  refine (HCO.out _ HBD.out).mono ?_
  rintro e w4 ⟨g4, rfl, hg4, hb4⟩
  have HG4 := Lib.hid hg4
  have HB4 : Hid (Below W0.heap.size W0 w4) := Lib.hid (HBD.out.trans (hb4.mono HBD.out.size))
  clear hg4 hb4
  refine hK.out _ _ (HSS.out _ HB4.out) (fun hHeld => ?_)
  clear hK K
  refine wpAnyH_ready (rs := [4]) (by kernel_rfl) (by simp) ?_
  refine AllReadyH.cons (i := 4) rfl (fun K hK => ?_) AllReadyH.nil
  go_simp
  refine (HEQ.out _ _ HB4.out HG4.out).mono ?_
  rintro e w5 ⟨hb5, rfl⟩
  have HB5 : Hid (Below W0.heap.size W0 w5) := Lib.hid (HB4.out.trans (hb5.mono HB4.out.size))
  clear hb5
  refine hK.out _ _ (HSS.out _ HB5.out) (fun hHeld => ?_)
  clear hK K
  refine wpAnyH_take (i := 5) (v := ?v4) rfl (by kernel_rfl) (by kernel_rfl) (by kernel_rfl) (fun _ _ _ h => h) (Or.inl ⟨by rfl, ?hy4⟩) (by assumption) ?rest4
  case hy4 =>
    intro W' hSw
    obtain e0 := hSw
    go_simp
    with_reducible rfl
  simp only [List.getElem_toArray, List.getElem_cons_zero, List.getElem_cons_succ, Act.put, List.setIfInBounds_toArray, List.set_cons_zero, List.set_cons_succ]
  refine wpAnyH_done (by kernel_rfl) ?_ _
  refine NoPanic.normal ?_
  clear hHeld
  have HB5d : Hid (Below W0.heap.size W0 w5.drew) := Lib.hid (HB5.out.trans ⟨rfl, rfl, rfl, Nat.le_refl _, fun _ _ => rfl⟩)
  obtain ⟨wd, hwd⟩ : ∃ wd, w5.drew = wd := ⟨_, rfl⟩
  rw [hwd] at HB5d
  have HSA : Hid (∀ W, Below wd.heap.size wd W → (fun W : World => W.cell? ⟨A, 0, none⟩ = some (.slice p k c) ∧ W.cell? ⟨A, 1, none⟩ = some (.slice q m d)) W) := Lib.hid (fun W hW => by
    have h0 := (HBX.out W (HB5d.out.trans (hW.mono HB5d.out.size))).2.1
    exact ⟨by simp [World.cell?, h0], by simp [World.cell?, h0]⟩)
  have HQW : Hid (∀ W, Below wd.heap.size wd W → RdS W q l) := Lib.hid (fun W hW => HQ.out.below (HBX.out W (HB5d.out.trans (hW.mono HB5d.out.size))).1)
  have H49 : Hid (∀ W, Below wd.heap.size wd W → Calls Tryz.prog 52 #[.slice p k c] W (ClonePost k s W)) := Lib.hid (fun W hW => copied_any p k c s W hs hn4 (Lib.hid hsh.out.2.1) (HP.out.below (HBX.out W (HB5d.out.trans (hW.mono HB5d.out.size))).1))
  have HBwd : Hid (Below wd.heap.size wd wd) := Lib.hid (Below.refl _ _)
  go_wp2_with fail
  refine wp_via (fun a a' w' => ∃ (v32 v33 v34 v35 v36 v37 v38 v39 : Value) (G : Nat) (qc : Option Addr) (dc : Nat) (qv : Option Addr) (dv : Nat), a' = ((((((((a.put (some 32) v32).put (some 33) v33).put (some 34) v34).put (some 35) v35).put (some 36) v36).put (some 37) v37).put (some 38) v38).put (some 39) v39).put (some 8) (.pointer (some ⟨G, 0, none⟩)) ∧ P7 wd k m s l G qc dc qv dv w') ?_ ?_
  · refine wp_region_noPanic ?_
    refine wp_region_held_drew (S := fun W : World => W.cell? ⟨A, 0, none⟩ = some (.slice p k c) ∧ W.cell? ⟨A, 1, none⟩ = some (.slice q m d)) (by kernel_rfl) (by rw [hwd]; exact HSA.out _ HBwd.out) (fun hHeld => ?_)
    rw [hwd] at hHeld ⊢
    refine wpAnyH_take (i := 0) (v := ?v17) rfl (by kernel_rfl) (by kernel_rfl) (by kernel_rfl) (fun _ _ _ h => h) (Or.inl ⟨by rfl, ?hy17⟩) (by assumption) ?rest17
    case hy17 =>
      intro W' hSw
      obtain ⟨e0, e1⟩ := hSw
      go_simp
      with_reducible rfl
    simp only [List.getElem_toArray, List.getElem_cons_zero, Act.put, List.setIfInBounds_toArray, List.set_cons_zero, List.set_cons_succ]
    refine wpAnyH_take (i := 1) (v := ?v18) rfl (by kernel_rfl) (by kernel_rfl) (by kernel_rfl) (fun _ _ _ h => h) (Or.inl ⟨by rfl, ?hy18⟩) (by assumption) ?rest18
    case hy18 =>
      intro W' hSw
      obtain ⟨e0, e1⟩ := hSw
      go_simp
      with_reducible rfl
    simp only [List.getElem_toArray, List.getElem_cons_zero, List.getElem_cons_succ, Act.put, List.setIfInBounds_toArray, List.set_cons_zero, List.set_cons_succ]
    refine wpAnyH_take (i := 4) (v := ?v19) rfl (by kernel_rfl) (by kernel_rfl) (by kernel_rfl) (fun _ _ _ h => h) (Or.inl ⟨by rfl, ?hy19⟩) (by assumption) ?rest19
    case hy19 =>
      intro W' hSw
      obtain ⟨e0, e1⟩ := hSw
      go_simp
      with_reducible rfl
    simp only [List.getElem_toArray, List.getElem_cons_zero, List.getElem_cons_succ, Act.put, List.setIfInBounds_toArray, List.set_cons_zero, List.set_cons_succ]
    refine wpAnyH_take (i := 5) (v := ?v20) rfl (by kernel_rfl) (by kernel_rfl) (by kernel_rfl) (fun _ _ _ h => h) (Or.inl ⟨by rfl, ?hy20⟩) (by assumption) ?rest20
    case hy20 =>
      intro W' hSw
      obtain ⟨e0, e1⟩ := hSw
      go_simp
      with_reducible rfl
    simp only [List.getElem_toArray, List.getElem_cons_zero, List.getElem_cons_succ, Act.put, List.setIfInBounds_toArray, List.set_cons_zero, List.set_cons_succ]
    refine wpAnyH_ready (rs := [2, 3, 8]) (by kernel_rfl) (by simp) ?_
    refine AllReadyH.cons (i := 2) rfl (fun K hK => ?_) (AllReadyH.cons (i := 3) rfl (fun K hK => ?_) (AllReadyH.cons (i := 8) rfl (fun K hK => ?_) (AllReadyH.nil)))
    · go_simp
      refine (H49.out _ HBwd.out).mono ?_
      rintro e u1 ⟨hb2, qc, dc, rfl, hq1, -, -, hq4⟩
      have HXu1 := Lib.hid hb2
      have HBu1 : Hid (Below wd.heap.size wd u1) := Lib.hid (HBwd.out.trans (hb2.mono HBwd.out.size))
      have HQB : Hid (∀ b off, qc = some ⟨b, off, none⟩ → wd.heap.size ≤ b) := Lib.hid (fun b off e => Nat.le_trans HBwd.out.size (hq4 b off e))
      have HCC := Lib.hid hq1
      clear hb2 hq1 hq4
      refine hK.out _ _ (HSA.out _ HBu1.out) (fun hHeld => ?_)
      clear hK K
      refine wpAnyH_ready (rs := [3, 8]) (by kernel_rfl) (by simp) ?_
      refine AllReadyH.cons (i := 3) rfl (fun K hK => ?_) (AllReadyH.cons (i := 8) rfl (fun K hK => ?_) (AllReadyH.nil))
      · have HCCold := HCC
        obtain ⟨ob, Hob⟩ : ∃ o, Hid (o = u1.heap.size) := ⟨_, Lib.hid rfl⟩
        obtain ⟨u2, HUu2⟩ : ∃ U, Hid (u1.alloc (.cells #[] 9) = U) := ⟨_, Lib.hid rfl⟩
        have HXu2 : Hid (Below u1.heap.size u1 u2) := Lib.hid (by rw [← HUu2.out]; exact (Below.refl _ _).alloc (Nat.le_refl _) _)
        have HBu2 : Hid (Below wd.heap.size wd u2) := Lib.hid (HBu1.out.trans (HXu2.out.mono HBu1.out.size))
        have HCC := Lib.hid (RdN.below HCC.out HXu2.out)
        have HQO : Hid (∀ b off, qc = some ⟨b, off, none⟩ → 0 < s.length → b ≠ ob) := Lib.hid (fun b off e h0 => by
          obtain ⟨b', off', x, e', hb', -⟩ := HCCold.out.at h0
          rw [e] at e'; cases e'; rw [Hob.out]; omega)
        have HOO : Hid (u2.ownsRow wd.heap.size 9 1 (.slice (some ⟨ob, 0, none⟩) 0 0) 0 (strs [])) := Lib.hid (by
          rw [← HUu2.out, Hob.out]
          exact ⟨rfl, .inr ⟨u1.heap.size, 0, #[], rfl, HBu1.out.size, World.alloc_heap_new u1 _, Nat.le_refl _, Nat.zero_le _, rfl, rfl⟩⟩)
        go_simp
        try rw [HUu2.out]
        try rw [← Hob.out]
        refine hK.out _ _ (HSA.out _ HBu2.out) (fun hHeld => ?_)
        clear hK K
        refine wpAnyH_ready (rs := [6, 8]) (by kernel_rfl) (by simp) ?_
        refine AllReadyH.cons (i := 6) rfl (fun K hK => ?_) (AllReadyH.cons (i := 8) rfl (fun K hK => ?_) (AllReadyH.nil))
        · rw [if_pos (by rfl)]
          refine op_append_sl2 (.tmp 35) (.tmp 37) rfl wd.heap.size ob 0 rfl HOO.out q m d l rfl hl.out (HQW.out _ HBu2.out) (by omega) HBu2.out.size ?_
          intro qv dv u3 hown6 hg6 hv6
          have HVV := Lib.hid hown6
          have hob := HOO.out.lt ob rfl
          have HBu3 : Hid (Below wd.heap.size wd u3) := Lib.hid ⟨hg6.os.trans HBu2.out.os, hg6.tape.trans HBu2.out.tape, hg6.output.trans HBu2.out.output, Nat.le_trans HBu2.out.size hg6.size, fun j hj => (hg6.block j (Nat.lt_of_lt_of_le hj HBu2.out.size) (by intro e; injection e with e; omega)).trans (HBu2.out.block j hj)⟩
          have HQV : Hid (∀ b off, qc = some ⟨b, off, none⟩ → 0 < s.length → (Value.slice qv m dv).ownBlock ≠ some b) := Lib.hid (fun b off e h0 e2 => by
            obtain ⟨b', off', x, e', hb', -⟩ := HCC.out.at h0
            rw [e] at e'; cases e'
            have h7 := HQO.out b off e h0
            rcases hv6 with h | h
            · rw [h] at e2; injection e2 with e2; exact h7 e2.symm
            · rw [h] at e2; injection e2 with e2; omega)
          have HCC : Hid (RdN u3 qc s) := Lib.hid (RdN.keep HCC.out hg6.size (fun b off e h0 => by
            obtain ⟨b', off', x, e', hb', -⟩ := HCC.out.at h0
            rw [e] at e'; cases e'
            exact hg6.block b hb' (by intro e2; injection e2 with e2; exact HQO.out b off e h0 e2)))
          clear hown6 hg6 hv6 hob
          refine hK.out _ _ (HSA.out _ HBu3.out) (fun hHeld => ?_)
          clear hK K
          refine wpAnyH_take (i := 7) (v := ?v21) rfl (by kernel_rfl) (by kernel_rfl) (by kernel_rfl) (fun _ _ _ h => h) (Or.inl ⟨by rfl, ?hy21⟩) (by assumption) ?rest21
          case hy21 =>
            intro W' hSw
            obtain ⟨e0, e1⟩ := hSw
            go_simp
            with_reducible rfl
          simp only [List.getElem_toArray, List.getElem_cons_zero, List.getElem_cons_succ, Act.put, List.setIfInBounds_toArray, List.set_cons_zero, List.set_cons_succ]
          refine wpAnyH_ready (rs := [8]) (by kernel_rfl) (by simp) ?_
          refine AllReadyH.cons (i := 8) rfl (fun K hK => ?_) (AllReadyH.nil)
          · have HCCold := HCC
            obtain ⟨G, HG⟩ : ∃ o, Hid (o = u3.heap.size) := ⟨_, Lib.hid rfl⟩
            obtain ⟨u4, HUu4⟩ : ∃ U, Hid (u3.alloc (.cells #[.slice none 0 0, .slice none 0 0] 25) = U) := ⟨_, Lib.hid rfl⟩
            have HXu4 : Hid (Below u3.heap.size u3 u4) := Lib.hid (by rw [← HUu4.out]; exact (Below.refl _ _).alloc (Nat.le_refl _) _)
            have HBu4 : Hid (Below wd.heap.size wd u4) := Lib.hid (HBu3.out.trans (HXu4.out.mono HBu3.out.size))
            have HGG : Hid (wd.heap.size ≤ G) := Lib.hid (by rw [HG.out]; exact HBu3.out.size)
            have HCC := Lib.hid (RdN.below HCC.out HXu4.out)
            have HVV := Lib.hid (HVV.out.kept (gb_of_below HXu4.out none) (by rcases Option.eq_none_or_eq_some (Value.slice qv m dv).ownBlock with e | ⟨b, e⟩ <;> simp [e]))
            have HQG : Hid (∀ b off, qc = some ⟨b, off, none⟩ → 0 < s.length → b ≠ G) := Lib.hid (fun b off e h0 => by
              obtain ⟨b', off', x, e', hb', -⟩ := HCCold.out.at h0
              rw [e] at e'; cases e'; rw [HG.out]; omega)
            have HGB : Hid (u4.heap[G]? = some (.cells #[.slice none 0 0, .slice none 0 0] 25 (0, 0))) := Lib.hid (by rw [← HUu4.out, HG.out]; exact World.alloc_heap_new _ _)
            go_simp
            try rw [HUu4.out]
            try rw [← HG.out]
            refine hK.out _ _ (HSA.out _ HBu4.out) (fun hHeld => ?_)
            clear hK K
            have hgk := HGB.out
            have y9 := HGB.out
            have hE1 := heap_set u4 G 0 (.slice qc k dc) _ _ y9
            have hE2 := heap_set _ G 1 (.slice qv m dv) _ _ hE1
            obtain ⟨W9, hW9⟩ : ∃ W9, (u4.setCell ⟨G, 0, none⟩ (.slice qc k dc)).setCell ⟨G, 1, none⟩ (.slice qv m dv) = W9 := ⟨_, rfl⟩
            rw [hW9] at hE2
            have hg9 : u4.grownBy W9 (some G) := by rw [← hW9]; exact (gb_set _ _ _ _).trans (gb_set _ _ _ _)
            have r0 : u4.cell? ⟨G, 0, none⟩ = some (.slice none 0 0) := by simp [World.cell?, y9]
            have r1 : u4.cell? ⟨G, 1, none⟩ = some (.slice none 0 0) := by simp [World.cell?, y9]
            have z0 : u4.frozen? ⟨G, 0, none⟩ = false := by simp [World.frozen?, y9]
            have z1 : u4.frozen? ⟨G, 1, none⟩ = false := by simp [World.frozen?, y9]
            have HP7 : Hid (P7 wd k m s l G qc dc qv dv W9) := Lib.hid (by
              have hGge := HGG.out
              have hvg : (Value.slice qv m dv).ownBlock ≠ some G := fun e => by
                obtain ⟨c9, h9⟩ := own_kind9 HVV.out e
                rw [y9] at h9; cases h9
              refine ⟨⟨hg9.os.trans HBu4.out.os, hg9.tape.trans HBu4.out.tape, hg9.output.trans HBu4.out.output, Nat.le_trans HBu4.out.size hg9.size, fun j hj => (hg9.block j (Nat.lt_of_lt_of_le hj HBu4.out.size) (by intro e; injection e with e; omega)).trans (HBu4.out.block j hj)⟩, hE2, hGge, ?_, fun b off e h0 => ⟨HQB.out b off e, HQG.out b off e h0, HQV.out b off e h0⟩, HVV.out.kept hg9 (.inr hvg)⟩
              refine RdN.keep HCC.out hg9.size (fun b off e h0 => ?_)
              obtain ⟨b', off', x, e', hb', -⟩ := HCC.out.at h0
              rw [e] at e'; cases e'
              exact hg9.block b hb' (by intro e2; injection e2 with e2; exact HQG.out b off e h0 e2))
            have HS9 := Lib.hid (HSA.out W9 HP7.out.below)
            clear hE1 hE2 y9 hg9 hgk
            refine wpAnyH_ready (rs := [9]) (by kernel_rfl) (by simp) ?_
            refine AllReadyH.cons (i := 9) rfl (fun K hK => ?_) AllReadyH.nil
            go_simp
            try rw [hW9]
            refine hK.out _ _ HS9.out (fun hHeld => ?_)
            clear hK K
            refine wpAnyH_done (by kernel_rfl) ?_ _
            refine NoPanic.normal ?_
            exact ⟨rfl, _, _, _, _, _, _, _, _, G, qc, dc, qv, dv, rfl, HP7.out⟩
        · have HCCold := HCC
          obtain ⟨G, HG⟩ : ∃ o, Hid (o = u2.heap.size) := ⟨_, Lib.hid rfl⟩
          obtain ⟨u5, HUu5⟩ : ∃ U, Hid (u2.alloc (.cells #[.slice none 0 0, .slice none 0 0] 25) = U) := ⟨_, Lib.hid rfl⟩
          have HXu5 : Hid (Below u2.heap.size u2 u5) := Lib.hid (by rw [← HUu5.out]; exact (Below.refl _ _).alloc (Nat.le_refl _) _)
          have HBu5 : Hid (Below wd.heap.size wd u5) := Lib.hid (HBu2.out.trans (HXu5.out.mono HBu2.out.size))
          have HGG : Hid (wd.heap.size ≤ G) := Lib.hid (by rw [HG.out]; exact HBu2.out.size)
          have HCC := Lib.hid (RdN.below HCC.out HXu5.out)
          have HOO := Lib.hid (HOO.out.kept (gb_of_below HXu5.out none) (.inr (by intro e; cases e)))
          have HQG : Hid (∀ b off, qc = some ⟨b, off, none⟩ → 0 < s.length → b ≠ G) := Lib.hid (fun b off e h0 => by
            obtain ⟨b', off', x, e', hb', -⟩ := HCCold.out.at h0
            rw [e] at e'; cases e'; rw [HG.out]; omega)
          have HGB : Hid (u5.heap[G]? = some (.cells #[.slice none 0 0, .slice none 0 0] 25 (0, 0))) := Lib.hid (by rw [← HUu5.out, HG.out]; exact World.alloc_heap_new _ _)
          go_simp
          try rw [HUu5.out]
          try rw [← HG.out]
          refine hK.out _ _ (HSA.out _ HBu5.out) (fun hHeld => ?_)
          clear hK K
          refine wpAnyH_ready (rs := [6]) (by kernel_rfl) (by simp) ?_
          refine AllReadyH.cons (i := 6) rfl (fun K hK => ?_) (AllReadyH.nil)
          · rw [if_pos (by rfl)]
            refine op_append_sl2 (.tmp 35) (.tmp 37) rfl wd.heap.size ob 0 rfl HOO.out q m d l rfl hl.out (HQW.out _ HBu5.out) (by omega) HBu5.out.size ?_
            intro qv dv u6 hown6 hg6 hv6
            have HVV := Lib.hid hown6
            have hob := HOO.out.lt ob rfl
            have HBu6 : Hid (Below wd.heap.size wd u6) := Lib.hid ⟨hg6.os.trans HBu5.out.os, hg6.tape.trans HBu5.out.tape, hg6.output.trans HBu5.out.output, Nat.le_trans HBu5.out.size hg6.size, fun j hj => (hg6.block j (Nat.lt_of_lt_of_le hj HBu5.out.size) (by intro e; injection e with e; omega)).trans (HBu5.out.block j hj)⟩
            have HQV : Hid (∀ b off, qc = some ⟨b, off, none⟩ → 0 < s.length → (Value.slice qv m dv).ownBlock ≠ some b) := Lib.hid (fun b off e h0 e2 => by
              obtain ⟨b', off', x, e', hb', -⟩ := HCC.out.at h0
              rw [e] at e'; cases e'
              have h7 := HQO.out b off e h0
              rcases hv6 with h | h
              · rw [h] at e2; injection e2 with e2; exact h7 e2.symm
              · rw [h] at e2; injection e2 with e2; omega)
            have HCC : Hid (RdN u6 qc s) := Lib.hid (RdN.keep HCC.out hg6.size (fun b off e h0 => by
              obtain ⟨b', off', x, e', hb', -⟩ := HCC.out.at h0
              rw [e] at e'; cases e'
              exact hg6.block b hb' (by intro e2; injection e2 with e2; exact HQO.out b off e h0 e2)))
            have HGB : Hid (u6.heap[G]? = some (.cells #[.slice none 0 0, .slice none 0 0] 25 (0, 0))) := Lib.hid ((hg6.block G (Array.getElem?_eq_some_iff.1 HGB.out).1 (by
              intro e; injection e with e
              obtain ⟨c9, h9⟩ := own_kind9 HOO.out rfl
              rw [← e, HGB.out] at h9; cases h9)).trans HGB.out)
            clear hown6 hg6 hv6 hob
            refine hK.out _ _ (HSA.out _ HBu6.out) (fun hHeld => ?_)
            clear hK K
            refine wpAnyH_take (i := 7) (v := ?v22) rfl (by kernel_rfl) (by kernel_rfl) (by kernel_rfl) (fun _ _ _ h => h) (Or.inl ⟨by rfl, ?hy22⟩) (by assumption) ?rest22
            case hy22 =>
              intro W' hSw
              obtain ⟨e0, e1⟩ := hSw
              go_simp
              with_reducible rfl
            simp only [List.getElem_toArray, List.getElem_cons_zero, List.getElem_cons_succ, Act.put, List.setIfInBounds_toArray, List.set_cons_zero, List.set_cons_succ]
            have hgk := HGB.out
            have y9 := HGB.out
            have hE1 := heap_set u6 G 0 (.slice qc k dc) _ _ y9
            have hE2 := heap_set _ G 1 (.slice qv m dv) _ _ hE1
            obtain ⟨W9, hW9⟩ : ∃ W9, (u6.setCell ⟨G, 0, none⟩ (.slice qc k dc)).setCell ⟨G, 1, none⟩ (.slice qv m dv) = W9 := ⟨_, rfl⟩
            rw [hW9] at hE2
            have hg9 : u6.grownBy W9 (some G) := by rw [← hW9]; exact (gb_set _ _ _ _).trans (gb_set _ _ _ _)
            have r0 : u6.cell? ⟨G, 0, none⟩ = some (.slice none 0 0) := by simp [World.cell?, y9]
            have r1 : u6.cell? ⟨G, 1, none⟩ = some (.slice none 0 0) := by simp [World.cell?, y9]
            have z0 : u6.frozen? ⟨G, 0, none⟩ = false := by simp [World.frozen?, y9]
            have z1 : u6.frozen? ⟨G, 1, none⟩ = false := by simp [World.frozen?, y9]
            have HP7 : Hid (P7 wd k m s l G qc dc qv dv W9) := Lib.hid (by
              have hGge := HGG.out
              have hvg : (Value.slice qv m dv).ownBlock ≠ some G := fun e => by
                obtain ⟨c9, h9⟩ := own_kind9 HVV.out e
                rw [y9] at h9; cases h9
              refine ⟨⟨hg9.os.trans HBu6.out.os, hg9.tape.trans HBu6.out.tape, hg9.output.trans HBu6.out.output, Nat.le_trans HBu6.out.size hg9.size, fun j hj => (hg9.block j (Nat.lt_of_lt_of_le hj HBu6.out.size) (by intro e; injection e with e; omega)).trans (HBu6.out.block j hj)⟩, hE2, hGge, ?_, fun b off e h0 => ⟨HQB.out b off e, HQG.out b off e h0, HQV.out b off e h0⟩, HVV.out.kept hg9 (.inr hvg)⟩
              refine RdN.keep HCC.out hg9.size (fun b off e h0 => ?_)
              obtain ⟨b', off', x, e', hb', -⟩ := HCC.out.at h0
              rw [e] at e'; cases e'
              exact hg9.block b hb' (by intro e2; injection e2 with e2; exact HQG.out b off e h0 e2))
            have HS9 := Lib.hid (HSA.out W9 HP7.out.below)
            clear hE1 hE2 y9 hg9 hgk
            refine wpAnyH_ready (rs := [9]) (by kernel_rfl) (by simp) ?_
            refine AllReadyH.cons (i := 9) rfl (fun K hK => ?_) AllReadyH.nil
            go_simp
            try rw [hW9]
            refine hK.out _ _ HS9.out (fun hHeld => ?_)
            clear hK K
            refine wpAnyH_done (by kernel_rfl) ?_ _
            refine NoPanic.normal ?_
            exact ⟨rfl, _, _, _, _, _, _, _, _, G, qc, dc, qv, dv, rfl, HP7.out⟩
      · have HCCold := HCC
        obtain ⟨G, HG⟩ : ∃ o, Hid (o = u1.heap.size) := ⟨_, Lib.hid rfl⟩
        obtain ⟨u7, HUu7⟩ : ∃ U, Hid (u1.alloc (.cells #[.slice none 0 0, .slice none 0 0] 25) = U) := ⟨_, Lib.hid rfl⟩
        have HXu7 : Hid (Below u1.heap.size u1 u7) := Lib.hid (by rw [← HUu7.out]; exact (Below.refl _ _).alloc (Nat.le_refl _) _)
        have HBu7 : Hid (Below wd.heap.size wd u7) := Lib.hid (HBu1.out.trans (HXu7.out.mono HBu1.out.size))
        have HGG : Hid (wd.heap.size ≤ G) := Lib.hid (by rw [HG.out]; exact HBu1.out.size)
        have HCC := Lib.hid (RdN.below HCC.out HXu7.out)
        have HQG : Hid (∀ b off, qc = some ⟨b, off, none⟩ → 0 < s.length → b ≠ G) := Lib.hid (fun b off e h0 => by
          obtain ⟨b', off', x, e', hb', -⟩ := HCCold.out.at h0
          rw [e] at e'; cases e'; rw [HG.out]; omega)
        have HGB : Hid (u7.heap[G]? = some (.cells #[.slice none 0 0, .slice none 0 0] 25 (0, 0))) := Lib.hid (by rw [← HUu7.out, HG.out]; exact World.alloc_heap_new _ _)
        go_simp
        try rw [HUu7.out]
        try rw [← HG.out]
        refine hK.out _ _ (HSA.out _ HBu7.out) (fun hHeld => ?_)
        clear hK K
        refine wpAnyH_ready (rs := [3]) (by kernel_rfl) (by simp) ?_
        refine AllReadyH.cons (i := 3) rfl (fun K hK => ?_) (AllReadyH.nil)
        · have HCCold := HCC
          obtain ⟨ob, Hob⟩ : ∃ o, Hid (o = u7.heap.size) := ⟨_, Lib.hid rfl⟩
          obtain ⟨u8, HUu8⟩ : ∃ U, Hid (u7.alloc (.cells #[] 9) = U) := ⟨_, Lib.hid rfl⟩
          have HXu8 : Hid (Below u7.heap.size u7 u8) := Lib.hid (by rw [← HUu8.out]; exact (Below.refl _ _).alloc (Nat.le_refl _) _)
          have HBu8 : Hid (Below wd.heap.size wd u8) := Lib.hid (HBu7.out.trans (HXu8.out.mono HBu7.out.size))
          have HCC := Lib.hid (RdN.below HCC.out HXu8.out)
          have HGB := Lib.hid ((HXu8.out.block G (Array.getElem?_eq_some_iff.1 HGB.out).1).trans HGB.out)
          have HQO : Hid (∀ b off, qc = some ⟨b, off, none⟩ → 0 < s.length → b ≠ ob) := Lib.hid (fun b off e h0 => by
            obtain ⟨b', off', x, e', hb', -⟩ := HCCold.out.at h0
            rw [e] at e'; cases e'; rw [Hob.out]; omega)
          have HOO : Hid (u8.ownsRow wd.heap.size 9 1 (.slice (some ⟨ob, 0, none⟩) 0 0) 0 (strs [])) := Lib.hid (by
            rw [← HUu8.out, Hob.out]
            exact ⟨rfl, .inr ⟨u7.heap.size, 0, #[], rfl, HBu7.out.size, World.alloc_heap_new u7 _, Nat.le_refl _, Nat.zero_le _, rfl, rfl⟩⟩)
          go_simp
          try rw [HUu8.out]
          try rw [← Hob.out]
          refine hK.out _ _ (HSA.out _ HBu8.out) (fun hHeld => ?_)
          clear hK K
          refine wpAnyH_ready (rs := [6]) (by kernel_rfl) (by simp) ?_
          refine AllReadyH.cons (i := 6) rfl (fun K hK => ?_) (AllReadyH.nil)
          · rw [if_pos (by rfl)]
            refine op_append_sl2 (.tmp 35) (.tmp 37) rfl wd.heap.size ob 0 rfl HOO.out q m d l rfl hl.out (HQW.out _ HBu8.out) (by omega) HBu8.out.size ?_
            intro qv dv u9 hown6 hg6 hv6
            have HVV := Lib.hid hown6
            have hob := HOO.out.lt ob rfl
            have HBu9 : Hid (Below wd.heap.size wd u9) := Lib.hid ⟨hg6.os.trans HBu8.out.os, hg6.tape.trans HBu8.out.tape, hg6.output.trans HBu8.out.output, Nat.le_trans HBu8.out.size hg6.size, fun j hj => (hg6.block j (Nat.lt_of_lt_of_le hj HBu8.out.size) (by intro e; injection e with e; omega)).trans (HBu8.out.block j hj)⟩
            have HQV : Hid (∀ b off, qc = some ⟨b, off, none⟩ → 0 < s.length → (Value.slice qv m dv).ownBlock ≠ some b) := Lib.hid (fun b off e h0 e2 => by
              obtain ⟨b', off', x, e', hb', -⟩ := HCC.out.at h0
              rw [e] at e'; cases e'
              have h7 := HQO.out b off e h0
              rcases hv6 with h | h
              · rw [h] at e2; injection e2 with e2; exact h7 e2.symm
              · rw [h] at e2; injection e2 with e2; omega)
            have HCC : Hid (RdN u9 qc s) := Lib.hid (RdN.keep HCC.out hg6.size (fun b off e h0 => by
              obtain ⟨b', off', x, e', hb', -⟩ := HCC.out.at h0
              rw [e] at e'; cases e'
              exact hg6.block b hb' (by intro e2; injection e2 with e2; exact HQO.out b off e h0 e2)))
            have HGB : Hid (u9.heap[G]? = some (.cells #[.slice none 0 0, .slice none 0 0] 25 (0, 0))) := Lib.hid ((hg6.block G (Array.getElem?_eq_some_iff.1 HGB.out).1 (by
              intro e; injection e with e
              obtain ⟨c9, h9⟩ := own_kind9 HOO.out rfl
              rw [← e, HGB.out] at h9; cases h9)).trans HGB.out)
            clear hown6 hg6 hv6 hob
            refine hK.out _ _ (HSA.out _ HBu9.out) (fun hHeld => ?_)
            clear hK K
            refine wpAnyH_take (i := 7) (v := ?v23) rfl (by kernel_rfl) (by kernel_rfl) (by kernel_rfl) (fun _ _ _ h => h) (Or.inl ⟨by rfl, ?hy23⟩) (by assumption) ?rest23
            case hy23 =>
              intro W' hSw
              obtain ⟨e0, e1⟩ := hSw
              go_simp
              with_reducible rfl
            simp only [List.getElem_toArray, List.getElem_cons_zero, List.getElem_cons_succ, Act.put, List.setIfInBounds_toArray, List.set_cons_zero, List.set_cons_succ]
            have hgk := HGB.out
            have y9 := HGB.out
            have hE1 := heap_set u9 G 0 (.slice qc k dc) _ _ y9
            have hE2 := heap_set _ G 1 (.slice qv m dv) _ _ hE1
            obtain ⟨W9, hW9⟩ : ∃ W9, (u9.setCell ⟨G, 0, none⟩ (.slice qc k dc)).setCell ⟨G, 1, none⟩ (.slice qv m dv) = W9 := ⟨_, rfl⟩
            rw [hW9] at hE2
            have hg9 : u9.grownBy W9 (some G) := by rw [← hW9]; exact (gb_set _ _ _ _).trans (gb_set _ _ _ _)
            have r0 : u9.cell? ⟨G, 0, none⟩ = some (.slice none 0 0) := by simp [World.cell?, y9]
            have r1 : u9.cell? ⟨G, 1, none⟩ = some (.slice none 0 0) := by simp [World.cell?, y9]
            have z0 : u9.frozen? ⟨G, 0, none⟩ = false := by simp [World.frozen?, y9]
            have z1 : u9.frozen? ⟨G, 1, none⟩ = false := by simp [World.frozen?, y9]
            have HP7 : Hid (P7 wd k m s l G qc dc qv dv W9) := Lib.hid (by
              have hGge := HGG.out
              have hvg : (Value.slice qv m dv).ownBlock ≠ some G := fun e => by
                obtain ⟨c9, h9⟩ := own_kind9 HVV.out e
                rw [y9] at h9; cases h9
              refine ⟨⟨hg9.os.trans HBu9.out.os, hg9.tape.trans HBu9.out.tape, hg9.output.trans HBu9.out.output, Nat.le_trans HBu9.out.size hg9.size, fun j hj => (hg9.block j (Nat.lt_of_lt_of_le hj HBu9.out.size) (by intro e; injection e with e; omega)).trans (HBu9.out.block j hj)⟩, hE2, hGge, ?_, fun b off e h0 => ⟨HQB.out b off e, HQG.out b off e h0, HQV.out b off e h0⟩, HVV.out.kept hg9 (.inr hvg)⟩
              refine RdN.keep HCC.out hg9.size (fun b off e h0 => ?_)
              obtain ⟨b', off', x, e', hb', -⟩ := HCC.out.at h0
              rw [e] at e'; cases e'
              exact hg9.block b hb' (by intro e2; injection e2 with e2; exact HQG.out b off e h0 e2))
            have HS9 := Lib.hid (HSA.out W9 HP7.out.below)
            clear hE1 hE2 y9 hg9 hgk
            refine wpAnyH_ready (rs := [9]) (by kernel_rfl) (by simp) ?_
            refine AllReadyH.cons (i := 9) rfl (fun K hK => ?_) AllReadyH.nil
            go_simp
            try rw [hW9]
            refine hK.out _ _ HS9.out (fun hHeld => ?_)
            clear hK K
            refine wpAnyH_done (by kernel_rfl) ?_ _
            refine NoPanic.normal ?_
            exact ⟨rfl, _, _, _, _, _, _, _, _, G, qc, dc, qv, dv, rfl, HP7.out⟩
    · obtain ⟨ob, Hob⟩ : ∃ o, Hid (o = wd.heap.size) := ⟨_, Lib.hid rfl⟩
      obtain ⟨u10, HUu10⟩ : ∃ U, Hid (wd.alloc (.cells #[] 9) = U) := ⟨_, Lib.hid rfl⟩
      have HXu10 : Hid (Below wd.heap.size wd u10) := Lib.hid (by rw [← HUu10.out]; exact (Below.refl _ _).alloc (Nat.le_refl _) _)
      have HBu10 : Hid (Below wd.heap.size wd u10) := Lib.hid (HBwd.out.trans (HXu10.out.mono HBwd.out.size))
      have HOO : Hid (u10.ownsRow wd.heap.size 9 1 (.slice (some ⟨ob, 0, none⟩) 0 0) 0 (strs [])) := Lib.hid (by
        rw [← HUu10.out, Hob.out]
        exact ⟨rfl, .inr ⟨wd.heap.size, 0, #[], rfl, HBwd.out.size, World.alloc_heap_new wd _, Nat.le_refl _, Nat.zero_le _, rfl, rfl⟩⟩)
      go_simp
      try rw [HUu10.out]
      try rw [← Hob.out]
      refine hK.out _ _ (HSA.out _ HBu10.out) (fun hHeld => ?_)
      clear hK K
      refine wpAnyH_ready (rs := [2, 8]) (by kernel_rfl) (by simp) ?_
      refine AllReadyH.cons (i := 2) rfl (fun K hK => ?_) (AllReadyH.cons (i := 8) rfl (fun K hK => ?_) (AllReadyH.nil))
      · go_simp
        refine (H49.out _ HBu10.out).mono ?_
        rintro e u11 ⟨hb2, qc, dc, rfl, hq1, -, -, hq4⟩
        have HXu11 := Lib.hid hb2
        have HBu11 : Hid (Below wd.heap.size wd u11) := Lib.hid (HBu10.out.trans (hb2.mono HBu10.out.size))
        have HQB : Hid (∀ b off, qc = some ⟨b, off, none⟩ → wd.heap.size ≤ b) := Lib.hid (fun b off e => Nat.le_trans HBu10.out.size (hq4 b off e))
        have HQO : Hid (∀ b off, qc = some ⟨b, off, none⟩ → 0 < s.length → b ≠ ob) := Lib.hid (fun b off e _ => by have := hq4 b off e; have := (HOO.out.lt ob rfl).2; omega)
        have HOO := Lib.hid (HOO.out.kept (gb_of_below HXu11.out none) (.inr (by intro e; cases e)))
        have HCC := Lib.hid hq1
        clear hb2 hq1 hq4
        refine hK.out _ _ (HSA.out _ HBu11.out) (fun hHeld => ?_)
        clear hK K
        refine wpAnyH_ready (rs := [6, 8]) (by kernel_rfl) (by simp) ?_
        refine AllReadyH.cons (i := 6) rfl (fun K hK => ?_) (AllReadyH.cons (i := 8) rfl (fun K hK => ?_) (AllReadyH.nil))
        · rw [if_pos (by rfl)]
          refine op_append_sl2 (.tmp 35) (.tmp 37) rfl wd.heap.size ob 0 rfl HOO.out q m d l rfl hl.out (HQW.out _ HBu11.out) (by omega) HBu11.out.size ?_
          intro qv dv u12 hown6 hg6 hv6
          have HVV := Lib.hid hown6
          have hob := HOO.out.lt ob rfl
          have HBu12 : Hid (Below wd.heap.size wd u12) := Lib.hid ⟨hg6.os.trans HBu11.out.os, hg6.tape.trans HBu11.out.tape, hg6.output.trans HBu11.out.output, Nat.le_trans HBu11.out.size hg6.size, fun j hj => (hg6.block j (Nat.lt_of_lt_of_le hj HBu11.out.size) (by intro e; injection e with e; omega)).trans (HBu11.out.block j hj)⟩
          have HQV : Hid (∀ b off, qc = some ⟨b, off, none⟩ → 0 < s.length → (Value.slice qv m dv).ownBlock ≠ some b) := Lib.hid (fun b off e h0 e2 => by
            obtain ⟨b', off', x, e', hb', -⟩ := HCC.out.at h0
            rw [e] at e'; cases e'
            have h7 := HQO.out b off e h0
            rcases hv6 with h | h
            · rw [h] at e2; injection e2 with e2; exact h7 e2.symm
            · rw [h] at e2; injection e2 with e2; omega)
          have HCC : Hid (RdN u12 qc s) := Lib.hid (RdN.keep HCC.out hg6.size (fun b off e h0 => by
            obtain ⟨b', off', x, e', hb', -⟩ := HCC.out.at h0
            rw [e] at e'; cases e'
            exact hg6.block b hb' (by intro e2; injection e2 with e2; exact HQO.out b off e h0 e2)))
          clear hown6 hg6 hv6 hob
          refine hK.out _ _ (HSA.out _ HBu12.out) (fun hHeld => ?_)
          clear hK K
          refine wpAnyH_take (i := 7) (v := ?v24) rfl (by kernel_rfl) (by kernel_rfl) (by kernel_rfl) (fun _ _ _ h => h) (Or.inl ⟨by rfl, ?hy24⟩) (by assumption) ?rest24
          case hy24 =>
            intro W' hSw
            obtain ⟨e0, e1⟩ := hSw
            go_simp
            with_reducible rfl
          simp only [List.getElem_toArray, List.getElem_cons_zero, List.getElem_cons_succ, Act.put, List.setIfInBounds_toArray, List.set_cons_zero, List.set_cons_succ]
          refine wpAnyH_ready (rs := [8]) (by kernel_rfl) (by simp) ?_
          refine AllReadyH.cons (i := 8) rfl (fun K hK => ?_) (AllReadyH.nil)
          · have HCCold := HCC
            obtain ⟨G, HG⟩ : ∃ o, Hid (o = u12.heap.size) := ⟨_, Lib.hid rfl⟩
            obtain ⟨u13, HUu13⟩ : ∃ U, Hid (u12.alloc (.cells #[.slice none 0 0, .slice none 0 0] 25) = U) := ⟨_, Lib.hid rfl⟩
            have HXu13 : Hid (Below u12.heap.size u12 u13) := Lib.hid (by rw [← HUu13.out]; exact (Below.refl _ _).alloc (Nat.le_refl _) _)
            have HBu13 : Hid (Below wd.heap.size wd u13) := Lib.hid (HBu12.out.trans (HXu13.out.mono HBu12.out.size))
            have HGG : Hid (wd.heap.size ≤ G) := Lib.hid (by rw [HG.out]; exact HBu12.out.size)
            have HCC := Lib.hid (RdN.below HCC.out HXu13.out)
            have HVV := Lib.hid (HVV.out.kept (gb_of_below HXu13.out none) (by rcases Option.eq_none_or_eq_some (Value.slice qv m dv).ownBlock with e | ⟨b, e⟩ <;> simp [e]))
            have HQG : Hid (∀ b off, qc = some ⟨b, off, none⟩ → 0 < s.length → b ≠ G) := Lib.hid (fun b off e h0 => by
              obtain ⟨b', off', x, e', hb', -⟩ := HCCold.out.at h0
              rw [e] at e'; cases e'; rw [HG.out]; omega)
            have HGB : Hid (u13.heap[G]? = some (.cells #[.slice none 0 0, .slice none 0 0] 25 (0, 0))) := Lib.hid (by rw [← HUu13.out, HG.out]; exact World.alloc_heap_new _ _)
            go_simp
            try rw [HUu13.out]
            try rw [← HG.out]
            refine hK.out _ _ (HSA.out _ HBu13.out) (fun hHeld => ?_)
            clear hK K
            have hgk := HGB.out
            have y9 := HGB.out
            have hE1 := heap_set u13 G 0 (.slice qc k dc) _ _ y9
            have hE2 := heap_set _ G 1 (.slice qv m dv) _ _ hE1
            obtain ⟨W9, hW9⟩ : ∃ W9, (u13.setCell ⟨G, 0, none⟩ (.slice qc k dc)).setCell ⟨G, 1, none⟩ (.slice qv m dv) = W9 := ⟨_, rfl⟩
            rw [hW9] at hE2
            have hg9 : u13.grownBy W9 (some G) := by rw [← hW9]; exact (gb_set _ _ _ _).trans (gb_set _ _ _ _)
            have r0 : u13.cell? ⟨G, 0, none⟩ = some (.slice none 0 0) := by simp [World.cell?, y9]
            have r1 : u13.cell? ⟨G, 1, none⟩ = some (.slice none 0 0) := by simp [World.cell?, y9]
            have z0 : u13.frozen? ⟨G, 0, none⟩ = false := by simp [World.frozen?, y9]
            have z1 : u13.frozen? ⟨G, 1, none⟩ = false := by simp [World.frozen?, y9]
            have HP7 : Hid (P7 wd k m s l G qc dc qv dv W9) := Lib.hid (by
              have hGge := HGG.out
              have hvg : (Value.slice qv m dv).ownBlock ≠ some G := fun e => by
                obtain ⟨c9, h9⟩ := own_kind9 HVV.out e
                rw [y9] at h9; cases h9
              refine ⟨⟨hg9.os.trans HBu13.out.os, hg9.tape.trans HBu13.out.tape, hg9.output.trans HBu13.out.output, Nat.le_trans HBu13.out.size hg9.size, fun j hj => (hg9.block j (Nat.lt_of_lt_of_le hj HBu13.out.size) (by intro e; injection e with e; omega)).trans (HBu13.out.block j hj)⟩, hE2, hGge, ?_, fun b off e h0 => ⟨HQB.out b off e, HQG.out b off e h0, HQV.out b off e h0⟩, HVV.out.kept hg9 (.inr hvg)⟩
              refine RdN.keep HCC.out hg9.size (fun b off e h0 => ?_)
              obtain ⟨b', off', x, e', hb', -⟩ := HCC.out.at h0
              rw [e] at e'; cases e'
              exact hg9.block b hb' (by intro e2; injection e2 with e2; exact HQG.out b off e h0 e2))
            have HS9 := Lib.hid (HSA.out W9 HP7.out.below)
            clear hE1 hE2 y9 hg9 hgk
            refine wpAnyH_ready (rs := [9]) (by kernel_rfl) (by simp) ?_
            refine AllReadyH.cons (i := 9) rfl (fun K hK => ?_) AllReadyH.nil
            go_simp
            try rw [hW9]
            refine hK.out _ _ HS9.out (fun hHeld => ?_)
            clear hK K
            refine wpAnyH_done (by kernel_rfl) ?_ _
            refine NoPanic.normal ?_
            exact ⟨rfl, _, _, _, _, _, _, _, _, G, qc, dc, qv, dv, rfl, HP7.out⟩
        · have HCCold := HCC
          obtain ⟨G, HG⟩ : ∃ o, Hid (o = u11.heap.size) := ⟨_, Lib.hid rfl⟩
          obtain ⟨u14, HUu14⟩ : ∃ U, Hid (u11.alloc (.cells #[.slice none 0 0, .slice none 0 0] 25) = U) := ⟨_, Lib.hid rfl⟩
          have HXu14 : Hid (Below u11.heap.size u11 u14) := Lib.hid (by rw [← HUu14.out]; exact (Below.refl _ _).alloc (Nat.le_refl _) _)
          have HBu14 : Hid (Below wd.heap.size wd u14) := Lib.hid (HBu11.out.trans (HXu14.out.mono HBu11.out.size))
          have HGG : Hid (wd.heap.size ≤ G) := Lib.hid (by rw [HG.out]; exact HBu11.out.size)
          have HCC := Lib.hid (RdN.below HCC.out HXu14.out)
          have HOO := Lib.hid (HOO.out.kept (gb_of_below HXu14.out none) (.inr (by intro e; cases e)))
          have HQG : Hid (∀ b off, qc = some ⟨b, off, none⟩ → 0 < s.length → b ≠ G) := Lib.hid (fun b off e h0 => by
            obtain ⟨b', off', x, e', hb', -⟩ := HCCold.out.at h0
            rw [e] at e'; cases e'; rw [HG.out]; omega)
          have HGB : Hid (u14.heap[G]? = some (.cells #[.slice none 0 0, .slice none 0 0] 25 (0, 0))) := Lib.hid (by rw [← HUu14.out, HG.out]; exact World.alloc_heap_new _ _)
          go_simp
          try rw [HUu14.out]
          try rw [← HG.out]
          refine hK.out _ _ (HSA.out _ HBu14.out) (fun hHeld => ?_)
          clear hK K
          refine wpAnyH_ready (rs := [6]) (by kernel_rfl) (by simp) ?_
          refine AllReadyH.cons (i := 6) rfl (fun K hK => ?_) (AllReadyH.nil)
          · rw [if_pos (by rfl)]
            refine op_append_sl2 (.tmp 35) (.tmp 37) rfl wd.heap.size ob 0 rfl HOO.out q m d l rfl hl.out (HQW.out _ HBu14.out) (by omega) HBu14.out.size ?_
            intro qv dv u15 hown6 hg6 hv6
            have HVV := Lib.hid hown6
            have hob := HOO.out.lt ob rfl
            have HBu15 : Hid (Below wd.heap.size wd u15) := Lib.hid ⟨hg6.os.trans HBu14.out.os, hg6.tape.trans HBu14.out.tape, hg6.output.trans HBu14.out.output, Nat.le_trans HBu14.out.size hg6.size, fun j hj => (hg6.block j (Nat.lt_of_lt_of_le hj HBu14.out.size) (by intro e; injection e with e; omega)).trans (HBu14.out.block j hj)⟩
            have HQV : Hid (∀ b off, qc = some ⟨b, off, none⟩ → 0 < s.length → (Value.slice qv m dv).ownBlock ≠ some b) := Lib.hid (fun b off e h0 e2 => by
              obtain ⟨b', off', x, e', hb', -⟩ := HCC.out.at h0
              rw [e] at e'; cases e'
              have h7 := HQO.out b off e h0
              rcases hv6 with h | h
              · rw [h] at e2; injection e2 with e2; exact h7 e2.symm
              · rw [h] at e2; injection e2 with e2; omega)
            have HCC : Hid (RdN u15 qc s) := Lib.hid (RdN.keep HCC.out hg6.size (fun b off e h0 => by
              obtain ⟨b', off', x, e', hb', -⟩ := HCC.out.at h0
              rw [e] at e'; cases e'
              exact hg6.block b hb' (by intro e2; injection e2 with e2; exact HQO.out b off e h0 e2)))
            have HGB : Hid (u15.heap[G]? = some (.cells #[.slice none 0 0, .slice none 0 0] 25 (0, 0))) := Lib.hid ((hg6.block G (Array.getElem?_eq_some_iff.1 HGB.out).1 (by
              intro e; injection e with e
              obtain ⟨c9, h9⟩ := own_kind9 HOO.out rfl
              rw [← e, HGB.out] at h9; cases h9)).trans HGB.out)
            clear hown6 hg6 hv6 hob
            refine hK.out _ _ (HSA.out _ HBu15.out) (fun hHeld => ?_)
            clear hK K
            refine wpAnyH_take (i := 7) (v := ?v25) rfl (by kernel_rfl) (by kernel_rfl) (by kernel_rfl) (fun _ _ _ h => h) (Or.inl ⟨by rfl, ?hy25⟩) (by assumption) ?rest25
            case hy25 =>
              intro W' hSw
              obtain ⟨e0, e1⟩ := hSw
              go_simp
              with_reducible rfl
            simp only [List.getElem_toArray, List.getElem_cons_zero, List.getElem_cons_succ, Act.put, List.setIfInBounds_toArray, List.set_cons_zero, List.set_cons_succ]
            have hgk := HGB.out
            have y9 := HGB.out
            have hE1 := heap_set u15 G 0 (.slice qc k dc) _ _ y9
            have hE2 := heap_set _ G 1 (.slice qv m dv) _ _ hE1
            obtain ⟨W9, hW9⟩ : ∃ W9, (u15.setCell ⟨G, 0, none⟩ (.slice qc k dc)).setCell ⟨G, 1, none⟩ (.slice qv m dv) = W9 := ⟨_, rfl⟩
            rw [hW9] at hE2
            have hg9 : u15.grownBy W9 (some G) := by rw [← hW9]; exact (gb_set _ _ _ _).trans (gb_set _ _ _ _)
            have r0 : u15.cell? ⟨G, 0, none⟩ = some (.slice none 0 0) := by simp [World.cell?, y9]
            have r1 : u15.cell? ⟨G, 1, none⟩ = some (.slice none 0 0) := by simp [World.cell?, y9]
            have z0 : u15.frozen? ⟨G, 0, none⟩ = false := by simp [World.frozen?, y9]
            have z1 : u15.frozen? ⟨G, 1, none⟩ = false := by simp [World.frozen?, y9]
            have HP7 : Hid (P7 wd k m s l G qc dc qv dv W9) := Lib.hid (by
              have hGge := HGG.out
              have hvg : (Value.slice qv m dv).ownBlock ≠ some G := fun e => by
                obtain ⟨c9, h9⟩ := own_kind9 HVV.out e
                rw [y9] at h9; cases h9
              refine ⟨⟨hg9.os.trans HBu15.out.os, hg9.tape.trans HBu15.out.tape, hg9.output.trans HBu15.out.output, Nat.le_trans HBu15.out.size hg9.size, fun j hj => (hg9.block j (Nat.lt_of_lt_of_le hj HBu15.out.size) (by intro e; injection e with e; omega)).trans (HBu15.out.block j hj)⟩, hE2, hGge, ?_, fun b off e h0 => ⟨HQB.out b off e, HQG.out b off e h0, HQV.out b off e h0⟩, HVV.out.kept hg9 (.inr hvg)⟩
              refine RdN.keep HCC.out hg9.size (fun b off e h0 => ?_)
              obtain ⟨b', off', x, e', hb', -⟩ := HCC.out.at h0
              rw [e] at e'; cases e'
              exact hg9.block b hb' (by intro e2; injection e2 with e2; exact HQG.out b off e h0 e2))
            have HS9 := Lib.hid (HSA.out W9 HP7.out.below)
            clear hE1 hE2 y9 hg9 hgk
            refine wpAnyH_ready (rs := [9]) (by kernel_rfl) (by simp) ?_
            refine AllReadyH.cons (i := 9) rfl (fun K hK => ?_) AllReadyH.nil
            go_simp
            try rw [hW9]
            refine hK.out _ _ HS9.out (fun hHeld => ?_)
            clear hK K
            refine wpAnyH_done (by kernel_rfl) ?_ _
            refine NoPanic.normal ?_
            exact ⟨rfl, _, _, _, _, _, _, _, _, G, qc, dc, qv, dv, rfl, HP7.out⟩
      · obtain ⟨G, HG⟩ : ∃ o, Hid (o = u10.heap.size) := ⟨_, Lib.hid rfl⟩
        obtain ⟨u16, HUu16⟩ : ∃ U, Hid (u10.alloc (.cells #[.slice none 0 0, .slice none 0 0] 25) = U) := ⟨_, Lib.hid rfl⟩
        have HXu16 : Hid (Below u10.heap.size u10 u16) := Lib.hid (by rw [← HUu16.out]; exact (Below.refl _ _).alloc (Nat.le_refl _) _)
        have HBu16 : Hid (Below wd.heap.size wd u16) := Lib.hid (HBu10.out.trans (HXu16.out.mono HBu10.out.size))
        have HGG : Hid (wd.heap.size ≤ G) := Lib.hid (by rw [HG.out]; exact HBu10.out.size)
        have HOO := Lib.hid (HOO.out.kept (gb_of_below HXu16.out none) (.inr (by intro e; cases e)))
        have HGB : Hid (u16.heap[G]? = some (.cells #[.slice none 0 0, .slice none 0 0] 25 (0, 0))) := Lib.hid (by rw [← HUu16.out, HG.out]; exact World.alloc_heap_new _ _)
        go_simp
        try rw [HUu16.out]
        try rw [← HG.out]
        refine hK.out _ _ (HSA.out _ HBu16.out) (fun hHeld => ?_)
        clear hK K
        refine wpAnyH_ready (rs := [2]) (by kernel_rfl) (by simp) ?_
        refine AllReadyH.cons (i := 2) rfl (fun K hK => ?_) (AllReadyH.nil)
        · go_simp
          refine (H49.out _ HBu16.out).mono ?_
          rintro e u17 ⟨hb2, qc, dc, rfl, hq1, -, -, hq4⟩
          have HXu17 := Lib.hid hb2
          have HBu17 : Hid (Below wd.heap.size wd u17) := Lib.hid (HBu16.out.trans (hb2.mono HBu16.out.size))
          have HQB : Hid (∀ b off, qc = some ⟨b, off, none⟩ → wd.heap.size ≤ b) := Lib.hid (fun b off e => Nat.le_trans HBu16.out.size (hq4 b off e))
          have HQO : Hid (∀ b off, qc = some ⟨b, off, none⟩ → 0 < s.length → b ≠ ob) := Lib.hid (fun b off e _ => by have := hq4 b off e; have := (HOO.out.lt ob rfl).2; omega)
          have HQG : Hid (∀ b off, qc = some ⟨b, off, none⟩ → 0 < s.length → b ≠ G) := Lib.hid (fun b off e _ => by have := hq4 b off e; have := (Array.getElem?_eq_some_iff.1 HGB.out).1; omega)
          have HOO := Lib.hid (HOO.out.kept (gb_of_below HXu17.out none) (.inr (by intro e; cases e)))
          have HGB := Lib.hid ((HXu17.out.block G (Array.getElem?_eq_some_iff.1 HGB.out).1).trans HGB.out)
          have HCC := Lib.hid hq1
          clear hb2 hq1 hq4
          refine hK.out _ _ (HSA.out _ HBu17.out) (fun hHeld => ?_)
          clear hK K
          refine wpAnyH_ready (rs := [6]) (by kernel_rfl) (by simp) ?_
          refine AllReadyH.cons (i := 6) rfl (fun K hK => ?_) (AllReadyH.nil)
          · rw [if_pos (by rfl)]
            refine op_append_sl2 (.tmp 35) (.tmp 37) rfl wd.heap.size ob 0 rfl HOO.out q m d l rfl hl.out (HQW.out _ HBu17.out) (by omega) HBu17.out.size ?_
            intro qv dv u18 hown6 hg6 hv6
            have HVV := Lib.hid hown6
            have hob := HOO.out.lt ob rfl
            have HBu18 : Hid (Below wd.heap.size wd u18) := Lib.hid ⟨hg6.os.trans HBu17.out.os, hg6.tape.trans HBu17.out.tape, hg6.output.trans HBu17.out.output, Nat.le_trans HBu17.out.size hg6.size, fun j hj => (hg6.block j (Nat.lt_of_lt_of_le hj HBu17.out.size) (by intro e; injection e with e; omega)).trans (HBu17.out.block j hj)⟩
            have HQV : Hid (∀ b off, qc = some ⟨b, off, none⟩ → 0 < s.length → (Value.slice qv m dv).ownBlock ≠ some b) := Lib.hid (fun b off e h0 e2 => by
              obtain ⟨b', off', x, e', hb', -⟩ := HCC.out.at h0
              rw [e] at e'; cases e'
              have h7 := HQO.out b off e h0
              rcases hv6 with h | h
              · rw [h] at e2; injection e2 with e2; exact h7 e2.symm
              · rw [h] at e2; injection e2 with e2; omega)
            have HCC : Hid (RdN u18 qc s) := Lib.hid (RdN.keep HCC.out hg6.size (fun b off e h0 => by
              obtain ⟨b', off', x, e', hb', -⟩ := HCC.out.at h0
              rw [e] at e'; cases e'
              exact hg6.block b hb' (by intro e2; injection e2 with e2; exact HQO.out b off e h0 e2)))
            have HGB : Hid (u18.heap[G]? = some (.cells #[.slice none 0 0, .slice none 0 0] 25 (0, 0))) := Lib.hid ((hg6.block G (Array.getElem?_eq_some_iff.1 HGB.out).1 (by
              intro e; injection e with e
              obtain ⟨c9, h9⟩ := own_kind9 HOO.out rfl
              rw [← e, HGB.out] at h9; cases h9)).trans HGB.out)
            clear hown6 hg6 hv6 hob
            refine hK.out _ _ (HSA.out _ HBu18.out) (fun hHeld => ?_)
            clear hK K
            refine wpAnyH_take (i := 7) (v := ?v26) rfl (by kernel_rfl) (by kernel_rfl) (by kernel_rfl) (fun _ _ _ h => h) (Or.inl ⟨by rfl, ?hy26⟩) (by assumption) ?rest26
            case hy26 =>
              intro W' hSw
              obtain ⟨e0, e1⟩ := hSw
              go_simp
              with_reducible rfl
            simp only [List.getElem_toArray, List.getElem_cons_zero, List.getElem_cons_succ, Act.put, List.setIfInBounds_toArray, List.set_cons_zero, List.set_cons_succ]
            have hgk := HGB.out
            have y9 := HGB.out
            have hE1 := heap_set u18 G 0 (.slice qc k dc) _ _ y9
            have hE2 := heap_set _ G 1 (.slice qv m dv) _ _ hE1
            obtain ⟨W9, hW9⟩ : ∃ W9, (u18.setCell ⟨G, 0, none⟩ (.slice qc k dc)).setCell ⟨G, 1, none⟩ (.slice qv m dv) = W9 := ⟨_, rfl⟩
            rw [hW9] at hE2
            have hg9 : u18.grownBy W9 (some G) := by rw [← hW9]; exact (gb_set _ _ _ _).trans (gb_set _ _ _ _)
            have r0 : u18.cell? ⟨G, 0, none⟩ = some (.slice none 0 0) := by simp [World.cell?, y9]
            have r1 : u18.cell? ⟨G, 1, none⟩ = some (.slice none 0 0) := by simp [World.cell?, y9]
            have z0 : u18.frozen? ⟨G, 0, none⟩ = false := by simp [World.frozen?, y9]
            have z1 : u18.frozen? ⟨G, 1, none⟩ = false := by simp [World.frozen?, y9]
            have HP7 : Hid (P7 wd k m s l G qc dc qv dv W9) := Lib.hid (by
              have hGge := HGG.out
              have hvg : (Value.slice qv m dv).ownBlock ≠ some G := fun e => by
                obtain ⟨c9, h9⟩ := own_kind9 HVV.out e
                rw [y9] at h9; cases h9
              refine ⟨⟨hg9.os.trans HBu18.out.os, hg9.tape.trans HBu18.out.tape, hg9.output.trans HBu18.out.output, Nat.le_trans HBu18.out.size hg9.size, fun j hj => (hg9.block j (Nat.lt_of_lt_of_le hj HBu18.out.size) (by intro e; injection e with e; omega)).trans (HBu18.out.block j hj)⟩, hE2, hGge, ?_, fun b off e h0 => ⟨HQB.out b off e, HQG.out b off e h0, HQV.out b off e h0⟩, HVV.out.kept hg9 (.inr hvg)⟩
              refine RdN.keep HCC.out hg9.size (fun b off e h0 => ?_)
              obtain ⟨b', off', x, e', hb', -⟩ := HCC.out.at h0
              rw [e] at e'; cases e'
              exact hg9.block b hb' (by intro e2; injection e2 with e2; exact HQG.out b off e h0 e2))
            have HS9 := Lib.hid (HSA.out W9 HP7.out.below)
            clear hE1 hE2 y9 hg9 hgk
            refine wpAnyH_ready (rs := [9]) (by kernel_rfl) (by simp) ?_
            refine AllReadyH.cons (i := 9) rfl (fun K hK => ?_) AllReadyH.nil
            go_simp
            try rw [hW9]
            refine hK.out _ _ HS9.out (fun hHeld => ?_)
            clear hK K
            refine wpAnyH_done (by kernel_rfl) ?_ _
            refine NoPanic.normal ?_
            exact ⟨rfl, _, _, _, _, _, _, _, _, G, qc, dc, qv, dv, rfl, HP7.out⟩
    · obtain ⟨G, HG⟩ : ∃ o, Hid (o = wd.heap.size) := ⟨_, Lib.hid rfl⟩
      obtain ⟨u19, HUu19⟩ : ∃ U, Hid (wd.alloc (.cells #[.slice none 0 0, .slice none 0 0] 25) = U) := ⟨_, Lib.hid rfl⟩
      have HXu19 : Hid (Below wd.heap.size wd u19) := Lib.hid (by rw [← HUu19.out]; exact (Below.refl _ _).alloc (Nat.le_refl _) _)
      have HBu19 : Hid (Below wd.heap.size wd u19) := Lib.hid (HBwd.out.trans (HXu19.out.mono HBwd.out.size))
      have HGG : Hid (wd.heap.size ≤ G) := Lib.hid (by rw [HG.out]; exact HBwd.out.size)
      have HGB : Hid (u19.heap[G]? = some (.cells #[.slice none 0 0, .slice none 0 0] 25 (0, 0))) := Lib.hid (by rw [← HUu19.out, HG.out]; exact World.alloc_heap_new _ _)
      go_simp
      try rw [HUu19.out]
      try rw [← HG.out]
      refine hK.out _ _ (HSA.out _ HBu19.out) (fun hHeld => ?_)
      clear hK K
      refine wpAnyH_ready (rs := [2, 3]) (by kernel_rfl) (by simp) ?_
      refine AllReadyH.cons (i := 2) rfl (fun K hK => ?_) (AllReadyH.cons (i := 3) rfl (fun K hK => ?_) (AllReadyH.nil))
      · go_simp
        refine (H49.out _ HBu19.out).mono ?_
        rintro e u20 ⟨hb2, qc, dc, rfl, hq1, -, -, hq4⟩
        have HXu20 := Lib.hid hb2
        have HBu20 : Hid (Below wd.heap.size wd u20) := Lib.hid (HBu19.out.trans (hb2.mono HBu19.out.size))
        have HQB : Hid (∀ b off, qc = some ⟨b, off, none⟩ → wd.heap.size ≤ b) := Lib.hid (fun b off e => Nat.le_trans HBu19.out.size (hq4 b off e))
        have HQG : Hid (∀ b off, qc = some ⟨b, off, none⟩ → 0 < s.length → b ≠ G) := Lib.hid (fun b off e _ => by have := hq4 b off e; have := (Array.getElem?_eq_some_iff.1 HGB.out).1; omega)
        have HGB := Lib.hid ((HXu20.out.block G (Array.getElem?_eq_some_iff.1 HGB.out).1).trans HGB.out)
        have HCC := Lib.hid hq1
        clear hb2 hq1 hq4
        refine hK.out _ _ (HSA.out _ HBu20.out) (fun hHeld => ?_)
        clear hK K
        refine wpAnyH_ready (rs := [3]) (by kernel_rfl) (by simp) ?_
        refine AllReadyH.cons (i := 3) rfl (fun K hK => ?_) (AllReadyH.nil)
        · have HCCold := HCC
          obtain ⟨ob, Hob⟩ : ∃ o, Hid (o = u20.heap.size) := ⟨_, Lib.hid rfl⟩
          obtain ⟨u21, HUu21⟩ : ∃ U, Hid (u20.alloc (.cells #[] 9) = U) := ⟨_, Lib.hid rfl⟩
          have HXu21 : Hid (Below u20.heap.size u20 u21) := Lib.hid (by rw [← HUu21.out]; exact (Below.refl _ _).alloc (Nat.le_refl _) _)
          have HBu21 : Hid (Below wd.heap.size wd u21) := Lib.hid (HBu20.out.trans (HXu21.out.mono HBu20.out.size))
          have HCC := Lib.hid (RdN.below HCC.out HXu21.out)
          have HGB := Lib.hid ((HXu21.out.block G (Array.getElem?_eq_some_iff.1 HGB.out).1).trans HGB.out)
          have HQO : Hid (∀ b off, qc = some ⟨b, off, none⟩ → 0 < s.length → b ≠ ob) := Lib.hid (fun b off e h0 => by
            obtain ⟨b', off', x, e', hb', -⟩ := HCCold.out.at h0
            rw [e] at e'; cases e'; rw [Hob.out]; omega)
          have HOO : Hid (u21.ownsRow wd.heap.size 9 1 (.slice (some ⟨ob, 0, none⟩) 0 0) 0 (strs [])) := Lib.hid (by
            rw [← HUu21.out, Hob.out]
            exact ⟨rfl, .inr ⟨u20.heap.size, 0, #[], rfl, HBu20.out.size, World.alloc_heap_new u20 _, Nat.le_refl _, Nat.zero_le _, rfl, rfl⟩⟩)
          go_simp
          try rw [HUu21.out]
          try rw [← Hob.out]
          refine hK.out _ _ (HSA.out _ HBu21.out) (fun hHeld => ?_)
          clear hK K
          refine wpAnyH_ready (rs := [6]) (by kernel_rfl) (by simp) ?_
          refine AllReadyH.cons (i := 6) rfl (fun K hK => ?_) (AllReadyH.nil)
          · rw [if_pos (by rfl)]
            refine op_append_sl2 (.tmp 35) (.tmp 37) rfl wd.heap.size ob 0 rfl HOO.out q m d l rfl hl.out (HQW.out _ HBu21.out) (by omega) HBu21.out.size ?_
            intro qv dv u22 hown6 hg6 hv6
            have HVV := Lib.hid hown6
            have hob := HOO.out.lt ob rfl
            have HBu22 : Hid (Below wd.heap.size wd u22) := Lib.hid ⟨hg6.os.trans HBu21.out.os, hg6.tape.trans HBu21.out.tape, hg6.output.trans HBu21.out.output, Nat.le_trans HBu21.out.size hg6.size, fun j hj => (hg6.block j (Nat.lt_of_lt_of_le hj HBu21.out.size) (by intro e; injection e with e; omega)).trans (HBu21.out.block j hj)⟩
            have HQV : Hid (∀ b off, qc = some ⟨b, off, none⟩ → 0 < s.length → (Value.slice qv m dv).ownBlock ≠ some b) := Lib.hid (fun b off e h0 e2 => by
              obtain ⟨b', off', x, e', hb', -⟩ := HCC.out.at h0
              rw [e] at e'; cases e'
              have h7 := HQO.out b off e h0
              rcases hv6 with h | h
              · rw [h] at e2; injection e2 with e2; exact h7 e2.symm
              · rw [h] at e2; injection e2 with e2; omega)
            have HCC : Hid (RdN u22 qc s) := Lib.hid (RdN.keep HCC.out hg6.size (fun b off e h0 => by
              obtain ⟨b', off', x, e', hb', -⟩ := HCC.out.at h0
              rw [e] at e'; cases e'
              exact hg6.block b hb' (by intro e2; injection e2 with e2; exact HQO.out b off e h0 e2)))
            have HGB : Hid (u22.heap[G]? = some (.cells #[.slice none 0 0, .slice none 0 0] 25 (0, 0))) := Lib.hid ((hg6.block G (Array.getElem?_eq_some_iff.1 HGB.out).1 (by
              intro e; injection e with e
              obtain ⟨c9, h9⟩ := own_kind9 HOO.out rfl
              rw [← e, HGB.out] at h9; cases h9)).trans HGB.out)
            clear hown6 hg6 hv6 hob
            refine hK.out _ _ (HSA.out _ HBu22.out) (fun hHeld => ?_)
            clear hK K
            refine wpAnyH_take (i := 7) (v := ?v27) rfl (by kernel_rfl) (by kernel_rfl) (by kernel_rfl) (fun _ _ _ h => h) (Or.inl ⟨by rfl, ?hy27⟩) (by assumption) ?rest27
            case hy27 =>
              intro W' hSw
              obtain ⟨e0, e1⟩ := hSw
              go_simp
              with_reducible rfl
            simp only [List.getElem_toArray, List.getElem_cons_zero, List.getElem_cons_succ, Act.put, List.setIfInBounds_toArray, List.set_cons_zero, List.set_cons_succ]
            have hgk := HGB.out
            have y9 := HGB.out
            have hE1 := heap_set u22 G 0 (.slice qc k dc) _ _ y9
            have hE2 := heap_set _ G 1 (.slice qv m dv) _ _ hE1
            obtain ⟨W9, hW9⟩ : ∃ W9, (u22.setCell ⟨G, 0, none⟩ (.slice qc k dc)).setCell ⟨G, 1, none⟩ (.slice qv m dv) = W9 := ⟨_, rfl⟩
            rw [hW9] at hE2
            have hg9 : u22.grownBy W9 (some G) := by rw [← hW9]; exact (gb_set _ _ _ _).trans (gb_set _ _ _ _)
            have r0 : u22.cell? ⟨G, 0, none⟩ = some (.slice none 0 0) := by simp [World.cell?, y9]
            have r1 : u22.cell? ⟨G, 1, none⟩ = some (.slice none 0 0) := by simp [World.cell?, y9]
            have z0 : u22.frozen? ⟨G, 0, none⟩ = false := by simp [World.frozen?, y9]
            have z1 : u22.frozen? ⟨G, 1, none⟩ = false := by simp [World.frozen?, y9]
            have HP7 : Hid (P7 wd k m s l G qc dc qv dv W9) := Lib.hid (by
              have hGge := HGG.out
              have hvg : (Value.slice qv m dv).ownBlock ≠ some G := fun e => by
                obtain ⟨c9, h9⟩ := own_kind9 HVV.out e
                rw [y9] at h9; cases h9
              refine ⟨⟨hg9.os.trans HBu22.out.os, hg9.tape.trans HBu22.out.tape, hg9.output.trans HBu22.out.output, Nat.le_trans HBu22.out.size hg9.size, fun j hj => (hg9.block j (Nat.lt_of_lt_of_le hj HBu22.out.size) (by intro e; injection e with e; omega)).trans (HBu22.out.block j hj)⟩, hE2, hGge, ?_, fun b off e h0 => ⟨HQB.out b off e, HQG.out b off e h0, HQV.out b off e h0⟩, HVV.out.kept hg9 (.inr hvg)⟩
              refine RdN.keep HCC.out hg9.size (fun b off e h0 => ?_)
              obtain ⟨b', off', x, e', hb', -⟩ := HCC.out.at h0
              rw [e] at e'; cases e'
              exact hg9.block b hb' (by intro e2; injection e2 with e2; exact HQG.out b off e h0 e2))
            have HS9 := Lib.hid (HSA.out W9 HP7.out.below)
            clear hE1 hE2 y9 hg9 hgk
            refine wpAnyH_ready (rs := [9]) (by kernel_rfl) (by simp) ?_
            refine AllReadyH.cons (i := 9) rfl (fun K hK => ?_) AllReadyH.nil
            go_simp
            try rw [hW9]
            refine hK.out _ _ HS9.out (fun hHeld => ?_)
            clear hK K
            refine wpAnyH_done (by kernel_rfl) ?_ _
            refine NoPanic.normal ?_
            exact ⟨rfl, _, _, _, _, _, _, _, _, G, qc, dc, qv, dv, rfl, HP7.out⟩
      · obtain ⟨ob, Hob⟩ : ∃ o, Hid (o = u19.heap.size) := ⟨_, Lib.hid rfl⟩
        obtain ⟨u23, HUu23⟩ : ∃ U, Hid (u19.alloc (.cells #[] 9) = U) := ⟨_, Lib.hid rfl⟩
        have HXu23 : Hid (Below u19.heap.size u19 u23) := Lib.hid (by rw [← HUu23.out]; exact (Below.refl _ _).alloc (Nat.le_refl _) _)
        have HBu23 : Hid (Below wd.heap.size wd u23) := Lib.hid (HBu19.out.trans (HXu23.out.mono HBu19.out.size))
        have HGB := Lib.hid ((HXu23.out.block G (Array.getElem?_eq_some_iff.1 HGB.out).1).trans HGB.out)
        have HOO : Hid (u23.ownsRow wd.heap.size 9 1 (.slice (some ⟨ob, 0, none⟩) 0 0) 0 (strs [])) := Lib.hid (by
          rw [← HUu23.out, Hob.out]
          exact ⟨rfl, .inr ⟨u19.heap.size, 0, #[], rfl, HBu19.out.size, World.alloc_heap_new u19 _, Nat.le_refl _, Nat.zero_le _, rfl, rfl⟩⟩)
        go_simp
        try rw [HUu23.out]
        try rw [← Hob.out]
        refine hK.out _ _ (HSA.out _ HBu23.out) (fun hHeld => ?_)
        clear hK K
        refine wpAnyH_ready (rs := [2]) (by kernel_rfl) (by simp) ?_
        refine AllReadyH.cons (i := 2) rfl (fun K hK => ?_) (AllReadyH.nil)
        · go_simp
          refine (H49.out _ HBu23.out).mono ?_
          rintro e u24 ⟨hb2, qc, dc, rfl, hq1, -, -, hq4⟩
          have HXu24 := Lib.hid hb2
          have HBu24 : Hid (Below wd.heap.size wd u24) := Lib.hid (HBu23.out.trans (hb2.mono HBu23.out.size))
          have HQB : Hid (∀ b off, qc = some ⟨b, off, none⟩ → wd.heap.size ≤ b) := Lib.hid (fun b off e => Nat.le_trans HBu23.out.size (hq4 b off e))
          have HQO : Hid (∀ b off, qc = some ⟨b, off, none⟩ → 0 < s.length → b ≠ ob) := Lib.hid (fun b off e _ => by have := hq4 b off e; have := (HOO.out.lt ob rfl).2; omega)
          have HQG : Hid (∀ b off, qc = some ⟨b, off, none⟩ → 0 < s.length → b ≠ G) := Lib.hid (fun b off e _ => by have := hq4 b off e; have := (Array.getElem?_eq_some_iff.1 HGB.out).1; omega)
          have HOO := Lib.hid (HOO.out.kept (gb_of_below HXu24.out none) (.inr (by intro e; cases e)))
          have HGB := Lib.hid ((HXu24.out.block G (Array.getElem?_eq_some_iff.1 HGB.out).1).trans HGB.out)
          have HCC := Lib.hid hq1
          clear hb2 hq1 hq4
          refine hK.out _ _ (HSA.out _ HBu24.out) (fun hHeld => ?_)
          clear hK K
          refine wpAnyH_ready (rs := [6]) (by kernel_rfl) (by simp) ?_
          refine AllReadyH.cons (i := 6) rfl (fun K hK => ?_) (AllReadyH.nil)
          · rw [if_pos (by rfl)]
            refine op_append_sl2 (.tmp 35) (.tmp 37) rfl wd.heap.size ob 0 rfl HOO.out q m d l rfl hl.out (HQW.out _ HBu24.out) (by omega) HBu24.out.size ?_
            intro qv dv u25 hown6 hg6 hv6
            have HVV := Lib.hid hown6
            have hob := HOO.out.lt ob rfl
            have HBu25 : Hid (Below wd.heap.size wd u25) := Lib.hid ⟨hg6.os.trans HBu24.out.os, hg6.tape.trans HBu24.out.tape, hg6.output.trans HBu24.out.output, Nat.le_trans HBu24.out.size hg6.size, fun j hj => (hg6.block j (Nat.lt_of_lt_of_le hj HBu24.out.size) (by intro e; injection e with e; omega)).trans (HBu24.out.block j hj)⟩
            have HQV : Hid (∀ b off, qc = some ⟨b, off, none⟩ → 0 < s.length → (Value.slice qv m dv).ownBlock ≠ some b) := Lib.hid (fun b off e h0 e2 => by
              obtain ⟨b', off', x, e', hb', -⟩ := HCC.out.at h0
              rw [e] at e'; cases e'
              have h7 := HQO.out b off e h0
              rcases hv6 with h | h
              · rw [h] at e2; injection e2 with e2; exact h7 e2.symm
              · rw [h] at e2; injection e2 with e2; omega)
            have HCC : Hid (RdN u25 qc s) := Lib.hid (RdN.keep HCC.out hg6.size (fun b off e h0 => by
              obtain ⟨b', off', x, e', hb', -⟩ := HCC.out.at h0
              rw [e] at e'; cases e'
              exact hg6.block b hb' (by intro e2; injection e2 with e2; exact HQO.out b off e h0 e2)))
            have HGB : Hid (u25.heap[G]? = some (.cells #[.slice none 0 0, .slice none 0 0] 25 (0, 0))) := Lib.hid ((hg6.block G (Array.getElem?_eq_some_iff.1 HGB.out).1 (by
              intro e; injection e with e
              obtain ⟨c9, h9⟩ := own_kind9 HOO.out rfl
              rw [← e, HGB.out] at h9; cases h9)).trans HGB.out)
            clear hown6 hg6 hv6 hob
            refine hK.out _ _ (HSA.out _ HBu25.out) (fun hHeld => ?_)
            clear hK K
            refine wpAnyH_take (i := 7) (v := ?v28) rfl (by kernel_rfl) (by kernel_rfl) (by kernel_rfl) (fun _ _ _ h => h) (Or.inl ⟨by rfl, ?hy28⟩) (by assumption) ?rest28
            case hy28 =>
              intro W' hSw
              obtain ⟨e0, e1⟩ := hSw
              go_simp
              with_reducible rfl
            simp only [List.getElem_toArray, List.getElem_cons_zero, List.getElem_cons_succ, Act.put, List.setIfInBounds_toArray, List.set_cons_zero, List.set_cons_succ]
            have hgk := HGB.out
            have y9 := HGB.out
            have hE1 := heap_set u25 G 0 (.slice qc k dc) _ _ y9
            have hE2 := heap_set _ G 1 (.slice qv m dv) _ _ hE1
            obtain ⟨W9, hW9⟩ : ∃ W9, (u25.setCell ⟨G, 0, none⟩ (.slice qc k dc)).setCell ⟨G, 1, none⟩ (.slice qv m dv) = W9 := ⟨_, rfl⟩
            rw [hW9] at hE2
            have hg9 : u25.grownBy W9 (some G) := by rw [← hW9]; exact (gb_set _ _ _ _).trans (gb_set _ _ _ _)
            have r0 : u25.cell? ⟨G, 0, none⟩ = some (.slice none 0 0) := by simp [World.cell?, y9]
            have r1 : u25.cell? ⟨G, 1, none⟩ = some (.slice none 0 0) := by simp [World.cell?, y9]
            have z0 : u25.frozen? ⟨G, 0, none⟩ = false := by simp [World.frozen?, y9]
            have z1 : u25.frozen? ⟨G, 1, none⟩ = false := by simp [World.frozen?, y9]
            have HP7 : Hid (P7 wd k m s l G qc dc qv dv W9) := Lib.hid (by
              have hGge := HGG.out
              have hvg : (Value.slice qv m dv).ownBlock ≠ some G := fun e => by
                obtain ⟨c9, h9⟩ := own_kind9 HVV.out e
                rw [y9] at h9; cases h9
              refine ⟨⟨hg9.os.trans HBu25.out.os, hg9.tape.trans HBu25.out.tape, hg9.output.trans HBu25.out.output, Nat.le_trans HBu25.out.size hg9.size, fun j hj => (hg9.block j (Nat.lt_of_lt_of_le hj HBu25.out.size) (by intro e; injection e with e; omega)).trans (HBu25.out.block j hj)⟩, hE2, hGge, ?_, fun b off e h0 => ⟨HQB.out b off e, HQG.out b off e h0, HQV.out b off e h0⟩, HVV.out.kept hg9 (.inr hvg)⟩
              refine RdN.keep HCC.out hg9.size (fun b off e h0 => ?_)
              obtain ⟨b', off', x, e', hb', -⟩ := HCC.out.at h0
              rw [e] at e'; cases e'
              exact hg9.block b hb' (by intro e2; injection e2 with e2; exact HQG.out b off e h0 e2))
            have HS9 := Lib.hid (HSA.out W9 HP7.out.below)
            clear hE1 hE2 y9 hg9 hgk
            refine wpAnyH_ready (rs := [9]) (by kernel_rfl) (by simp) ?_
            refine AllReadyH.cons (i := 9) rfl (fun K hK => ?_) AllReadyH.nil
            go_simp
            try rw [hW9]
            refine hK.out _ _ HS9.out (fun hHeld => ?_)
            clear hK K
            refine wpAnyH_done (by kernel_rfl) ?_ _
            refine NoPanic.normal ?_
            exact ⟨rfl, _, _, _, _, _, _, _, _, G, qc, dc, qv, dv, rfl, HP7.out⟩
  rintro a' w7 ⟨v32, v33, v34, v35, v36, v37, v38, v39, G, qc, dc, qv, dv, rfl, hp7⟩
  simp only [Act.put, List.setIfInBounds_toArray, List.set_cons_zero, List.set_cons_succ]
  have HP7 := Lib.hid hp7
  have HW0 : Hid (Below w.heap.size w w7) := Lib.hid (by
    have h1 := (HBX.out wd HB5d.out).1
    exact h1.trans (HP7.out.below.mono h1.size))
  have HORD : Hid (A + 1 + 1 + 1 ≤ wd.heap.size ∧ wd.heap.size ≤ G ∧ wd.heap.size ≤ w7.heap.size ∧ A = w.heap.size ∧ G < w7.heap.size) := Lib.hid ⟨by rw [← HS0.out]; exact HB5d.out.size, HP7.out.lt, HP7.out.below.size, HA.out, (Array.getElem?_eq_some_iff.1 HP7.out.box).1⟩
  obtain ⟨-, hx0, hx1, hy1⟩ := HBX.out w7 (HB5d.out.trans (HP7.out.below.mono HB5d.out.size))
  have HKA := Lib.hid hx0
  have HKB := Lib.hid hx1
  have HKR := Lib.hid hy1
  have HVL : Hid (∀ b, (Value.slice qv m dv).ownBlock = some b → wd.heap.size ≤ b ∧ b < w7.heap.size ∧ b ≠ G) := Lib.hid (fun b e => by
    obtain ⟨h1, h2⟩ := HP7.out.vals.lt b e
    refine ⟨h1, h2, fun e2 => ?_⟩
    obtain ⟨c9, h9⟩ := own_kind9 HP7.out.vals e
    rw [e2, HP7.out.box] at h9; cases h9)
  have HTR : Hid (∀ X : World, w7.heap.size ≤ X.heap.size → (∀ b, b < w7.heap.size → (Value.slice qv m dv).ownBlock ≠ some b → X.heap[b]? = w7.heap[b]?) → RdN X p s ∧ RdN X p2 (cnts cuts) ∧ RdC X cq cuts ∧ RdS X q2 bl) := Lib.hid (fun X hs9 hX => by
    have ho := HORD.out
    have hk : ∀ b, b < w.heap.size → X.heap[b]? = w7.heap[b]? := fun b hb => hX b (by have := HW0.out.size; omega) (fun e => by have := HVL.out b e; omega)
    refine ⟨(RdN.below HP.out HW0.out).keep hs9 (fun b off e h0 => ?_), (RdN.below HP2.out HW0.out).keep hs9 (fun b off e h0 => ?_), (HCQ.out.below HW0.out).keep hs9 (fun b off e h0 => ?_), (HQ2.out.below HW0.out).keep hs9 (fun b off e h0 => ?_)⟩
    · obtain ⟨b', off', _, e', hb', -⟩ := HP.out.at h0
      rw [e] at e'; cases e'; exact hk b hb'
    · obtain ⟨b', off', _, e', hb', -⟩ := HP2.out.at h0
      rw [e] at e'; cases e'; exact hk b hb'
    · obtain ⟨b', off', _, _, _, e', hb', -⟩ := HCQ.out.at h0
      rw [e] at e'; cases e'; exact hk b hb'
    · obtain ⟨b', off', _, e', hb', -⟩ := HQ2.out.at h0
      rw [e] at e'; cases e'; exact hk b hb')
  clear hp7 hx0 hx1 hy1
  go_wp2_with fail
  go_loopw [9] (fun iv wr => ∃ i : Nat, i ≤ N ∧ iv = .int .i64 i ∧ Hid (RI w7 wd.heap.size m qv dv pos bl l i wr)) (fun iv _ => N - (Go.RowKit.intOf iv).toNat)
  case atStart => exact ⟨0, Nat.zero_le _, rfl, Lib.hid ⟨rfl, rfl, rfl, Nat.le_refl _, fun _ _ _ => rfl, HP7.out.vals⟩⟩
  case round =>
    obtain ⟨i, hi, rfl, HO⟩ := hrel
    have ii : (i : Int) ≤ (N : Int) := by omega
    have ho := HORD.out
    have hB1 := (HO.out.blk (A + 1) (by omega) (fun e => by have := HVL.out _ e; omega)).trans HKB.out
    have b1 : wr.cell? ⟨A + 1, 1, none⟩ = some (.slice q2 m2 d2) := by simp [World.cell?, hB1]
    have hmN : (m2 : Int) = (N : Int) := by rw [HMB.out]
    have hm2N : m2 = N := HMB.out
    clear ho hB1
    by_cases hlt : i < N
    · have ilt : (i : Int) < (m2 : Int) := by omega
      have HIP : Hid (i < prod (cnts cuts)) := Lib.hid (by rw [← HN.out]; exact hlt)
      have him : i < bl.length := by rw [hbl.out]; omega
      obtain ⟨ix, HIX⟩ : ∃ ix, Hid (ixOf (cnts cuts) i = ix) := ⟨_, Lib.hid rfl⟩
      have hixc := (ixOf_is (cnts cuts) i HIP.out).1
      rw [HIX.out] at hixc
      obtain ⟨hto, hti⟩ := thr_ok hsl.out hsh.out.2.1 hixc
      have HTO := Lib.hid hto
      have HTI := Lib.hid hti
      have HIXL : Hid (ix.length = k) := Lib.hid (by rw [hixc.1, HCN.out])
      have HIXB : Hid (∀ x ∈ ix, (x : Int) ≤ 9223372036854775807) := Lib.hid (fun x hx => by
        rw [← HIX.out] at hx
        have := ixOf_small HIP.out HCB.out x hx; omega)
      have HTHB : Hid (∀ x ∈ thr cuts ix, (x : Int) ≤ 9223372036854775807) := Lib.hid (fun x hx => by
        obtain ⟨j, hj, e⟩ := List.getElem_of_mem hx
        have h1 := HTI.out.2 j (by rw [← HTI.out.1]; exact hj)
        have h2 := hsh.out.2.1 (s.getD j 0) (by rw [List.getD_eq_getElem?_getD, List.getElem?_eq_getElem (by rw [← HTI.out.1]; exact hj)]; exact List.getElem_mem _)
        rw [List.getD_eq_getElem?_getD, List.getElem?_eq_getElem hj, Option.getD_some, e] at h1
        omega)
      obtain ⟨y, HY⟩ : ∃ y, Hid (y = plc s (thr cuts ix) 0) := ⟨_, rfl⟩
      have hym : y < m := by
        have := (plc_lt s (thr cuts ix) 0 hti).1
        rw [HY.out, HML.out]; simpa using this
      have hyi : (y : Int) < (m : Int) := by omega
      have HYP : Hid (pos i = y) := Lib.hid (by rw [HPOS.out]; show plc s (thr cuts (ixOf (cnts cuts) i)) 0 = y; rw [HIX.out, HY.out])
      obtain ⟨V, eV, hVB⟩ : ∃ V, qv = some ⟨V, 0, none⟩ ∧ (wd.heap.size ≤ V ∧ V < w7.heap.size ∧ V ≠ G) := by
        obtain ⟨-, ⟨-, e⟩ | ⟨V, cap, _, e, -⟩⟩ := HO.out.vals
        · omega
        · injection e with e _ _
          subst e
          exact ⟨V, rfl, HVL.out V rfl⟩
      subst eV
      obtain ⟨bb, bo, xs, eq1, hbb, -, HXS⟩ := HQ2.out.at him
      subst eq1
      have HORDV : Hid (A + 1 + 1 + 1 ≤ wd.heap.size ∧ wd.heap.size ≤ G ∧ wd.heap.size ≤ w7.heap.size ∧ A = w.heap.size ∧ G < w7.heap.size ∧ wd.heap.size ≤ V ∧ V ≠ G ∧ bb < w.heap.size ∧ V < w7.heap.size) := Lib.hid (by have := HORD.out; omega)
      have HSO : Hid (∀ X : World, w7.heap.size ≤ X.heap.size → (∀ b, b < w7.heap.size → b ≠ V → X.heap[b]? = w7.heap[b]?) → (fun W : World => W.cell? ⟨G, 1, none⟩ = some (.slice (some ⟨V, 0, none⟩) m dv) ∧ W.cell? ⟨A, 0, none⟩ = some (.slice p k c) ∧ W.cell? ⟨A + 1, 0, none⟩ = some (.slice p2 k c2) ∧ W.cell? ⟨A + 1, 1, none⟩ = some (.slice (some ⟨bb, bo, none⟩) m2 d2) ∧ W.cell? ⟨bb, bo + i, none⟩ = some (.string ⟨List.toArray xs⟩)) X) := Lib.hid (fun X hs9 hX => by
        have ho := HORDV.out
        have hG := (hX G (by omega) (by omega)).trans HP7.out.box
        have hA := (hX A (by omega) (by omega)).trans HKA.out
        have hB := (hX (A + 1) (by omega) (by omega)).trans HKB.out
        obtain ⟨b', o', x', e', -, hc, hx'⟩ := (HTR.out X hs9 (fun b h1 h2 => hX b h1 (by intro e; exact h2 (by rw [e]; rfl)))).2.2.2.at him
        cases e'
        rw [hx'.out, ← HXS.out] at hc
        exact ⟨by simp [World.cell?, hG], by simp [World.cell?, hA], by simp [World.cell?, hB], by simp [World.cell?, hB], hc⟩)
      have HBLK : Hid (∀ X, Below wr.heap.size wr X → w7.heap.size ≤ X.heap.size ∧ ∀ b, b < w7.heap.size → b ≠ V → X.heap[b]? = w7.heap[b]?) := Lib.hid (fun X hX => ⟨Nat.le_trans HO.out.size hX.size, fun b h1 h2 => (hX.block b (Nat.lt_of_lt_of_le h1 HO.out.size)).trans (HO.out.blk b h1 (by intro e; injection e with e; exact h2 e.symm))⟩)
      have HSB : Hid (∀ X, Below wr.heap.size wr X → (fun W : World => W.cell? ⟨G, 1, none⟩ = some (.slice (some ⟨V, 0, none⟩) m dv) ∧ W.cell? ⟨A, 0, none⟩ = some (.slice p k c) ∧ W.cell? ⟨A + 1, 0, none⟩ = some (.slice p2 k c2) ∧ W.cell? ⟨A + 1, 1, none⟩ = some (.slice (some ⟨bb, bo, none⟩) m2 d2) ∧ W.cell? ⟨bb, bo + i, none⟩ = some (.string ⟨List.toArray xs⟩)) X) := Lib.hid (fun X hX => HSO.out X (HBLK.out X hX).1 (HBLK.out X hX).2)
      have HTB : Hid (∀ X, Below wr.heap.size wr X → RdN X p s ∧ RdN X p2 (cnts cuts) ∧ RdC X cq cuts) := Lib.hid (fun X hX => by
        obtain ⟨h1, h2, h3, -⟩ := HTR.out X (HBLK.out X hX).1 (fun b g1 g2 => (HBLK.out X hX).2 b g1 (by intro e; exact g2 (by rw [e]; rfl)))
        exact ⟨h1, h2, h3⟩)
      have H63 : Hid (∀ W, Below wr.heap.size wr W → Calls Tryz.prog 66 #[.slice p2 k c2, .int .i64 (i : Int)] W fun e w' => ∃ g, e = .returned (.slice (some ⟨g, 0, none⟩) k k) ∧ w'.heap[g]? = some (.cells (ixC ix) 3 (0, 0)) ∧ Below W.heap.size W w') := Lib.hid (fun W hW =>
        (rindex_any p2 c2 k i (cnts cuts) W hn4 HCN HCB HIP (by rw [← HN.out]; exact hN4) (HTB.out W hW).2.1).mono (fun e w' h => ⟨_, h.1, by rw [← HIX.out]; exact h.2.1, h.2.2⟩))
      have H62 : Hid (∀ W g, Below wr.heap.size wr W → W.heap[g]? = some (.cells (ixC ix) 3 (0, 0)) → Calls Tryz.prog 65 #[.slice cq k cd, .slice (some ⟨g, 0, none⟩) k k] W fun e w' => ∃ g, e = .returned (.slice (some ⟨g, 0, none⟩) k k) ∧ w'.heap[g]? = some (.cells (ixC (thr cuts ix)) 3 (0, 0)) ∧ Below W.heap.size W w') := Lib.hid (fun W g hW hg =>
        (rthr_any (some ⟨g, 0, none⟩) cq k cd k cuts ix W hn4 hk HIXL HTO (HTB.out W hW).2.2 (rdn_row hg HIXB.out)).mono (fun e w' h => ⟨_, h.2.1, h.2.2, h.1⟩))
      have H53 : Hid (∀ W g, Below wr.heap.size wr W → W.heap[g]? = some (.cells (ixC (thr cuts ix)) 3 (0, 0)) → Calls Tryz.prog 56 #[.slice p k c, .slice (some ⟨g, 0, none⟩) k k] W fun e w' => e = .returned (.int .i64 (y : Int)) ∧ Below W.heap.size W w') := Lib.hid (fun W g hW hg => by
        refine (rplace_any p (some ⟨g, 0, none⟩) c k k s (thr cuts ix) W hn4 hs (Lib.hid (by rw [HTI.out.1, hs.out])) HTI.out hsh.out.2.2 (HTB.out W hW).1 (rdn_row hg HTHB.out)).mono (fun e w' h => ⟨by rw [h.2, ← HY.out], ?_⟩)
        obtain ⟨j, rfl⟩ := h.1
        exact ⟨rfl, rfl, rfl, Nat.le_refl _, fun _ _ => rfl⟩)
      have HBr : Hid (Below wr.heap.size wr wr.drew) := Lib.hid ⟨rfl, rfl, rfl, Nat.le_refl _, fun _ _ => rfl⟩
      obtain ⟨wq, hwq⟩ : ∃ wq, wr.drew = wq := ⟨_, rfl⟩
      rw [hwq] at HBr
      clear hto hti hixc hym hmN him hbb hm2N
      go_wp2_with fail
      refine wp_region_noPanic ?_
      refine wp_region_held_drew (S := fun W : World => W.cell? ⟨G, 1, none⟩ = some (.slice (some ⟨V, 0, none⟩) m dv) ∧ W.cell? ⟨A, 0, none⟩ = some (.slice p k c) ∧ W.cell? ⟨A + 1, 0, none⟩ = some (.slice p2 k c2) ∧ W.cell? ⟨A + 1, 1, none⟩ = some (.slice (some ⟨bb, bo, none⟩) m2 d2) ∧ W.cell? ⟨bb, bo + i, none⟩ = some (.string ⟨List.toArray xs⟩)) (by kernel_rfl) (by rw [hwq]; exact HSB.out _ HBr.out) (fun hHeld => ?_)
      rw [hwq] at hHeld ⊢
      refine wpAnyH_take (i := 0) (v := ?v29) rfl (by kernel_rfl) (by kernel_rfl) (by kernel_rfl) (fun _ _ _ h => h) (Or.inl ⟨by rfl, ?hy29⟩) (by assumption) ?rest29
      case hy29 =>
        intro W' hSw
        obtain ⟨e0, e1, e2, e3, e4⟩ := hSw
        go_simp
        with_reducible rfl
      simp only [List.getElem_toArray, List.getElem_cons_zero, Act.put, List.setIfInBounds_toArray, List.set_cons_zero, List.set_cons_succ]
      refine wpAnyH_take (i := 1) (v := ?v30) rfl (by kernel_rfl) (by kernel_rfl) (by kernel_rfl) (fun _ _ _ h => h) (Or.inl ⟨by rfl, ?hy30⟩) (by assumption) ?rest30
      case hy30 =>
        intro W' hSw
        obtain ⟨e0, e1, e2, e3, e4⟩ := hSw
        go_simp
        with_reducible rfl
      simp only [List.getElem_toArray, List.getElem_cons_zero, List.getElem_cons_succ, Act.put, List.setIfInBounds_toArray, List.set_cons_zero, List.set_cons_succ]
      refine wpAnyH_take (i := 2) (v := ?v31) rfl (by kernel_rfl) (by kernel_rfl) (by kernel_rfl) (fun _ _ _ h => h) (Or.inl ⟨by rfl, ?hy31⟩) (by assumption) ?rest31
      case hy31 =>
        intro W' hSw
        obtain ⟨e0, e1, e2, e3, e4⟩ := hSw
        go_simp
        with_reducible rfl
      simp only [List.getElem_toArray, List.getElem_cons_zero, List.getElem_cons_succ, Act.put, List.setIfInBounds_toArray, List.set_cons_zero, List.set_cons_succ]
      refine wpAnyH_take (i := 3) (v := ?v32) rfl (by kernel_rfl) (by kernel_rfl) (by kernel_rfl) (fun _ _ _ h => h) (Or.inl ⟨by rfl, ?hy32⟩) (by assumption) ?rest32
      case hy32 =>
        intro W' hSw
        obtain ⟨e0, e1, e2, e3, e4⟩ := hSw
        go_simp
        with_reducible rfl
      simp only [List.getElem_toArray, List.getElem_cons_zero, List.getElem_cons_succ, Act.put, List.setIfInBounds_toArray, List.set_cons_zero, List.set_cons_succ]
      refine wpAnyH_take (i := 4) (v := ?v33) rfl (by kernel_rfl) (by kernel_rfl) (by kernel_rfl) (fun _ _ _ h => h) (Or.inl ⟨by rfl, ?hy33⟩) (by assumption) ?rest33
      case hy33 =>
        intro W' hSw
        obtain ⟨e0, e1, e2, e3, e4⟩ := hSw
        go_simp
        with_reducible rfl
      simp only [List.getElem_toArray, List.getElem_cons_zero, List.getElem_cons_succ, Act.put, List.setIfInBounds_toArray, List.set_cons_zero, List.set_cons_succ]
      refine wpAnyH_take (i := 5) (v := ?v34) rfl (by kernel_rfl) (by kernel_rfl) (by kernel_rfl) (fun _ _ _ h => h) (Or.inl ⟨by rfl, ?hy34⟩) (by assumption) ?rest34
      case hy34 =>
        intro W' hSw
        obtain ⟨e0, e1, e2, e3, e4⟩ := hSw
        go_simp
        with_reducible rfl
      simp only [List.getElem_toArray, List.getElem_cons_zero, List.getElem_cons_succ, Act.put, List.setIfInBounds_toArray, List.set_cons_zero, List.set_cons_succ]
      refine wpAnyH_take (i := 6) (v := ?v35) rfl (by kernel_rfl) (by kernel_rfl) (by kernel_rfl) (fun _ _ _ h => h) (Or.inl ⟨by rfl, ?hy35⟩) (by assumption) ?rest35
      case hy35 =>
        intro W' hSw
        obtain ⟨e0, e1, e2, e3, e4⟩ := hSw
        go_simp
        with_reducible rfl
      simp only [List.getElem_toArray, List.getElem_cons_zero, List.getElem_cons_succ, Act.put, List.setIfInBounds_toArray, List.set_cons_zero, List.set_cons_succ]
      refine wpAnyH_take (i := 7) (v := ?v36) rfl (by kernel_rfl) (by kernel_rfl) (by kernel_rfl) (fun _ _ _ h => h) (Or.inl ⟨by rfl, ?hy36⟩) (by assumption) ?rest36
      case hy36 =>
        intro W' hSw
        obtain ⟨e0, e1, e2, e3, e4⟩ := hSw
        go_simp
        with_reducible rfl
      simp only [List.getElem_toArray, List.getElem_cons_zero, List.getElem_cons_succ, Act.put, List.setIfInBounds_toArray, List.set_cons_zero, List.set_cons_succ]
      refine wpAnyH_take (i := 11) (v := ?v37) rfl (by kernel_rfl) (by kernel_rfl) (by kernel_rfl) (fun _ _ _ h => h) (Or.inl ⟨by rfl, ?hy37⟩) (by assumption) ?rest37
      case hy37 =>
        intro W' hSw
        obtain ⟨e0, e1, e2, e3, e4⟩ := hSw
        go_simp
        with_reducible rfl
      simp only [List.getElem_toArray, List.getElem_cons_zero, List.getElem_cons_succ, Act.put, List.setIfInBounds_toArray, List.set_cons_zero, List.set_cons_succ]
      refine wpAnyH_take (i := 12) (v := ?v38) rfl (by kernel_rfl) (by kernel_rfl) (by kernel_rfl) (fun _ _ _ h => h) (Or.inl ⟨by rfl, ?hy38⟩) (by assumption) ?rest38
      case hy38 =>
        intro W' hSw
        obtain ⟨e0, e1, e2, e3, e4⟩ := hSw
        go_simp
        with_reducible rfl
      simp only [List.getElem_toArray, List.getElem_cons_zero, List.getElem_cons_succ, Act.put, List.setIfInBounds_toArray, List.set_cons_zero, List.set_cons_succ]
      refine wpAnyH_take (i := 13) (v := ?v39) rfl (by kernel_rfl) (by kernel_rfl) (by kernel_rfl) (fun _ _ _ h => h) (Or.inl ⟨by rfl, ?hy39⟩) (by assumption) ?rest39
      case hy39 =>
        intro W' hSw
        obtain ⟨e0, e1, e2, e3, e4⟩ := hSw
        go_simp
        with_reducible rfl
      simp only [List.getElem_toArray, List.getElem_cons_zero, List.getElem_cons_succ, Act.put, List.setIfInBounds_toArray, List.set_cons_zero, List.set_cons_succ]
      refine wpAnyH_take (i := 14) (v := ?v40) rfl (by kernel_rfl) (by kernel_rfl) (by kernel_rfl) (fun _ _ _ h => h) (Or.inl ⟨by rfl, ?hy40⟩) (by assumption) ?rest40
      case hy40 =>
        intro W' hSw
        obtain ⟨e0, e1, e2, e3, e4⟩ := hSw
        go_simp
        with_reducible rfl
      simp only [List.getElem_toArray, List.getElem_cons_zero, List.getElem_cons_succ, Act.put, List.setIfInBounds_toArray, List.set_cons_zero, List.set_cons_succ]
      refine wpAnyH_take (i := 15) (v := ?v41) rfl (by kernel_rfl) (by kernel_rfl) (by kernel_rfl) (fun _ _ _ h => h) (Or.inl ⟨by rfl, ?hy41⟩) (by assumption) ?rest41
      case hy41 =>
        intro W' hSw
        obtain ⟨e0, e1, e2, e3, e4⟩ := hSw
        go_simp
        with_reducible rfl
      simp only [List.getElem_toArray, List.getElem_cons_zero, List.getElem_cons_succ, Act.put, List.setIfInBounds_toArray, List.set_cons_zero, List.set_cons_succ]
      refine wpAnyH_ready (rs := [8]) (by kernel_rfl) (by simp) ?_
      refine AllReadyH.cons (i := 8) rfl (fun K hK => ?_) AllReadyH.nil
      go_simp
      refine (H63.out _ HBr.out).mono ?_
      rintro e z1 ⟨gI, rfl, hrI, hb⟩
      have HRI := Lib.hid hrI
      have HBz1 : Hid (Below wr.heap.size wr z1) := Lib.hid (HBr.out.trans (hb.mono HBr.out.size))
      clear hrI hb
      refine hK.out _ _ (HSB.out _ HBz1.out) (fun hHeld => ?_)
      clear hK K
      refine wpAnyH_ready (rs := [9]) (by kernel_rfl) (by simp) ?_
      refine AllReadyH.cons (i := 9) rfl (fun K hK => ?_) AllReadyH.nil
      go_simp
      refine (H62.out _ _ HBz1.out HRI.out).mono ?_
      rintro e z2 ⟨gT, rfl, hrT, hb⟩
      have HRT := Lib.hid hrT
      have HBz2 : Hid (Below wr.heap.size wr z2) := Lib.hid (HBz1.out.trans (hb.mono HBz1.out.size))
      clear hrT hb
      refine hK.out _ _ (HSB.out _ HBz2.out) (fun hHeld => ?_)
      clear hK K
      refine wpAnyH_ready (rs := [10]) (by kernel_rfl) (by simp) ?_
      refine AllReadyH.cons (i := 10) rfl (fun K hK => ?_) AllReadyH.nil
      go_simp
      refine (H53.out _ _ HBz2.out HRT.out).mono ?_
      rintro e z3 ⟨rfl, hb⟩
      have HBz3 : Hid (Below wr.heap.size wr z3) := Lib.hid (HBz2.out.trans (hb.mono HBz2.out.size))
      clear hb
      refine hK.out _ _ (HSB.out _ HBz3.out) (fun hHeld => ?_)
      clear hK K
      refine wpAnyH_take (i := 16) (v := ?v42) rfl (by kernel_rfl) (by kernel_rfl) (by kernel_rfl) (fun _ _ _ h => h) (Or.inl ⟨by rfl, ?hy42⟩) (by assumption) ?rest42
      case hy42 =>
        intro W' hSw
        obtain ⟨e0, e1, e2, e3, e4⟩ := hSw
        go_simp
        with_reducible rfl
      simp only [List.getElem_toArray, List.getElem_cons_zero, List.getElem_cons_succ, Act.put, List.setIfInBounds_toArray, List.set_cons_zero, List.set_cons_succ]
      have HOW4 : Hid (z3.ownsRow wd.heap.size 9 1 (.slice (some ⟨V, 0, none⟩) m dv) m (strs (pasG pos bl i l))) := Lib.hid (HO.out.vals.kept (gb_of_below HBz3.out none) (.inr (by intro e; cases e)))
      have hst := HOW4.out.stored y (.string ⟨List.toArray xs⟩)
      rw [strs_set] at hst
      have hcell : z3.cell? ⟨V, y, none⟩ = some (.string ⟨List.toArray ((pasG pos bl i l).getD y [])⟩) := by
        rw [HOW4.out.cellAt y (by omega)]; exact strs_at (by rw [pasG_len, hl.out]; omega)
      have hfrz : z3.frozen? ⟨V, y, none⟩ = false := HOW4.out.frozenAt y
      obtain ⟨W9, HW9⟩ : ∃ W9, Hid (z3.setCell ⟨V, y, none⟩ (.string ⟨List.toArray xs⟩) = W9) := ⟨_, Lib.hid rfl⟩
      rw [HW9.out] at hst
      have HST : Hid (RI w7 wd.heap.size m (some ⟨V, 0, none⟩) dv pos bl l (i + 1) W9) := Lib.hid (by
        obtain ⟨h1, h2⟩ := HBLK.out z3 HBz3.out
        refine ⟨hst.2.os.trans (HBz3.out.os.trans HO.out.so), hst.2.tape.trans (HBz3.out.tape.trans HO.out.st), hst.2.output.trans (HBz3.out.output.trans HO.out.sp), Nat.le_trans h1 hst.2.size, fun b g1 g2 => (hst.2.block b (Nat.lt_of_lt_of_le g1 h1) (by intro e; injection e with e; exact g2 (by rw [e]; rfl))).trans (h2 b g1 (by intro e; exact g2 (by rw [e]; rfl))), ?_⟩
        rw [pasG_succ, HYP.out, ← HXS.out]
        exact hst.1)
      have HS9 := Lib.hid (HSO.out W9 HST.out.size (fun b g1 g2 => HST.out.blk b g1 (by intro e; injection e with e; exact g2 e.symm)))
      clear hst
      refine wpAnyH_ready (rs := [17]) (by kernel_rfl) (by simp) ?_
      refine AllReadyH.cons (i := 17) rfl (fun K hK => ?_) AllReadyH.nil
      go_simp
      try rw [HW9.out]
      refine hK.out _ _ HS9.out (fun hHeld3 => ?_)
      clear hK K
      refine wpAnyH_done (by kernel_rfl) ?_ _
      refine NoPanic.normal ?_
      clear hHeld hHeld3 hcell hfrz
      go_wp2_with fail
      go_roundw
      case rel => exact ⟨i + 1, by omega, by go_num, HST⟩
      case measure => simp [Go.RowKit.intOf]; omega
    · obtain rfl : i = N := by omega
      have ilt : ¬ (i : Int) < (m2 : Int) := by omega
      have ho := HORD.out
      have hG := (HO.out.blk G (by omega) (fun e => (HVL.out _ e).2.2 rfl)).trans HP7.out.box
      have g0 : wr.cell? ⟨G, 0, none⟩ = some (.slice qc k dc) := by simp [World.cell?, hG]
      have g1 : wr.cell? ⟨G, 1, none⟩ = some (.slice qv m dv) := by simp [World.cell?, hG]
      have y6 := (HO.out.blk (A + 1 + 1) (by omega) (fun e => by have := HVL.out _ e; omega)).trans HKR.out
      clear hG hmN hm2N
      have r0 : wr.cell? ⟨A + 1 + 1, 0, none⟩ = some (.slice none 0 0) := by simp [World.cell?, y6]
      have r1 : wr.cell? ⟨A + 1 + 1, 1, none⟩ = some (.slice none 0 0) := by simp [World.cell?, y6]
      have z0 : wr.frozen? ⟨A + 1 + 1, 0, none⟩ = false := by simp [World.frozen?, y6]
      have z1 : wr.frozen? ⟨A + 1 + 1, 1, none⟩ = false := by simp [World.frozen?, y6]
      have hE1 := heap_set wr (A + 1 + 1) 0 (.slice qc k dc) _ _ y6
      have hE2 := heap_set _ (A + 1 + 1) 1 (.slice qv m dv) _ _ hE1
      obtain ⟨W7, hW7⟩ : ∃ W7, (wr.setCell ⟨A + 1 + 1, 0, none⟩ (.slice qc k dc)).setCell ⟨A + 1 + 1, 1, none⟩ (.slice qv m dv) = W7 := ⟨_, rfl⟩
      rw [hW7] at hE2
      have k0 : W7.cell? ⟨A + 1 + 1, 0, none⟩ = some (.slice qc k dc) := by simp [World.cell?, hE2]
      have k1 : W7.cell? ⟨A + 1 + 1, 1, none⟩ = some (.slice qv m dv) := by simp [World.cell?, hE2]
      have hg67 : wr.grownBy W7 (some (A + 1 + 1)) := by rw [← hW7]; exact (gb_set _ _ _ _).trans (gb_set _ _ _ _)
      have HFIN : Hid (ArrPost w 0 s (pasteV s l cuts bl) (.returned (.tuple #[.agg #[.slice qc k dc, .slice qv m dv], .int .i64 0])) W7) := Lib.hid (by
          have o7 : w7.grownBy w7 none := ⟨rfl, rfl, rfl, Nat.le_refl _, fun _ _ _ => rfl⟩
          have hw := HW0.out
          refine ⟨⟨hg67.os.trans (HO.out.so.trans hw.os), hg67.tape.trans (HO.out.st.trans hw.tape), hg67.output.trans (HO.out.sp.trans hw.output), Nat.le_trans hw.size (Nat.le_trans HO.out.size hg67.size), fun b hb => ?_⟩, qc, qv, k, dc, m, dv, rfl, hs.out, ?_, ?_, ?_⟩
          · have := hw.size
            exact (hg67.block b (by have := HO.out.size; omega) (by intro e; injection e with e; omega)).trans ((HO.out.blk b (by omega) (fun e => by have := HVL.out b e; omega)).trans (hw.block b hb))
          · have := pasG_len pos bl i l
            rw [← hl.out, ← this, HPOS.out, HN.out]; rfl
          · refine RdN.keep HP7.out.sh (Nat.le_trans HO.out.size hg67.size) (fun b off e h0 => ?_)
            obtain ⟨b', off', _, e', hb', -⟩ := HP7.out.sh.at h0
            rw [e] at e'; cases e'
            obtain ⟨h1, h2, h3⟩ := HP7.out.shb b off e h0
            exact (hg67.block b (by have := HO.out.size; omega) (by intro e2; injection e2 with e2; omega)).trans (HO.out.blk b hb' h3)
          · have hv : pasG pos bl i l = pasteV s l cuts bl := by rw [HPOS.out, HN.out]; rfl
            rw [← hv]
            refine rds_own (by rw [pasG_len, hl.out]) (HO.out.vals.kept hg67 ?_)
            rcases Option.eq_none_or_eq_some (Value.slice qv m dv).ownBlock with e | ⟨b, e⟩
            · exact .inl e
            · refine .inr ?_
              rw [e]; intro e2; injection e2 with e2
              have := HVL.out b e
              omega)
      clear hg67 hE1 hE2 y6 ho
      go_wp2_with fail
      (try simp only [Exit.inBlock, Exit.then])
      refine bodyPost_ret (v := .tuple #[.agg #[.slice qc k dc, .slice qv m dv], .int .i64 0]) ?_ rfl HFIN.out
      rw [results_cell_tmp rfl]
      go_simp
end Go.Proofs.YtigidchicloleaaGreatDoor.Arr
