/- Slice on both sides, with its errors' numbers. -/
import Derived.Test.YtigidchicloleaaGreatDoorHG
import Derived.Test.YtigidchicloleaaGreatDoorHK
set_option maxHeartbeats 16000000
set_option maxRecDepth 100000
namespace Go.Proofs.YtigidchicloleaaGreatDoor.Arr
open Go.RowKit Go.Shelf
open Go.Lib
attribute [local go_sem] Oper.semAt_some
def slV (s : List Int) (l : List (List UInt8)) (cuts : List (Int × Int × Int)) : Int × List Nat × List (List UInt8) :=
  if validA s l = false then (60, [], []) else if slabOk (s.map Int.toNat) cuts = false then (61, [], []) else (0, cnts cuts, sliceV (s.map Int.toNat) l cuts)
theorem slice_ans (p q cq : Option Addr) (c d n m k cd : Nat) (s : List Int) (l : List (List UInt8)) (cuts : List (Int × Int × Int)) (w : World) (he : Env w) (hs : Hid (s.length = n)) (hl : Hid (l.length = m)) (hm : m ≤ 5000) (hk : Hid (cuts.length = k)) (hp : Rd w p s) (hq : RdS w q l) (hcq : RdC w cq cuts) :
    Calls Tryz.prog 24 #[.agg #[.slice p n c, .slice q m d], .slice cq k cd] w (ArrPost w (slV s l cuts).1 (slV s l cuts).2.1 (slV s l cuts).2.2) := by
  cases hva : validA s l with
  | false =>
    have e0 : slV s l cuts = (60, [], []) := by unfold slV; rw [if_pos hva]
    rw [e0]
    exact (slice_no1 p q cq c d n m k cd s l w he hs hl hm hp hq hva).mono (fun e w' h => by obtain ⟨h1, rfl⟩ := h; exact arr_no h1)
  | true =>
    have hv : vs s = true := by
      unfold validA at hva
      rw [Bool.and_eq_true] at hva
      exact hva.1
    obtain ⟨t, rfl, ht⟩ := vs_yes hv
    have htl : t.length = n := by rw [← hs.out, List.length_map]
    cases hsl : slabOk t cuts with
    | false =>
      have e0 : slV (t.map Int.ofNat) l cuts = (61, [], []) := by unfold slV; rw [if_neg (by rw [hva]; simp), toNat_map, if_pos hsl]
      rw [e0]
      exact (slice_no2 p q cq c d n m k cd t l cuts w he (Lib.hid htl) hl hm (Lib.hid ht) hk hp hq hcq hva (Lib.hid hsl)).mono (fun e w' h => by obtain ⟨h1, rfl⟩ := h; exact arr_no h1)
    | true =>
      have e0 : slV (t.map Int.ofNat) l cuts = (0, cnts cuts, sliceV t l cuts) := by unfold slV; rw [if_neg (by rw [hva]; simp), toNat_map, if_neg (by rw [hsl]; simp)]
      rw [e0]
      obtain ⟨hcl, hcz, hcb, hcp⟩ := cnts_ok hsl ht.2.1
      obtain rfl : k = n := by rw [← hk.out, hcl, htl]
      refine (slice_yes p q cq c d k m cd t cuts l w he (Lib.hid htl) hl hm (Lib.hid ht) hp hq hcq hva (Lib.hid hsl)).mono ?_
      rintro e w' ⟨hb, q', d', V, rfl, h1, -, -, -, h5, -⟩
      exact ⟨hb, q', some ⟨V, 0, none⟩, k, d', _, _, rfl, by show (cnts cuts).length = k; rw [cnts, List.length_map, hk.out], sliceV_len t l cuts, h1, h5⟩
theorem op_append_1s {w : World} {o : Oper} {a : Act} {K : Act → World → Prop} {Q : Exit → Act → World → Prop} (s x : Operand)
    (ho : o.op = .call { callee := .builtin .append, args := #[s, x], argTypes := #[23, 23] })
    (B : Nat) (pv : Option Addr) (cv n : Nat) (X : List (List UInt8)) (hs : a.eval s = .slice pv n cv) (hown : w.ownsRow B 9 1 (.slice pv n cv) n (strs X))
    (g : Nat) (y : List UInt8) (hx : a.eval x = .slice (some ⟨g, 0, none⟩) 1 1) (hc : w.cell? ⟨g, 0, none⟩ = some (.string ⟨List.toArray y⟩)) (hlen : n ≤ 100000) (hB : B ≤ w.heap.size)
    (h : ∀ gv cv' w', w'.ownsRow B 9 1 (.slice (some ⟨gv, 0, none⟩) (n + 1) cv') (n + 1) (strs (X ++ [y])) → w.grownBy w' (Value.slice pv n cv).ownBlock → K (a.put o.dst (.slice (some ⟨gv, 0, none⟩) (n + 1) cv')) w') : o.wp Tryz.prog a w K Q := by
  obtain ⟨i0, hi, hz0, hz1, hz2⟩ := info_parts info9
  obtain ⟨v', w', hr, h2, h3, h4, h5⟩ := run_append_own_at (P := Tryz.prog) w B 23 o.type 9 i0 (.string ⟨#[]⟩) 1 16 Tryz.underlying23 hi hz0 hz1 hz2 rfl (by decide) (.slice pv n cv) n (strs X) hown ⟨g, 0, none⟩ 1 1 [.string ⟨List.toArray y⟩] rfl (fun j u hj => by
    cases j with
    | zero => simp at hj; subst hj; exact hc
    | succ j => simp at hj) (fun u hu => by obtain rfl := List.mem_singleton.1 hu; rfl) (by unfold maxLen; omega) (by omega) hB
  obtain ⟨gv, cv', rfl⟩ : ∃ g c, v' = .slice (some ⟨g, 0, none⟩) (n + 1) c := by
    obtain ⟨-, ⟨-, e⟩ | ⟨g, cap, _, e, -⟩⟩ := id h2
    · omega
    · exact ⟨g, cap, e⟩
  unfold Oper.wp execOp
  simp only [ho, resolve, invoke, builtin, Sem.run_bind, Sem.run_pure, Result.andThen_ok, List.map_toArray, List.map_cons, List.map_nil, hs, hx, hr]
  refine h gv cv' w' ?_ h3
  rw [strs, List.map_append]
  exact h2
theorem OutI.of_set {W5 W : World} {G : Nat} {c0 u : Value} {l : List (List UInt8)} (h : OutI W5 G c0 l (W.setCell ⟨G, 1, none⟩ u)) : W5.grownBy W (some G) :=
  ⟨h.old.os, h.old.tape, h.old.output, Nat.le_trans h.old.size (Nat.le_of_eq (by simp)), fun k hk hne => by
    have := h.old.block k hk hne
    rwa [Below.heap_setCell _ _ _ _ (by intro e; exact hne (congrArg some e))] at this⟩
theorem OutI.box0 {W5 W : World} {G : Nat} {c0 : Value} {l : List (List UInt8)} (h : OutI W5 G c0 l W) : W.cell? ⟨G, 0, none⟩ = some c0 := by
  obtain ⟨pv, cv, h1, -⟩ := h.row
  simp [World.cell?, h1]
theorem rslice_any (p q cq : Option Addr) (c d n m k cd : Nat) (s : List Int) (l : List (List UInt8)) (cuts : List (Int × Int × Int)) (w : World) (hs : Hid (s.length = n)) (hl : Hid (l.length = m)) (hm : m ≤ 5000) (hk : Hid (cuts.length = k)) (hp : Rd w p s) (hq : RdS w q l) (hcq : RdC w cq cuts) :
    Calls Tryz.prog 25 #[.agg #[.slice p n c, .slice q m d], .slice cq k cd] w (ArrPost w (slV s l cuts).1 (slV s l cuts).2.1 (slV s l cuts).2.2) := by
  have HP := Lib.hid hp
  have HQ := Lib.hid hq
  have HCQ := Lib.hid hcq
  have hmi : (m : Int) ≤ 5000 := by omega
  obtain ⟨A, HA⟩ : ∃ A, Hid (A = w.heap.size) := ⟨_, Lib.hid rfl⟩
  obtain ⟨W0, HW0⟩ : ∃ W0, Hid ((w.alloc (.cells #[.slice p n c, .slice q m d] 25)).alloc (.cells #[.slice none 0 0, .slice none 0 0] 25) = W0) := ⟨_, Lib.hid rfl⟩
  have HB0 : Hid (Below w.heap.size w W0) := Lib.hid (by rw [← HW0.out]; exact ((Below.refl _ w).alloc (Nat.le_refl _) _).alloc (by simp) _)
  have HRB : Hid (w.heap.size ≤ A + 1) := Lib.hid (by rw [HA.out]; omega)
  have HS0 : Hid (W0.heap.size = A + 1 + 1) := Lib.hid (by rw [← HW0.out, HA.out]; simp)
  have HA0 : Hid (W0.heap[A]? = some (.cells #[.slice p n c, .slice q m d] 25 (0, 0))) := Lib.hid (by
    rw [← HW0.out, HA.out]; simp only [World.alloc, Array.getElem?_push, Array.size_push]
    repeat' (first | rw [if_pos (by omega)] | rw [if_neg (by omega)] | rfl))
  have HA1 : Hid (W0.heap[A + 1]? = some (.cells #[.slice none 0 0, .slice none 0 0] 25 (0, 0))) := Lib.hid (by
    rw [← HW0.out, HA.out]; simp only [World.alloc, Array.getElem?_push, Array.size_push]
    repeat' (first | rw [if_pos (by omega)] | rw [if_neg (by omega)] | rfl))
  have HBX : Hid (∀ W, Below W0.heap.size W0 W → Below w.heap.size w W ∧ W.heap[A]? = some (.cells #[.slice p n c, .slice q m d] 25 (0, 0)) ∧ W.heap[A + 1]? = some (.cells #[.slice none 0 0, .slice none 0 0] 25 (0, 0))) := Lib.hid (fun W hW =>
    ⟨HB0.out.trans (hW.mono HB0.out.size), (hW.block A (by rw [HS0.out]; omega)).trans HA0.out, (hW.block (A + 1) (by rw [HS0.out]; omega)).trans HA1.out⟩)
  have H21 : Hid (Calls Tryz.prog 22 #[.agg #[.slice p n c, .slice q m d]] W0 fun e w' => Below W0.heap.size W0 w' ∧ e = .returned (.bool (validA s l))) := Lib.hid (rvalidA_any p q c d n m s l W0 hs hl hm (HP.out.below HB0.out) (HQ.out.below HB0.out))
  clear hp hq hcq
  by_cases hv : validA s l = false
  · have e0 : slV s l cuts = (60, [], []) := by unfold slV; rw [if_pos hv]
    rw [e0]
    rw [hv] at H21
    clear hv e0
    go_enter Tryz.func25, Tryz.ntmps25
    go_wp2_with fail
    rw [HW0.out, ← HA.out]
    refine (H21.out).mono ?_
    rintro e w1 ⟨hb1, rfl⟩
    have HB1 := Lib.hid hb1
    obtain ⟨hbw, x0, y1⟩ := HBX.out w1 hb1
    have HBk := Lib.hid hbw
    clear hb1 hbw
    clear x0
    have r0 : w1.cell? ⟨A + 1, 0, none⟩ = some (.slice none 0 0) := by simp [World.cell?, y1]
    have r1 : w1.cell? ⟨A + 1, 1, none⟩ = some (.slice none 0 0) := by simp [World.cell?, y1]
    have z0 : w1.frozen? ⟨A + 1, 0, none⟩ = false := by simp [World.frozen?, y1]
    have z1 : w1.frozen? ⟨A + 1, 1, none⟩ = false := by simp [World.frozen?, y1]
    have hE1 := heap_set w1 (A + 1) 0 (.slice none 0 0) _ _ y1
    have hE2 := heap_set _ (A + 1) 1 (.slice none 0 0) _ _ hE1
    obtain ⟨W7, hW7⟩ : ∃ W7, (w1.setCell ⟨A + 1, 0, none⟩ (.slice none 0 0)).setCell ⟨A + 1, 1, none⟩ (.slice none 0 0) = W7 := ⟨_, rfl⟩
    rw [hW7] at hE2
    have k0 : W7.cell? ⟨A + 1, 0, none⟩ = some (.slice none 0 0) := by simp [World.cell?, hE2]
    have k1 : W7.cell? ⟨A + 1, 1, none⟩ = some (.slice none 0 0) := by simp [World.cell?, hE2]
    have HFIN : Hid (ArrPost w 60 [] [] (.returned (.tuple #[.agg #[.slice none 0 0, .slice none 0 0], .int .i64 60])) W7) := Lib.hid (arr_no (by
      rw [← hW7]
      exact (HBk.out.setCell (p := ⟨A + 1, 0, none⟩) HRB.out _).setCell (p := ⟨A + 1, 1, none⟩) HRB.out _))
    clear hE1 hE2 y1
    go_wp2_with fail
    (try simp only [Exit.inBlock, Exit.then])
    refine bodyPost_ret (v := .tuple #[.agg #[.slice none 0 0, .slice none 0 0], .int .i64 60]) ?_ rfl HFIN.out
    rw [results_cell_tmp rfl]
    go_simp
  have hv2 : validA s l = true := by simpa using hv
  rw [hv2] at H21
  have hvs : vs s = true := by unfold validA at hv2; rw [Bool.and_eq_true] at hv2; exact hv2.1
  obtain ⟨s0, rfl, hsh⟩ := vs_yes hvs
  have hsn : s0.length = n := by rw [← hs.out, List.length_map]
  have hn4 : n ≤ 4 := by rw [← hsn]; exact hsh.1
  obtain ⟨u, HU⟩ : ∃ u, Hid (u = slabOk s0 cuts) := ⟨_, rfl⟩
  have HSNq := Lib.hid hsn
  have HSHq := Lib.hid hsh
  have H60 : Hid (∀ W, Below w.heap.size w W → Calls Tryz.prog 63 #[.slice p n c, .slice cq k cd] W fun e w' => Below W.heap.size W w' ∧ e = .returned (.bool u)) := Lib.hid (fun W hW => by
    rw [HU.out]; exact rfits_any p cq c cd n k s0 cuts W HSNq hk hn4 HSHq.out.2.1 (HP.out.below hW) (HCQ.out.below hW))
  by_cases hu : u = false
  · subst hu
    have e0 : slV (s0.map Int.ofNat) l cuts = (61, [], []) := by unfold slV; rw [if_neg hv, toNat_map, if_pos HU.out.symm]
    rw [e0]
    clear hv hv2 e0 hsn hsh
    go_enter Tryz.func25, Tryz.ntmps25
    go_wp2_with fail
    rw [HW0.out, ← HA.out]
    refine (H21.out).mono ?_
    rintro e w1 ⟨hb1, rfl⟩
    have HB1 := Lib.hid hb1
    obtain ⟨hbw, x0, y1⟩ := HBX.out w1 hb1
    have HBk := Lib.hid hbw
    clear hb1 hbw
    have c0 : w1.cell? ⟨A, 0, none⟩ = some (.slice p n c) := by simp [World.cell?, x0]
    clear x0 y1
    go_wp2_with fail
    refine (H60.out _ HBk.out).mono ?_
    rintro e w2 ⟨hb2, rfl⟩
    have HB2 := Lib.hid (HB1.out.trans (hb2.mono HB1.out.size))
    clear hb2 HBk c0
    obtain ⟨hbw, x0, y1⟩ := HBX.out w2 HB2.out
    have HBk := Lib.hid hbw
    clear hbw
    clear x0
    have r0 : w2.cell? ⟨A + 1, 0, none⟩ = some (.slice none 0 0) := by simp [World.cell?, y1]
    have r1 : w2.cell? ⟨A + 1, 1, none⟩ = some (.slice none 0 0) := by simp [World.cell?, y1]
    have z0 : w2.frozen? ⟨A + 1, 0, none⟩ = false := by simp [World.frozen?, y1]
    have z1 : w2.frozen? ⟨A + 1, 1, none⟩ = false := by simp [World.frozen?, y1]
    have hE1 := heap_set w2 (A + 1) 0 (.slice none 0 0) _ _ y1
    have hE2 := heap_set _ (A + 1) 1 (.slice none 0 0) _ _ hE1
    obtain ⟨W7, hW7⟩ : ∃ W7, (w2.setCell ⟨A + 1, 0, none⟩ (.slice none 0 0)).setCell ⟨A + 1, 1, none⟩ (.slice none 0 0) = W7 := ⟨_, rfl⟩
    rw [hW7] at hE2
    have k0 : W7.cell? ⟨A + 1, 0, none⟩ = some (.slice none 0 0) := by simp [World.cell?, hE2]
    have k1 : W7.cell? ⟨A + 1, 1, none⟩ = some (.slice none 0 0) := by simp [World.cell?, hE2]
    have HFIN : Hid (ArrPost w 61 [] [] (.returned (.tuple #[.agg #[.slice none 0 0, .slice none 0 0], .int .i64 61])) W7) := Lib.hid (arr_no (by
      rw [← hW7]
      exact (HBk.out.setCell (p := ⟨A + 1, 0, none⟩) HRB.out _).setCell (p := ⟨A + 1, 1, none⟩) HRB.out _))
    clear hE1 hE2 y1
    go_wp2_with fail
    (try simp only [Exit.inBlock, Exit.then])
    refine bodyPost_ret (v := .tuple #[.agg #[.slice none 0 0, .slice none 0 0], .int .i64 61]) ?_ rfl HFIN.out
    rw [results_cell_tmp rfl]
    go_simp
  obtain rfl : u = true := by simpa using hu
  have hsl : slabOk s0 cuts = true := HU.out.symm
  obtain ⟨hcl, hcz, hcb, hcp⟩ := cnts_ok hsl hsh.2.1
  obtain rfl : k = n := by rw [← hk.out, hcl, hsn]
  obtain ⟨N, HN⟩ : ∃ N, Hid (N = prod (cnts cuts)) := ⟨_, rfl⟩
  obtain ⟨F, HF⟩ : ∃ F : Nat → List UInt8, Hid (F = fun i => l.getD (plc s0 (thr cuts (ixOf (cnts cuts) i)) 0) []) := ⟨_, Lib.hid rfl⟩
  have e0 : slV (s0.map Int.ofNat) l cuts = (0, cnts cuts, (List.range N).map F) := by unfold slV; rw [if_neg hv, toNat_map, if_neg (by rw [hsl]; simp), HN.out, HF.out]; rfl
  rw [e0]
  have hml : m = prod s0 := by
    unfold validA at hv2
    rw [Bool.and_eq_true, Bool.and_eq_true, decide_eq_true_eq, toNat_map, hl.out] at hv2
    exact hv2.2.1
  have HSN := Lib.hid hsn
  have HSH := Lib.hid hsh
  have HSL := Lib.hid hsl
  have HCB := Lib.hid hcb
  have HCZ := Lib.hid hcz
  have HML := Lib.hid hml
  have HCN : Hid ((cnts cuts).length = k) := Lib.hid (by rw [cnts, List.length_map, hk.out])
  have hN4 : N ≤ 4096 := by rw [HN.out]; exact Nat.le_trans hcp hsh.2.2
  have HN4 := Lib.hid hN4
  have iN : (N : Int) ≤ 4096 := by omega
  have H61 : Hid (∀ W, Below w.heap.size w W → Calls Tryz.prog 64 #[.slice cq k cd] W fun e w' => ∃ g, e = .returned (.slice (some ⟨g, 0, none⟩) k k) ∧ w'.heap[g]? = some (.cells (ixC (cnts cuts)) 3 (0, 0)) ∧ Below W.heap.size W w' ∧ W.heap.size ≤ g) := Lib.hid (fun W hW =>
    (rcounts_any cq cd k cuts W hn4 hk HCZ (HCQ.out.below hW)).mono (fun e w' h => ⟨_, h.2.1, h.2.2, h.1, Nat.le_refl _⟩))
  clear hv hv2 e0 hsh hsn hml hN4 hcl hcz hcb hcp hsl
  go_enter Tryz.func25, Tryz.ntmps25
  go_wp2_with fail
  rw [HW0.out, ← HA.out]
  refine (H21.out).mono ?_
  rintro e w1 ⟨hb1, rfl⟩
  have HB1 := Lib.hid hb1
  obtain ⟨hbw, x0, y1⟩ := HBX.out w1 hb1
  have HBk := Lib.hid hbw
  clear hb1 hbw
  have c0 : w1.cell? ⟨A, 0, none⟩ = some (.slice p k c) := by simp [World.cell?, x0]
  clear x0 y1
  go_wp2_with fail
  refine (H60.out _ HBk.out).mono ?_
  rintro e w2 ⟨hb2, rfl⟩
  have HB2 := Lib.hid (HB1.out.trans (hb2.mono HB1.out.size))
  clear hb2 HBk c0
  obtain ⟨hbw, x0, y1⟩ := HBX.out w2 HB2.out
  have HBk := Lib.hid hbw
  clear hbw
  have HX2 := Lib.hid x0
  have HY2 := Lib.hid y1
  have HS2 : Hid (A + 1 + 1 ≤ w2.heap.size) := Lib.hid (by rw [← HS0.out]; exact HB2.out.size)
  clear x0 y1
  go_wp2_with fail
  refine (H61.out _ HBk.out).mono ?_
  rintro e w3 ⟨gc, rfl, hgc, hb3, hgc2⟩
  obtain ⟨G, HG⟩ : ∃ G, Hid (G = w3.heap.size) := ⟨_, Lib.hid rfl⟩
  obtain ⟨W5, HW5⟩ : ∃ W5, Hid (w3.alloc (.cells #[.slice (some ⟨gc, 0, none⟩) k k, .slice none 0 0] 25) = W5) := ⟨_, Lib.hid rfl⟩
  have hb25 : Below w3.heap.size w3 W5 := by rw [← HW5.out]; exact (Below.refl _ _).alloc (Nat.le_refl _) _
  have HX5 : Hid (W5.heap[G]? = some (.cells #[.slice (some ⟨gc, 0, none⟩) k k, .slice none 0 0] 25 (0, 0))) := Lib.hid (by rw [← HW5.out, HG.out]; exact World.alloc_heap_new _ _)
  have hgclt := (Array.getElem?_eq_some_iff.1 hgc).1
  have HAG : Hid (A + 1 < G ∧ w.heap.size ≤ G ∧ A + 1 < gc ∧ gc < G) := Lib.hid (by
    have h1 := HS2.out
    have h2 := hb3.size
    rw [HG.out]; have := HA.out; omega)
  have HB35 : Hid (Below w2.heap.size w2 W5) := Lib.hid (hb3.trans (hb25.mono hb3.size))
  have HX50 : Hid (W5.heap[A]? = some (.cells #[.slice p k c, .slice q m d] 25 (0, 0))) := Lib.hid ((HB35.out.block A (by have := HS2.out; omega)).trans HX2.out)
  have HY5 : Hid (W5.heap[A + 1]? = some (.cells #[.slice none 0 0, .slice none 0 0] 25 (0, 0))) := Lib.hid ((HB35.out.block (A + 1) (by have := HS2.out; omega)).trans HY2.out)
  have HGC5 : Hid (W5.heap[gc]? = some (.cells (ixC (cnts cuts)) 3 (0, 0))) := Lib.hid ((hb25.block gc hgclt).trans hgc)
  have HB5 : Hid (Below w.heap.size w W5) := Lib.hid (HBk.out.trans (HB35.out.mono HBk.out.size))
  have HXA : Hid (∀ W, W5.grownBy W (some G) → (W.cell? ⟨A, 0, none⟩ = some (.slice p k c) ∧ W.cell? ⟨A, 1, none⟩ = some (.slice q m d)) ∧ Below w.heap.size w W ∧ RdN W (some ⟨gc, 0, none⟩) (cnts cuts)) := Lib.hid (fun W hW => by
    have hag := HAG.out
    have h0 := (hW.block A (Array.getElem?_eq_some_iff.1 HX50.out).1 (by intro e; injection e with e; omega)).trans HX50.out
    have h1 := (hW.block gc (Array.getElem?_eq_some_iff.1 HGC5.out).1 (by intro e; injection e with e; omega)).trans HGC5.out
    exact ⟨⟨by simp [World.cell?, h0], by simp [World.cell?, h0]⟩, ⟨hW.os.trans HB5.out.os, hW.tape.trans HB5.out.tape, hW.output.trans HB5.out.output, Nat.le_trans HB5.out.size hW.size, fun j hj => (hW.block j (Nat.lt_of_lt_of_le hj HB5.out.size) (by intro e; injection e with e; omega)).trans (HB5.out.block j hj)⟩, rdn_row h1 (fun x hx => by have := HCB.out x hx; omega)⟩)
  have HCNT : Hid (∀ W, W5.grownBy W (some G) → Calls Tryz.prog 47 #[.slice (some ⟨gc, 0, none⟩) k k] W fun e w' => W = w' ∧ e = .returned (.int .i64 (N : Int))) := Lib.hid (fun W hW => by
    have := count_any (some ⟨gc, 0, none⟩) k (cnts cuts) W (by rw [HCN.out]; exact hn4) HCB.out (HXA.out W hW).2.2
    rwa [HCN.out, ← HN.out] at this)
  clear hb3 hgc hgc2 hgclt hb25
  go_wp2_with fail
  rw [HW5.out, ← HG.out]
  go_loopw [7] (fun iv wr => ∃ i : Nat, i ≤ N ∧ iv = .int .i64 i ∧ Hid (OutI W5 G (.slice (some ⟨gc, 0, none⟩) k k) ((List.range i).map F) wr)) (fun iv _ => N - (Go.RowKit.intOf iv).toNat)
  case atStart => exact ⟨0, Nat.zero_le _, rfl, Lib.hid (OutI.start HX5.out)⟩
  case round =>
    obtain ⟨i, hi, rfl, HO⟩ := hrel
    have ii : (i : Int) ≤ (N : Int) := by omega
    have HBR := Lib.hid (HXA.out wr HO.out.old).2.1
    have HCW := Lib.hid (HCNT.out wr HO.out.old)
    obtain ⟨pv, cv, hx, hown, hge⟩ := HO.out.row
    rw [List.length_map, List.length_range] at hx hown hge
    have HXR := Lib.hid hx
    have HGE := Lib.hid hge
    have g0 : wr.cell? ⟨G, 0, none⟩ = some (.slice (some ⟨gc, 0, none⟩) k k) := by simp [World.cell?, hx]
    by_cases hlt : i < N
    · have ilt : (i : Int) < (N : Int) := by omega
      have HIP : Hid (i < prod (cnts cuts)) := Lib.hid (by rw [← HN.out]; exact hlt)
      obtain ⟨ix, HIX⟩ : ∃ ix, Hid (ixOf (cnts cuts) i = ix) := ⟨_, Lib.hid rfl⟩
      have hixc := (ixOf_is (cnts cuts) i HIP.out).1
      rw [HIX.out] at hixc
      obtain ⟨hto, hti⟩ := thr_ok HSL.out HSH.out.2.1 hixc
      have HTO := Lib.hid hto
      have HTI := Lib.hid hti
      have HIXL : Hid (ix.length = k) := Lib.hid (by rw [hixc.1, HCN.out])
      have HIXB : Hid (∀ x ∈ ix, (x : Int) ≤ 9223372036854775807) := Lib.hid (fun x hx => by
        rw [← HIX.out] at hx
        have := ixOf_small HIP.out HCB.out x hx; omega)
      have HTHB : Hid (∀ x ∈ thr cuts ix, (x : Int) ≤ 9223372036854775807) := Lib.hid (fun x hx => by
        obtain ⟨j, hj, e⟩ := List.getElem_of_mem hx
        have h1 := HTI.out.2 j (by rw [← HTI.out.1]; exact hj)
        have h2 := HSH.out.2.1 (s0.getD j 0) (by rw [List.getD_eq_getElem?_getD, List.getElem?_eq_getElem (by rw [← HTI.out.1]; exact hj)]; exact List.getElem_mem _)
        rw [List.getD_eq_getElem?_getD, List.getElem?_eq_getElem hj, Option.getD_some, e] at h1
        omega)
      obtain ⟨y, HY⟩ : ∃ y, Hid (y = plc s0 (thr cuts ix) 0) := ⟨_, rfl⟩
      have hym : y < m := by
        have := (plc_lt s0 (thr cuts ix) 0 hti).1
        rw [HY.out, HML.out]; simpa using this
      have hyi : (y : Int) < (m : Int) := by omega
      have HYM := Lib.hid hym
      obtain ⟨bq, oq, xs, eq1, hbq, -, HXS⟩ := HQ.out.at (k := y) (by rw [hl.out]; exact hym)
      have HYE : Hid (F i = xs) := Lib.hid (by rw [HF.out]; show l.getD (plc s0 (thr cuts (ixOf (cnts cuts) i)) 0) [] = xs; rw [HIX.out, ← HY.out, HXS.out])
      subst eq1
      have H63 : Hid (∀ W, Below wr.heap.size wr W → Calls Tryz.prog 66 #[.slice (some ⟨gc, 0, none⟩) k k, .int .i64 (i : Int)] W fun e w' => ∃ g, e = .returned (.slice (some ⟨g, 0, none⟩) k k) ∧ w'.heap[g]? = some (.cells (ixC ix) 3 (0, 0)) ∧ Below W.heap.size W w') := Lib.hid (fun W hW =>
        (rindex_any (some ⟨gc, 0, none⟩) k k i (cnts cuts) W hn4 HCN HCB HIP (by rw [← HN.out]; exact HN4.out) (HXA.out W (HO.out.old.trans (gb_of_below hW _))).2.2).mono (fun e w' h => ⟨_, h.1, by rw [← HIX.out]; exact h.2.1, h.2.2⟩))
      have H62 : Hid (∀ W g, Below wr.heap.size wr W → W.heap[g]? = some (.cells (ixC ix) 3 (0, 0)) → Calls Tryz.prog 65 #[.slice cq k cd, .slice (some ⟨g, 0, none⟩) k k] W fun e w' => ∃ g, e = .returned (.slice (some ⟨g, 0, none⟩) k k) ∧ w'.heap[g]? = some (.cells (ixC (thr cuts ix)) 3 (0, 0)) ∧ Below W.heap.size W w') := Lib.hid (fun W g hW hg =>
        (rthr_any (some ⟨g, 0, none⟩) cq k cd k cuts ix W hn4 hk HIXL HTO (HCQ.out.below (HXA.out W (HO.out.old.trans (gb_of_below hW _))).2.1) (rdn_row hg HIXB.out)).mono (fun e w' h => ⟨_, h.2.1, h.2.2, h.1⟩))
      have H53 : Hid (∀ W g, Below wr.heap.size wr W → W.heap[g]? = some (.cells (ixC (thr cuts ix)) 3 (0, 0)) → Calls Tryz.prog 56 #[.slice p k c, .slice (some ⟨g, 0, none⟩) k k] W fun e w' => e = .returned (.int .i64 (y : Int)) ∧ Below W.heap.size W w') := Lib.hid (fun W g hW hg => by
        refine (rplace_any p (some ⟨g, 0, none⟩) c k k s0 (thr cuts ix) W hn4 HSN (Lib.hid (by rw [HTI.out.1, HSN.out])) HTI.out HSH.out.2.2 (HP.out.below (HXA.out W (HO.out.old.trans (gb_of_below hW _))).2.1) (rdn_row hg HTHB.out)).mono (fun e w' h => ⟨by rw [h.2, ← HY.out], ?_⟩)
        obtain ⟨j, rfl⟩ := h.1
        exact ⟨rfl, rfl, rfl, Nat.le_refl _, fun _ _ => rfl⟩)
      have HSO : Hid (∀ W, W5.grownBy W (some G) → W.cell? ⟨G, 0, none⟩ = some (.slice (some ⟨gc, 0, none⟩) k k) → (fun W => W.cell? ⟨A, 0, none⟩ = some (.slice p k c) ∧ W.cell? ⟨A, 1, none⟩ = some (.slice (some ⟨bq, oq, none⟩) m d) ∧ W.cell? ⟨G, 0, none⟩ = some (.slice (some ⟨gc, 0, none⟩) k k) ∧ W.cell? ⟨bq, oq + y, none⟩ = some (.string ⟨List.toArray xs⟩)) W) := Lib.hid (fun W hW hG0 => by
        obtain ⟨⟨h0, h1⟩, h2, -⟩ := HXA.out W hW
        obtain ⟨b', o', x', e', -, hc, hx'⟩ := (HQ.out.below h2).at (k := y) (by rw [hl.out]; exact HYM.out)
        cases e'
        rw [hx'.out, ← HXS.out] at hc
        exact ⟨h0, h1, hG0, hc⟩)
      have HSB : ∀ {W}, Below wr.heap.size wr W → (fun W => W.cell? ⟨A, 0, none⟩ = some (.slice p k c) ∧ W.cell? ⟨A, 1, none⟩ = some (.slice (some ⟨bq, oq, none⟩) m d) ∧ W.cell? ⟨G, 0, none⟩ = some (.slice (some ⟨gc, 0, none⟩) k k) ∧ W.cell? ⟨bq, oq + y, none⟩ = some (.string ⟨List.toArray xs⟩)) W := fun {W} hW => HSO.out W (HO.out.old.trans (gb_of_below hW _)) ((HO.out.next hW).box0)
      have HG1 : Hid (∀ W, Below wr.heap.size wr W → W.cell? ⟨G, 1, none⟩ = some (.slice pv i cv)) := Lib.hid (fun W hW => by
        have := (hW.block G (Array.getElem?_eq_some_iff.1 HXR.out).1).trans HXR.out
        simp [World.cell?, this])
      have HOWN : Hid (∀ W, Below wr.heap.size wr W → W.ownsRow W5.heap.size 9 1 (.slice pv i cv) i (strs ((List.range i).map F))) := Lib.hid (fun W hW => by
        have := hown.kept (gb_of_below hW none) (by cases pv <;> simp [Value.ownBlock])
        obtain ⟨h1, ⟨e, e2⟩ | ⟨g, cap, cur, e, h3, h4⟩⟩ := this
        · exact ⟨h1, .inl ⟨e, e2⟩⟩
        · exact ⟨h1, .inr ⟨g, cap, cur, e, HGE.out g (by rw [e]; rfl), h4⟩⟩)
      have HU5 : Hid (∀ W, Below wr.heap.size wr W → W5.heap.size ≤ W.heap.size) := Lib.hid (fun W hW => Nat.le_trans HO.out.old.size hW.size)
      have hi2 : i ≤ 100000 := by omega
      have HBwd : Hid (Below wr.heap.size wr wr.drew) := Lib.hid ⟨rfl, rfl, rfl, Nat.le_refl _, fun _ _ => rfl⟩
      obtain ⟨wd, hwd⟩ : ∃ wd, wr.drew = wd := ⟨_, rfl⟩
      rw [hwd] at HBwd
      clear hx hown hge hti hto hixc hym hbq
      go_wp2_with fail
      refine (HCW.out).mono ?_
      rintro e w3' ⟨rfl, rfl⟩
      go_wp2_with fail
      refine wp_region_noPanic ?_
      refine wp_region_held_drew (S := fun W => W.cell? ⟨A, 0, none⟩ = some (.slice p k c) ∧ W.cell? ⟨A, 1, none⟩ = some (.slice (some ⟨bq, oq, none⟩) m d) ∧ W.cell? ⟨G, 0, none⟩ = some (.slice (some ⟨gc, 0, none⟩) k k) ∧ W.cell? ⟨bq, oq + y, none⟩ = some (.string ⟨List.toArray xs⟩)) (by kernel_rfl) (HSB (by rw [hwd]; exact HBwd.out)) (fun hHeld => ?_)
      rw [hwd] at hHeld ⊢
      refine wpAnyH_take (i := 0) (v := ?v1) rfl (by kernel_rfl) (by kernel_rfl) (by kernel_rfl) (fun _ _ _ h => h) (Or.inl ⟨by rfl, ?hy1⟩) (by assumption) ?rest1
      case hy1 =>
        intro W' hSw
        obtain ⟨e0, e1, e2, e3⟩ := hSw
        go_simp
        with_reducible rfl
      simp only [List.getElem_toArray, List.getElem_cons_zero, Act.put, List.setIfInBounds_toArray, List.set_cons_zero, List.set_cons_succ]
      refine wpAnyH_take (i := 2) (v := ?v2) rfl (by kernel_rfl) (by kernel_rfl) (by kernel_rfl) (fun _ _ _ h => h) (Or.inl ⟨by rfl, ?hy2⟩) (by assumption) ?rest2
      case hy2 =>
        intro W' hSw
        obtain ⟨e0, e1, e2, e3⟩ := hSw
        go_simp
        with_reducible rfl
      simp only [List.getElem_toArray, List.getElem_cons_zero, List.getElem_cons_succ, Act.put, List.setIfInBounds_toArray, List.set_cons_zero, List.set_cons_succ]
      refine wpAnyH_take (i := 3) (v := ?v3) rfl (by kernel_rfl) (by kernel_rfl) (by kernel_rfl) (fun _ _ _ h => h) (Or.inl ⟨by rfl, ?hy3⟩) (by assumption) ?rest3
      case hy3 =>
        intro W' hSw
        obtain ⟨e0, e1, e2, e3⟩ := hSw
        go_simp
        with_reducible rfl
      simp only [List.getElem_toArray, List.getElem_cons_zero, List.getElem_cons_succ, Act.put, List.setIfInBounds_toArray, List.set_cons_zero, List.set_cons_succ]
      refine wpAnyH_take (i := 4) (v := ?v4) rfl (by kernel_rfl) (by kernel_rfl) (by kernel_rfl) (fun _ _ _ h => h) (Or.inl ⟨by rfl, ?hy4⟩) (by assumption) ?rest4
      case hy4 =>
        intro W' hSw
        obtain ⟨e0, e1, e2, e3⟩ := hSw
        go_simp
        with_reducible rfl
      simp only [List.getElem_toArray, List.getElem_cons_zero, List.getElem_cons_succ, Act.put, List.setIfInBounds_toArray, List.set_cons_zero, List.set_cons_succ]
      refine wpAnyH_take (i := 5) (v := ?v5) rfl (by kernel_rfl) (by kernel_rfl) (by kernel_rfl) (fun _ _ _ h => h) (Or.inl ⟨by rfl, ?hy5⟩) (by assumption) ?rest5
      case hy5 =>
        intro W' hSw
        obtain ⟨e0, e1, e2, e3⟩ := hSw
        go_simp
        with_reducible rfl
      simp only [List.getElem_toArray, List.getElem_cons_zero, List.getElem_cons_succ, Act.put, List.setIfInBounds_toArray, List.set_cons_zero, List.set_cons_succ]
      refine wpAnyH_take (i := 6) (v := ?v6) rfl (by kernel_rfl) (by kernel_rfl) (by kernel_rfl) (fun _ _ _ h => h) (Or.inl ⟨by rfl, ?hy6⟩) (by assumption) ?rest6
      case hy6 =>
        intro W' hSw
        obtain ⟨e0, e1, e2, e3⟩ := hSw
        go_simp
        with_reducible rfl
      simp only [List.getElem_toArray, List.getElem_cons_zero, List.getElem_cons_succ, Act.put, List.setIfInBounds_toArray, List.set_cons_zero, List.set_cons_succ]
      refine wpAnyH_take (i := 7) (v := ?v7) rfl (by kernel_rfl) (by kernel_rfl) (by kernel_rfl) (fun _ _ _ h => h) (Or.inl ⟨by rfl, ?hy7⟩) (by assumption) ?rest7
      case hy7 =>
        intro W' hSw
        obtain ⟨e0, e1, e2, e3⟩ := hSw
        go_simp
        with_reducible rfl
      simp only [List.getElem_toArray, List.getElem_cons_zero, List.getElem_cons_succ, Act.put, List.setIfInBounds_toArray, List.set_cons_zero, List.set_cons_succ]
      refine wpAnyH_take (i := 8) (v := ?v8) rfl (by kernel_rfl) (by kernel_rfl) (by kernel_rfl) (fun _ _ _ h => h) (Or.inl ⟨by rfl, ?hy8⟩) (by assumption) ?rest8
      case hy8 =>
        intro W' hSw
        obtain ⟨e0, e1, e2, e3⟩ := hSw
        go_simp
        with_reducible rfl
      simp only [List.getElem_toArray, List.getElem_cons_zero, List.getElem_cons_succ, Act.put, List.setIfInBounds_toArray, List.set_cons_zero, List.set_cons_succ]
      refine wpAnyH_take (i := 9) (v := ?v9) rfl (by kernel_rfl) (by kernel_rfl) (by kernel_rfl) (fun _ _ _ h => h) (Or.inl ⟨by rfl, ?hy9⟩) (by assumption) ?rest9
      case hy9 =>
        intro W' hSw
        obtain ⟨e0, e1, e2, e3⟩ := hSw
        go_simp
        with_reducible rfl
      simp only [List.getElem_toArray, List.getElem_cons_zero, List.getElem_cons_succ, Act.put, List.setIfInBounds_toArray, List.set_cons_zero, List.set_cons_succ]
      refine wpAnyH_ready (rs := [1, 10]) (by kernel_rfl) (by simp) ?_
      refine AllReadyH.cons (i := 1) rfl (fun K hK => ?_) (AllReadyH.cons (i := 10) rfl (fun K hK => ?_) AllReadyH.nil)
      · have g1 : (wd).cell? ⟨G, 1, none⟩ = some (.slice pv i cv) := HG1.out _ HBwd.out
        go_simp
        refine hK.out _ _ (HSB HBwd.out) (fun hHeld => ?_)
        clear hK K
        refine wpAnyH_ready (rs := [10]) (by kernel_rfl) (by simp) ?_
        refine AllReadyH.cons (i := 10) rfl (fun K hK => ?_) AllReadyH.nil
        go_simp
        refine (H63.out _ HBwd.out).mono ?_
        rintro e v2 ⟨gI, rfl, hrI, hb⟩
        have HRI := Lib.hid hrI
        have HBv2 : Hid (Below wr.heap.size wr v2) := Lib.hid (HBwd.out.trans (hb.mono HBwd.out.size))
        clear hrI hb
        refine hK.out _ _ (HSB HBv2.out) (fun hHeld => ?_)
        clear hK K
        refine wpAnyH_ready (rs := [11]) (by kernel_rfl) (by simp) ?_
        refine AllReadyH.cons (i := 11) rfl (fun K hK => ?_) AllReadyH.nil
        go_simp
        refine (H62.out _ _ HBv2.out HRI.out).mono ?_
        rintro e v3 ⟨gT, rfl, hrT, hb⟩
        have HRT := Lib.hid hrT
        have HBv3 : Hid (Below wr.heap.size wr v3) := Lib.hid (HBv2.out.trans (hb.mono HBv2.out.size))
        clear hrT hb
        refine hK.out _ _ (HSB HBv3.out) (fun hHeld => ?_)
        clear hK K
        refine wpAnyH_ready (rs := [12]) (by kernel_rfl) (by simp) ?_
        refine AllReadyH.cons (i := 12) rfl (fun K hK => ?_) AllReadyH.nil
        go_simp
        refine (H53.out _ _ HBv3.out HRT.out).mono ?_
        rintro e v4 ⟨rfl, hb⟩
        have HBv4 : Hid (Below wr.heap.size wr v4) := Lib.hid (HBv3.out.trans (hb.mono HBv3.out.size))
        clear hb
        refine hK.out _ _ (HSB HBv4.out) (fun hHeld => ?_)
        clear hK K
        refine wpAnyH_take (i := 13) (v := ?v10) rfl (by kernel_rfl) (by kernel_rfl) (by kernel_rfl) (fun _ _ _ h => h) (Or.inl ⟨by rfl, ?hy10⟩) (by assumption) ?rest10
        case hy10 =>
          intro W' hSw
          obtain ⟨e0, e1, e2, e3⟩ := hSw
          go_simp
          with_reducible rfl
        simp only [List.getElem_toArray, List.getElem_cons_zero, List.getElem_cons_succ, Act.put, List.setIfInBounds_toArray, List.set_cons_zero, List.set_cons_succ]
        refine wpAnyH_take (i := 14) (v := ?v11) rfl (by kernel_rfl) (by kernel_rfl) (by kernel_rfl) (fun _ _ _ h => h) (Or.inl ⟨by rfl, ?hy11⟩) (by assumption) ?rest11
        case hy11 =>
          intro W' hSw
          obtain ⟨e0, e1, e2, e3⟩ := hSw
          go_simp
          with_reducible rfl
        simp only [List.getElem_toArray, List.getElem_cons_zero, List.getElem_cons_succ, Act.put, List.setIfInBounds_toArray, List.set_cons_zero, List.set_cons_succ]
        refine wpAnyH_ready (rs := [15]) (by kernel_rfl) (by simp) ?_
        refine AllReadyH.cons (i := 15) rfl (fun K hK => ?_) AllReadyH.nil
        obtain ⟨v5, HUv5⟩ : ∃ U, Hid ((v4).alloc (.cells #[.string ⟨List.toArray xs⟩] 9) = U) := ⟨_, Lib.hid rfl⟩
        obtain ⟨gU, HgU⟩ : ∃ g, Hid (g = (v4).heap.size) := ⟨_, Lib.hid rfl⟩
        have HBv5 : Hid (Below wr.heap.size wr v5) := Lib.hid (by rw [← HUv5.out]; exact HBv4.out.alloc HBv4.out.size _)
        have HUC : Hid (v5.cell? ⟨gU, 0, none⟩ = some (.string ⟨List.toArray xs⟩)) := Lib.hid (by
          rw [← HUv5.out, HgU.out]; have := World.alloc_heap_new (v4) (.cells #[.string ⟨List.toArray xs⟩] 9); unfold World.cell?; simp only [this]; rfl)
        go_simp
        try rw [HUv5.out]
        try rw [← HgU.out]
        refine hK.out _ _ (HSB HBv5.out) (fun hHeld => ?_)
        clear hK K
        refine wpAnyH_ready (rs := [16]) (by kernel_rfl) (by simp) ?_
        refine AllReadyH.cons (i := 16) rfl (fun K hK => ?_) AllReadyH.nil
        rw [if_pos (by rfl)]
        have HOU := Lib.hid (HOWN.out _ HBv5.out)
        refine op_append_1s (.tmp 29) (.tmp 43) rfl W5.heap.size pv cv i ((List.range i).map F) rfl HOU.out gU xs rfl HUC.out hi2 (HU5.out _ HBv5.out) ?_
        intro gv cv' w9 hown9 hg9
        obtain ⟨hst, hG9⟩ := HO.out.step (by simp) HXR.out HGE.out HBv5.out hown9 hg9
        have hold9 := hst.of_set
        have hstep : (List.range i).map F ++ [xs] = (List.range (i + 1)).map F := by rw [List.range_succ, List.map_append, List.map_singleton, HYE.out]
        rw [hstep] at hst
        have HST := Lib.hid hst
        have k1 : w9.cell? ⟨G, 1, none⟩ = some (.slice pv i cv) := by simp [World.cell?, hG9]
        have z1 : w9.frozen? ⟨G, 1, none⟩ = false := by simp [World.frozen?, hG9]
        have HS9 := Lib.hid (HSO.out _ hold9 (by simp [World.cell?, hG9]))
        have HS10 := Lib.hid (HSO.out _ HST.out.old (HST.out.box0))
        clear hst hG9 hown9 hg9 hstep hold9
        refine hK.out _ _ HS9.out (fun hHeld => ?_)
        clear hK K
        refine wpAnyH_take (i := 17) (v := ?v12) rfl (by kernel_rfl) (by kernel_rfl) (by kernel_rfl) (fun _ _ _ h => h) (Or.inl ⟨by rfl, ?hy12⟩) (by assumption) ?rest12
        case hy12 =>
          intro W' hSw
          obtain ⟨e0, e1, e2, e3⟩ := hSw
          go_simp
          with_reducible rfl
        simp only [List.getElem_toArray, List.getElem_cons_zero, List.getElem_cons_succ, Act.put, List.setIfInBounds_toArray, List.set_cons_zero, List.set_cons_succ]
        refine wpAnyH_ready (rs := [18]) (by kernel_rfl) (by simp) ?_
        refine AllReadyH.cons (i := 18) rfl (fun K hK => ?_) AllReadyH.nil
        go_simp
        refine hK.out _ _ HS10.out (fun hHeld => ?_)
        clear hK K
        refine wpAnyH_done (by kernel_rfl) ?_ _
        refine NoPanic.normal ?_
        clear hHeld
        go_wp2_with fail
        go_roundw
        case rel => exact ⟨i + 1, by omega, by go_num, HST⟩
        case measure => simp [Go.RowKit.intOf]; omega
      · go_simp
        refine (H63.out _ HBwd.out).mono ?_
        rintro e v1 ⟨gI, rfl, hrI, hb⟩
        have HRI := Lib.hid hrI
        have HBv1 : Hid (Below wr.heap.size wr v1) := Lib.hid (HBwd.out.trans (hb.mono HBwd.out.size))
        clear hrI hb
        refine hK.out _ _ (HSB HBv1.out) (fun hHeld => ?_)
        clear hK K
        refine wpAnyH_ready (rs := [1, 11]) (by kernel_rfl) (by simp) ?_
        refine AllReadyH.cons (i := 1) rfl (fun K hK => ?_) (AllReadyH.cons (i := 11) rfl (fun K hK => ?_) AllReadyH.nil)
        · have g1 : (v1).cell? ⟨G, 1, none⟩ = some (.slice pv i cv) := HG1.out _ HBv1.out
          go_simp
          refine hK.out _ _ (HSB HBv1.out) (fun hHeld => ?_)
          clear hK K
          refine wpAnyH_ready (rs := [11]) (by kernel_rfl) (by simp) ?_
          refine AllReadyH.cons (i := 11) rfl (fun K hK => ?_) AllReadyH.nil
          go_simp
          refine (H62.out _ _ HBv1.out HRI.out).mono ?_
          rintro e v7 ⟨gT, rfl, hrT, hb⟩
          have HRT := Lib.hid hrT
          have HBv7 : Hid (Below wr.heap.size wr v7) := Lib.hid (HBv1.out.trans (hb.mono HBv1.out.size))
          clear hrT hb
          refine hK.out _ _ (HSB HBv7.out) (fun hHeld => ?_)
          clear hK K
          refine wpAnyH_ready (rs := [12]) (by kernel_rfl) (by simp) ?_
          refine AllReadyH.cons (i := 12) rfl (fun K hK => ?_) AllReadyH.nil
          go_simp
          refine (H53.out _ _ HBv7.out HRT.out).mono ?_
          rintro e v8 ⟨rfl, hb⟩
          have HBv8 : Hid (Below wr.heap.size wr v8) := Lib.hid (HBv7.out.trans (hb.mono HBv7.out.size))
          clear hb
          refine hK.out _ _ (HSB HBv8.out) (fun hHeld => ?_)
          clear hK K
          refine wpAnyH_take (i := 13) (v := ?v13) rfl (by kernel_rfl) (by kernel_rfl) (by kernel_rfl) (fun _ _ _ h => h) (Or.inl ⟨by rfl, ?hy13⟩) (by assumption) ?rest13
          case hy13 =>
            intro W' hSw
            obtain ⟨e0, e1, e2, e3⟩ := hSw
            go_simp
            with_reducible rfl
          simp only [List.getElem_toArray, List.getElem_cons_zero, List.getElem_cons_succ, Act.put, List.setIfInBounds_toArray, List.set_cons_zero, List.set_cons_succ]
          refine wpAnyH_take (i := 14) (v := ?v14) rfl (by kernel_rfl) (by kernel_rfl) (by kernel_rfl) (fun _ _ _ h => h) (Or.inl ⟨by rfl, ?hy14⟩) (by assumption) ?rest14
          case hy14 =>
            intro W' hSw
            obtain ⟨e0, e1, e2, e3⟩ := hSw
            go_simp
            with_reducible rfl
          simp only [List.getElem_toArray, List.getElem_cons_zero, List.getElem_cons_succ, Act.put, List.setIfInBounds_toArray, List.set_cons_zero, List.set_cons_succ]
          refine wpAnyH_ready (rs := [15]) (by kernel_rfl) (by simp) ?_
          refine AllReadyH.cons (i := 15) rfl (fun K hK => ?_) AllReadyH.nil
          obtain ⟨v9, HUv9⟩ : ∃ U, Hid ((v8).alloc (.cells #[.string ⟨List.toArray xs⟩] 9) = U) := ⟨_, Lib.hid rfl⟩
          obtain ⟨gU, HgU⟩ : ∃ g, Hid (g = (v8).heap.size) := ⟨_, Lib.hid rfl⟩
          have HBv9 : Hid (Below wr.heap.size wr v9) := Lib.hid (by rw [← HUv9.out]; exact HBv8.out.alloc HBv8.out.size _)
          have HUC : Hid (v9.cell? ⟨gU, 0, none⟩ = some (.string ⟨List.toArray xs⟩)) := Lib.hid (by
            rw [← HUv9.out, HgU.out]; have := World.alloc_heap_new (v8) (.cells #[.string ⟨List.toArray xs⟩] 9); unfold World.cell?; simp only [this]; rfl)
          go_simp
          try rw [HUv9.out]
          try rw [← HgU.out]
          refine hK.out _ _ (HSB HBv9.out) (fun hHeld => ?_)
          clear hK K
          refine wpAnyH_ready (rs := [16]) (by kernel_rfl) (by simp) ?_
          refine AllReadyH.cons (i := 16) rfl (fun K hK => ?_) AllReadyH.nil
          rw [if_pos (by rfl)]
          have HOU := Lib.hid (HOWN.out _ HBv9.out)
          refine op_append_1s (.tmp 29) (.tmp 43) rfl W5.heap.size pv cv i ((List.range i).map F) rfl HOU.out gU xs rfl HUC.out hi2 (HU5.out _ HBv9.out) ?_
          intro gv cv' w9 hown9 hg9
          obtain ⟨hst, hG9⟩ := HO.out.step (by simp) HXR.out HGE.out HBv9.out hown9 hg9
          have hold9 := hst.of_set
          have hstep : (List.range i).map F ++ [xs] = (List.range (i + 1)).map F := by rw [List.range_succ, List.map_append, List.map_singleton, HYE.out]
          rw [hstep] at hst
          have HST := Lib.hid hst
          have k1 : w9.cell? ⟨G, 1, none⟩ = some (.slice pv i cv) := by simp [World.cell?, hG9]
          have z1 : w9.frozen? ⟨G, 1, none⟩ = false := by simp [World.frozen?, hG9]
          have HS9 := Lib.hid (HSO.out _ hold9 (by simp [World.cell?, hG9]))
          have HS10 := Lib.hid (HSO.out _ HST.out.old (HST.out.box0))
          clear hst hG9 hown9 hg9 hstep hold9
          refine hK.out _ _ HS9.out (fun hHeld => ?_)
          clear hK K
          refine wpAnyH_take (i := 17) (v := ?v15) rfl (by kernel_rfl) (by kernel_rfl) (by kernel_rfl) (fun _ _ _ h => h) (Or.inl ⟨by rfl, ?hy15⟩) (by assumption) ?rest15
          case hy15 =>
            intro W' hSw
            obtain ⟨e0, e1, e2, e3⟩ := hSw
            go_simp
            with_reducible rfl
          simp only [List.getElem_toArray, List.getElem_cons_zero, List.getElem_cons_succ, Act.put, List.setIfInBounds_toArray, List.set_cons_zero, List.set_cons_succ]
          refine wpAnyH_ready (rs := [18]) (by kernel_rfl) (by simp) ?_
          refine AllReadyH.cons (i := 18) rfl (fun K hK => ?_) AllReadyH.nil
          go_simp
          refine hK.out _ _ HS10.out (fun hHeld => ?_)
          clear hK K
          refine wpAnyH_done (by kernel_rfl) ?_ _
          refine NoPanic.normal ?_
          clear hHeld
          go_wp2_with fail
          go_roundw
          case rel => exact ⟨i + 1, by omega, by go_num, HST⟩
          case measure => simp [Go.RowKit.intOf]; omega
        · go_simp
          refine (H62.out _ _ HBv1.out HRI.out).mono ?_
          rintro e v6 ⟨gT, rfl, hrT, hb⟩
          have HRT := Lib.hid hrT
          have HBv6 : Hid (Below wr.heap.size wr v6) := Lib.hid (HBv1.out.trans (hb.mono HBv1.out.size))
          clear hrT hb
          refine hK.out _ _ (HSB HBv6.out) (fun hHeld => ?_)
          clear hK K
          refine wpAnyH_ready (rs := [1, 12]) (by kernel_rfl) (by simp) ?_
          refine AllReadyH.cons (i := 1) rfl (fun K hK => ?_) (AllReadyH.cons (i := 12) rfl (fun K hK => ?_) AllReadyH.nil)
          · have g1 : (v6).cell? ⟨G, 1, none⟩ = some (.slice pv i cv) := HG1.out _ HBv6.out
            go_simp
            refine hK.out _ _ (HSB HBv6.out) (fun hHeld => ?_)
            clear hK K
            refine wpAnyH_ready (rs := [12]) (by kernel_rfl) (by simp) ?_
            refine AllReadyH.cons (i := 12) rfl (fun K hK => ?_) AllReadyH.nil
            go_simp
            refine (H53.out _ _ HBv6.out HRT.out).mono ?_
            rintro e v11 ⟨rfl, hb⟩
            have HBv11 : Hid (Below wr.heap.size wr v11) := Lib.hid (HBv6.out.trans (hb.mono HBv6.out.size))
            clear hb
            refine hK.out _ _ (HSB HBv11.out) (fun hHeld => ?_)
            clear hK K
            refine wpAnyH_take (i := 13) (v := ?v16) rfl (by kernel_rfl) (by kernel_rfl) (by kernel_rfl) (fun _ _ _ h => h) (Or.inl ⟨by rfl, ?hy16⟩) (by assumption) ?rest16
            case hy16 =>
              intro W' hSw
              obtain ⟨e0, e1, e2, e3⟩ := hSw
              go_simp
              with_reducible rfl
            simp only [List.getElem_toArray, List.getElem_cons_zero, List.getElem_cons_succ, Act.put, List.setIfInBounds_toArray, List.set_cons_zero, List.set_cons_succ]
            refine wpAnyH_take (i := 14) (v := ?v17) rfl (by kernel_rfl) (by kernel_rfl) (by kernel_rfl) (fun _ _ _ h => h) (Or.inl ⟨by rfl, ?hy17⟩) (by assumption) ?rest17
            case hy17 =>
              intro W' hSw
              obtain ⟨e0, e1, e2, e3⟩ := hSw
              go_simp
              with_reducible rfl
            simp only [List.getElem_toArray, List.getElem_cons_zero, List.getElem_cons_succ, Act.put, List.setIfInBounds_toArray, List.set_cons_zero, List.set_cons_succ]
            refine wpAnyH_ready (rs := [15]) (by kernel_rfl) (by simp) ?_
            refine AllReadyH.cons (i := 15) rfl (fun K hK => ?_) AllReadyH.nil
            obtain ⟨v12, HUv12⟩ : ∃ U, Hid ((v11).alloc (.cells #[.string ⟨List.toArray xs⟩] 9) = U) := ⟨_, Lib.hid rfl⟩
            obtain ⟨gU, HgU⟩ : ∃ g, Hid (g = (v11).heap.size) := ⟨_, Lib.hid rfl⟩
            have HBv12 : Hid (Below wr.heap.size wr v12) := Lib.hid (by rw [← HUv12.out]; exact HBv11.out.alloc HBv11.out.size _)
            have HUC : Hid (v12.cell? ⟨gU, 0, none⟩ = some (.string ⟨List.toArray xs⟩)) := Lib.hid (by
              rw [← HUv12.out, HgU.out]; have := World.alloc_heap_new (v11) (.cells #[.string ⟨List.toArray xs⟩] 9); unfold World.cell?; simp only [this]; rfl)
            go_simp
            try rw [HUv12.out]
            try rw [← HgU.out]
            refine hK.out _ _ (HSB HBv12.out) (fun hHeld => ?_)
            clear hK K
            refine wpAnyH_ready (rs := [16]) (by kernel_rfl) (by simp) ?_
            refine AllReadyH.cons (i := 16) rfl (fun K hK => ?_) AllReadyH.nil
            rw [if_pos (by rfl)]
            have HOU := Lib.hid (HOWN.out _ HBv12.out)
            refine op_append_1s (.tmp 29) (.tmp 43) rfl W5.heap.size pv cv i ((List.range i).map F) rfl HOU.out gU xs rfl HUC.out hi2 (HU5.out _ HBv12.out) ?_
            intro gv cv' w9 hown9 hg9
            obtain ⟨hst, hG9⟩ := HO.out.step (by simp) HXR.out HGE.out HBv12.out hown9 hg9
            have hold9 := hst.of_set
            have hstep : (List.range i).map F ++ [xs] = (List.range (i + 1)).map F := by rw [List.range_succ, List.map_append, List.map_singleton, HYE.out]
            rw [hstep] at hst
            have HST := Lib.hid hst
            have k1 : w9.cell? ⟨G, 1, none⟩ = some (.slice pv i cv) := by simp [World.cell?, hG9]
            have z1 : w9.frozen? ⟨G, 1, none⟩ = false := by simp [World.frozen?, hG9]
            have HS9 := Lib.hid (HSO.out _ hold9 (by simp [World.cell?, hG9]))
            have HS10 := Lib.hid (HSO.out _ HST.out.old (HST.out.box0))
            clear hst hG9 hown9 hg9 hstep hold9
            refine hK.out _ _ HS9.out (fun hHeld => ?_)
            clear hK K
            refine wpAnyH_take (i := 17) (v := ?v18) rfl (by kernel_rfl) (by kernel_rfl) (by kernel_rfl) (fun _ _ _ h => h) (Or.inl ⟨by rfl, ?hy18⟩) (by assumption) ?rest18
            case hy18 =>
              intro W' hSw
              obtain ⟨e0, e1, e2, e3⟩ := hSw
              go_simp
              with_reducible rfl
            simp only [List.getElem_toArray, List.getElem_cons_zero, List.getElem_cons_succ, Act.put, List.setIfInBounds_toArray, List.set_cons_zero, List.set_cons_succ]
            refine wpAnyH_ready (rs := [18]) (by kernel_rfl) (by simp) ?_
            refine AllReadyH.cons (i := 18) rfl (fun K hK => ?_) AllReadyH.nil
            go_simp
            refine hK.out _ _ HS10.out (fun hHeld => ?_)
            clear hK K
            refine wpAnyH_done (by kernel_rfl) ?_ _
            refine NoPanic.normal ?_
            clear hHeld
            go_wp2_with fail
            go_roundw
            case rel => exact ⟨i + 1, by omega, by go_num, HST⟩
            case measure => simp [Go.RowKit.intOf]; omega
          · go_simp
            refine (H53.out _ _ HBv6.out HRT.out).mono ?_
            rintro e v10 ⟨rfl, hb⟩
            have HBv10 : Hid (Below wr.heap.size wr v10) := Lib.hid (HBv6.out.trans (hb.mono HBv6.out.size))
            clear hb
            refine hK.out _ _ (HSB HBv10.out) (fun hHeld => ?_)
            clear hK K
            refine wpAnyH_take (i := 13) (v := ?v19) rfl (by kernel_rfl) (by kernel_rfl) (by kernel_rfl) (fun _ _ _ h => h) (Or.inl ⟨by rfl, ?hy19⟩) (by assumption) ?rest19
            case hy19 =>
              intro W' hSw
              obtain ⟨e0, e1, e2, e3⟩ := hSw
              go_simp
              with_reducible rfl
            simp only [List.getElem_toArray, List.getElem_cons_zero, List.getElem_cons_succ, Act.put, List.setIfInBounds_toArray, List.set_cons_zero, List.set_cons_succ]
            refine wpAnyH_take (i := 14) (v := ?v20) rfl (by kernel_rfl) (by kernel_rfl) (by kernel_rfl) (fun _ _ _ h => h) (Or.inl ⟨by rfl, ?hy20⟩) (by assumption) ?rest20
            case hy20 =>
              intro W' hSw
              obtain ⟨e0, e1, e2, e3⟩ := hSw
              go_simp
              with_reducible rfl
            simp only [List.getElem_toArray, List.getElem_cons_zero, List.getElem_cons_succ, Act.put, List.setIfInBounds_toArray, List.set_cons_zero, List.set_cons_succ]
            refine wpAnyH_ready (rs := [1, 15]) (by kernel_rfl) (by simp) ?_
            refine AllReadyH.cons (i := 1) rfl (fun K hK => ?_) (AllReadyH.cons (i := 15) rfl (fun K hK => ?_) AllReadyH.nil)
            · have g1 : (v10).cell? ⟨G, 1, none⟩ = some (.slice pv i cv) := HG1.out _ HBv10.out
              go_simp
              refine hK.out _ _ (HSB HBv10.out) (fun hHeld => ?_)
              clear hK K
              refine wpAnyH_ready (rs := [15]) (by kernel_rfl) (by simp) ?_
              refine AllReadyH.cons (i := 15) rfl (fun K hK => ?_) AllReadyH.nil
              obtain ⟨v14, HUv14⟩ : ∃ U, Hid ((v10).alloc (.cells #[.string ⟨List.toArray xs⟩] 9) = U) := ⟨_, Lib.hid rfl⟩
              obtain ⟨gU, HgU⟩ : ∃ g, Hid (g = (v10).heap.size) := ⟨_, Lib.hid rfl⟩
              have HBv14 : Hid (Below wr.heap.size wr v14) := Lib.hid (by rw [← HUv14.out]; exact HBv10.out.alloc HBv10.out.size _)
              have HUC : Hid (v14.cell? ⟨gU, 0, none⟩ = some (.string ⟨List.toArray xs⟩)) := Lib.hid (by
                rw [← HUv14.out, HgU.out]; have := World.alloc_heap_new (v10) (.cells #[.string ⟨List.toArray xs⟩] 9); unfold World.cell?; simp only [this]; rfl)
              go_simp
              try rw [HUv14.out]
              try rw [← HgU.out]
              refine hK.out _ _ (HSB HBv14.out) (fun hHeld => ?_)
              clear hK K
              refine wpAnyH_ready (rs := [16]) (by kernel_rfl) (by simp) ?_
              refine AllReadyH.cons (i := 16) rfl (fun K hK => ?_) AllReadyH.nil
              rw [if_pos (by rfl)]
              have HOU := Lib.hid (HOWN.out _ HBv14.out)
              refine op_append_1s (.tmp 29) (.tmp 43) rfl W5.heap.size pv cv i ((List.range i).map F) rfl HOU.out gU xs rfl HUC.out hi2 (HU5.out _ HBv14.out) ?_
              intro gv cv' w9 hown9 hg9
              obtain ⟨hst, hG9⟩ := HO.out.step (by simp) HXR.out HGE.out HBv14.out hown9 hg9
              have hold9 := hst.of_set
              have hstep : (List.range i).map F ++ [xs] = (List.range (i + 1)).map F := by rw [List.range_succ, List.map_append, List.map_singleton, HYE.out]
              rw [hstep] at hst
              have HST := Lib.hid hst
              have k1 : w9.cell? ⟨G, 1, none⟩ = some (.slice pv i cv) := by simp [World.cell?, hG9]
              have z1 : w9.frozen? ⟨G, 1, none⟩ = false := by simp [World.frozen?, hG9]
              have HS9 := Lib.hid (HSO.out _ hold9 (by simp [World.cell?, hG9]))
              have HS10 := Lib.hid (HSO.out _ HST.out.old (HST.out.box0))
              clear hst hG9 hown9 hg9 hstep hold9
              refine hK.out _ _ HS9.out (fun hHeld => ?_)
              clear hK K
              refine wpAnyH_take (i := 17) (v := ?v21) rfl (by kernel_rfl) (by kernel_rfl) (by kernel_rfl) (fun _ _ _ h => h) (Or.inl ⟨by rfl, ?hy21⟩) (by assumption) ?rest21
              case hy21 =>
                intro W' hSw
                obtain ⟨e0, e1, e2, e3⟩ := hSw
                go_simp
                with_reducible rfl
              simp only [List.getElem_toArray, List.getElem_cons_zero, List.getElem_cons_succ, Act.put, List.setIfInBounds_toArray, List.set_cons_zero, List.set_cons_succ]
              refine wpAnyH_ready (rs := [18]) (by kernel_rfl) (by simp) ?_
              refine AllReadyH.cons (i := 18) rfl (fun K hK => ?_) AllReadyH.nil
              go_simp
              refine hK.out _ _ HS10.out (fun hHeld => ?_)
              clear hK K
              refine wpAnyH_done (by kernel_rfl) ?_ _
              refine NoPanic.normal ?_
              clear hHeld
              go_wp2_with fail
              go_roundw
              case rel => exact ⟨i + 1, by omega, by go_num, HST⟩
              case measure => simp [Go.RowKit.intOf]; omega
            · obtain ⟨v13, HUv13⟩ : ∃ U, Hid ((v10).alloc (.cells #[.string ⟨List.toArray xs⟩] 9) = U) := ⟨_, Lib.hid rfl⟩
              obtain ⟨gU, HgU⟩ : ∃ g, Hid (g = (v10).heap.size) := ⟨_, Lib.hid rfl⟩
              have HBv13 : Hid (Below wr.heap.size wr v13) := Lib.hid (by rw [← HUv13.out]; exact HBv10.out.alloc HBv10.out.size _)
              have HUC : Hid (v13.cell? ⟨gU, 0, none⟩ = some (.string ⟨List.toArray xs⟩)) := Lib.hid (by
                rw [← HUv13.out, HgU.out]; have := World.alloc_heap_new (v10) (.cells #[.string ⟨List.toArray xs⟩] 9); unfold World.cell?; simp only [this]; rfl)
              go_simp
              try rw [HUv13.out]
              try rw [← HgU.out]
              refine hK.out _ _ (HSB HBv13.out) (fun hHeld => ?_)
              clear hK K
              refine wpAnyH_ready (rs := [1]) (by kernel_rfl) (by simp) ?_
              refine AllReadyH.cons (i := 1) rfl (fun K hK => ?_) AllReadyH.nil
              have g1 : (v13).cell? ⟨G, 1, none⟩ = some (.slice pv i cv) := HG1.out _ HBv13.out
              go_simp
              refine hK.out _ _ (HSB HBv13.out) (fun hHeld => ?_)
              clear hK K
              refine wpAnyH_ready (rs := [16]) (by kernel_rfl) (by simp) ?_
              refine AllReadyH.cons (i := 16) rfl (fun K hK => ?_) AllReadyH.nil
              rw [if_pos (by rfl)]
              have HOU := Lib.hid (HOWN.out _ HBv13.out)
              refine op_append_1s (.tmp 29) (.tmp 43) rfl W5.heap.size pv cv i ((List.range i).map F) rfl HOU.out gU xs rfl HUC.out hi2 (HU5.out _ HBv13.out) ?_
              intro gv cv' w9 hown9 hg9
              obtain ⟨hst, hG9⟩ := HO.out.step (by simp) HXR.out HGE.out HBv13.out hown9 hg9
              have hold9 := hst.of_set
              have hstep : (List.range i).map F ++ [xs] = (List.range (i + 1)).map F := by rw [List.range_succ, List.map_append, List.map_singleton, HYE.out]
              rw [hstep] at hst
              have HST := Lib.hid hst
              have k1 : w9.cell? ⟨G, 1, none⟩ = some (.slice pv i cv) := by simp [World.cell?, hG9]
              have z1 : w9.frozen? ⟨G, 1, none⟩ = false := by simp [World.frozen?, hG9]
              have HS9 := Lib.hid (HSO.out _ hold9 (by simp [World.cell?, hG9]))
              have HS10 := Lib.hid (HSO.out _ HST.out.old (HST.out.box0))
              clear hst hG9 hown9 hg9 hstep hold9
              refine hK.out _ _ HS9.out (fun hHeld => ?_)
              clear hK K
              refine wpAnyH_take (i := 17) (v := ?v22) rfl (by kernel_rfl) (by kernel_rfl) (by kernel_rfl) (fun _ _ _ h => h) (Or.inl ⟨by rfl, ?hy22⟩) (by assumption) ?rest22
              case hy22 =>
                intro W' hSw
                obtain ⟨e0, e1, e2, e3⟩ := hSw
                go_simp
                with_reducible rfl
              simp only [List.getElem_toArray, List.getElem_cons_zero, List.getElem_cons_succ, Act.put, List.setIfInBounds_toArray, List.set_cons_zero, List.set_cons_succ]
              refine wpAnyH_ready (rs := [18]) (by kernel_rfl) (by simp) ?_
              refine AllReadyH.cons (i := 18) rfl (fun K hK => ?_) AllReadyH.nil
              go_simp
              refine hK.out _ _ HS10.out (fun hHeld => ?_)
              clear hK K
              refine wpAnyH_done (by kernel_rfl) ?_ _
              refine NoPanic.normal ?_
              clear hHeld
              go_wp2_with fail
              go_roundw
              case rel => exact ⟨i + 1, by omega, by go_num, HST⟩
              case measure => simp [Go.RowKit.intOf]; omega
    · obtain rfl : i = N := by omega
      have ilt : ¬ (i : Int) < (i : Int) := by omega
      have g1 : wr.cell? ⟨G, 1, none⟩ = some (.slice pv i cv) := by simp [World.cell?, hx]
      obtain ⟨hrd, hrb⟩ := HO.out.reads (by simp) hx
      have y6 : wr.heap[A + 1]? = some (.cells #[.slice none 0 0, .slice none 0 0] 25 (0, 0)) := (HO.out.old.block (A + 1) (Array.getElem?_eq_some_iff.1 HY5.out).1 (by intro e; injection e with e; have := HAG.out.1; omega)).trans HY5.out
      have hq6 : RdN wr (some ⟨gc, 0, none⟩) (cnts cuts) := (HXA.out wr HO.out.old).2.2
      clear hown hge
      have r0 : wr.cell? ⟨A + 1, 0, none⟩ = some (.slice none 0 0) := by simp [World.cell?, y6]
      have r1 : wr.cell? ⟨A + 1, 1, none⟩ = some (.slice none 0 0) := by simp [World.cell?, y6]
      have z0 : wr.frozen? ⟨A + 1, 0, none⟩ = false := by simp [World.frozen?, y6]
      have z1 : wr.frozen? ⟨A + 1, 1, none⟩ = false := by simp [World.frozen?, y6]
      have hE1 := heap_set wr (A + 1) 0 (.slice (some ⟨gc, 0, none⟩) k k) _ _ y6
      have hE2 := heap_set _ (A + 1) 1 (.slice pv i cv) _ _ hE1
      obtain ⟨W7, hW7⟩ : ∃ W7, (wr.setCell ⟨A + 1, 0, none⟩ (.slice (some ⟨gc, 0, none⟩) k k)).setCell ⟨A + 1, 1, none⟩ (.slice pv i cv) = W7 := ⟨_, rfl⟩
      rw [hW7] at hE2
      have k0 : W7.cell? ⟨A + 1, 0, none⟩ = some (.slice (some ⟨gc, 0, none⟩) k k) := by simp [World.cell?, hE2]
      have k1 : W7.cell? ⟨A + 1, 1, none⟩ = some (.slice pv i cv) := by simp [World.cell?, hE2]
      have hg67 : wr.grownBy W7 (some (A + 1)) := by rw [← hW7]; exact (gb_set _ _ _ _).trans (gb_set _ _ _ _)
      have HFIN : Hid (ArrPost w 0 (cnts cuts) ((List.range i).map F) (.returned (.tuple #[.agg #[.slice (some ⟨gc, 0, none⟩) k k, .slice pv i cv], .int .i64 0])) W7) := Lib.hid (by
          refine ⟨?_, some ⟨gc, 0, none⟩, pv, k, k, i, cv, rfl, HCN.out, by simp, ?_, ?_⟩
          · have o2 : w.grownBy W7 none := gb_trans_new (gb_of_below HBR.out none) hg67 HRB.out
            exact ⟨o2.os, o2.tape, o2.output, o2.size, fun k hk => o2.block k hk (by intro e; cases e)⟩
          · refine hq6.keep hg67.size (fun b off e h0 => ?_)
            obtain ⟨b', off', x, e', hb', -⟩ := hq6.at h0
            rw [e] at e'; cases e'
            cases e
            exact hg67.block gc hb' (by intro e2; injection e2 with e2; have := HAG.out.2.2.1; omega)
          · refine hrd.keep hg67.size (fun b off e h0 => ?_)
            obtain ⟨b', off', x, e', hb', -⟩ := hrd.at h0
            rw [e] at e'; cases e'
            exact hg67.block b hb' (by intro e2; injection e2 with e2; have := hrb b off e h0; have := HAG.out.1; omega))
      clear hrd hrb hq6 hg67 hE1 hE2 y6 hx
      go_wp2_with fail
      refine (HCW.out).mono ?_
      rintro e w3' ⟨rfl, rfl⟩
      go_wp2_with fail
      (try simp only [Exit.inBlock, Exit.then])
      refine bodyPost_ret (v := .tuple #[.agg #[.slice (some ⟨gc, 0, none⟩) k k, .slice pv i cv], .int .i64 0]) ?_ rfl HFIN.out
      rw [results_cell_tmp rfl]
      go_simp
end Go.Proofs.YtigidchicloleaaGreatDoor.Arr
