/- At on both sides; the document's copied. -/
import Derived.Test.YtigidchicloleaaGreatDoorHB
set_option maxHeartbeats 2000000
set_option maxRecDepth 100000
namespace Go.Proofs.YtigidchicloleaaGreatDoor.Arr
open Go.RowKit Go.Shelf
open Go.Lib
attribute [local go_sem] Oper.semAt_some
theorem copied_any (p : Option Addr) (n c : Nat) (s : List Nat) (w : World) (hs : Hid (s.length = n)) (hn : n ≤ 4) (hb : Hid (∀ x ∈ s, x ≤ 1024)) (h : RdN w p s) :
    Calls Tryz.prog 52 #[.slice p n c] w (ClonePost n s w) := by
  have H := Lib.hid h
  have HBa : Hid (Below w.heap.size w (w.alloc (.cells #[] 3))) := Lib.hid ((Below.refl _ w).alloc (Nat.le_refl _) _)
  have hown : Hid ((w.alloc (.cells #[] 3)).ownsRow w.heap.size 3 1 (.slice (some ⟨w.heap.size, 0, none⟩) 0 0) 0 (([] : List Nat).map (fun x => Value.int .i64 ((x : Nat) : Int)))) := Lib.hid ⟨rfl, .inr ⟨w.heap.size, 0, #[], rfl, Nat.le_refl _, World.alloc_heap_new w _, Nat.le_refl _, Nat.zero_le _, rfl, rfl⟩⟩
  have hsz : Hid (w.heap.size ≤ (w.alloc (.cells #[] 3)).heap.size) := Lib.hid (by simp)
  clear h
  go_enter Tryz.func52, Tryz.ntmps52
  go_wp2_with (at_builtin; refine wpList_append_ns rfl (.tmp 3) (.tmp 4) rfl w.heap.size _ [] rfl hown.out p n c s rfl hs.out (H.out.below HBa.out) (by simp; omega) hsz.out ?_)
  intro v5 w5 hown5 hg5 hge5
  obtain ⟨q, d, rfl, hq1, hq2, hq3, hq4⟩ := rdn_own (s := s) (n := n) hs.out hb.out (by simpa using hown5)
  have hfin : Hid (ClonePost n s w (.returned (.slice q n d)) w5) := Lib.hid ⟨HBa.out.trans ((Below.refl _ _).grown hg5 hsz.out (fun k e => own_ge' hown.out e)), q, d, rfl, hq1, hq2, hq3, hq4⟩
  clear hown5 hg5 hge5 hq1 hq2 hq3 hq4
  go_wp2_with fail
  go_ret
  exact hfin.out
def atV (s : List Int) (l : List (List UInt8)) (ix : List Int) : List UInt8 × Int :=
  if validA s l = false then ([], 60) else if ixOk (s.map Int.toNat) ix = false then ([], 61) else (l.getD (plc (s.map Int.toNat) (ix.map Int.toNat) 0) [], 0)
theorem at_any (p q r : Option Addr) (c d f n m k : Nat) (s ix : List Int) (l : List (List UInt8)) (w : World) (he : Env w) (hs : Hid (s.length = n)) (hl : Hid (l.length = m)) (hk : Hid (ix.length = k)) (hm : m ≤ 5000) (hp : Rd w p s) (hq : RdS w q l) (hr : Rd w r ix) :
    Calls Tryz.prog 17 #[.agg #[.slice p n c, .slice q m d], .slice r k f] w fun e w' => Below w.heap.size w w' ∧ e = .returned (.tuple #[.string ⟨List.toArray (atV s l ix).1⟩, .int .i64 (atV s l ix).2]) := by
  have HP := Lib.hid hp
  have HQ := Lib.hid hq
  have HR := Lib.hid hr
  have HE := Lib.hid he
  obtain ⟨A, HA⟩ : ∃ A, Hid (A = w.heap.size) := ⟨_, Lib.hid rfl⟩
  obtain ⟨W0, HW0⟩ : ∃ W0, Hid (w.alloc (.cells #[.slice p n c, .slice q m d] 25) = W0) := ⟨_, Lib.hid rfl⟩
  have HB0 : Hid (Below w.heap.size w W0) := Lib.hid (by rw [← HW0.out]; exact (Below.refl _ w).alloc (Nat.le_refl _) _)
  have HX0 : Hid (W0.heap[A]? = some (.cells #[.slice p n c, .slice q m d] 25 (0, 0))) := Lib.hid (by rw [← HW0.out, HA.out]; exact World.alloc_heap_new w _)
  have HALL : Hid (∀ W, Below W0.heap.size W0 W → (W.cell? ⟨A, 0, none⟩ = some (.slice p n c) ∧ W.cell? ⟨A, 1, none⟩ = some (.slice q m d)) ∧ Below w.heap.size w W) := Lib.hid (fun W hW => by
    have h := (hW.block A (Array.getElem?_eq_some_iff.1 HX0.out).1).trans HX0.out
    exact ⟨⟨by simp [World.cell?, h], by simp [World.cell?, h]⟩, HB0.out.trans (hW.mono HB0.out.size)⟩)
  have HV : Hid (Calls Tryz.prog 21 #[.agg #[.slice p n c, .slice q m d]] W0 fun e w' => Below W0.heap.size W0 w' ∧ e = .returned (.bool (validA s l))) := Lib.hid (valid_any p q c d n m s l W0 (HE.out.below HB0.out) hs hl hm (HP.out.below HB0.out) (HQ.out.below HB0.out))
  obtain ⟨⟨b0, b1⟩, -⟩ := HALL.out W0 (Below.refl _ _)
  clear hp hq hr he
  by_cases hv : validA s l = false
  · have e0 : atV s l ix = ([], 60) := by unfold atV; rw [if_pos hv]
    rw [e0]
    rw [hv] at HV
    clear hv e0
    go_enter Tryz.func17, Tryz.ntmps17
    go_wp2_with fail
    rw [HW0.out, ← HA.out]
    go_wp2_with fail
    refine (HV.out).mono ?_
    rintro e w1 ⟨hb1, rfl⟩
    have HB1 := Lib.hid (HALL.out w1 hb1).2
    clear hb1
    go_wp2_with fail
    go_ret2
    exact ⟨HB1.out, rfl⟩
  have hv2 : validA s l = true := by simpa using hv
  have hvs : vs s = true := by unfold validA at hv2; rw [Bool.and_eq_true] at hv2; exact hv2.1
  obtain ⟨s0, rfl, hsh⟩ := vs_yes hvs
  have hml : m = prod s0 := by
    unfold validA at hv2
    rw [Bool.and_eq_true, Bool.and_eq_true, decide_eq_true_eq, toNat_map, hl.out] at hv2
    exact hv2.2.1
  have hsn : Hid (s0.length = n) := Lib.hid (by rw [← hs.out, List.length_map])
  have hn4 : n ≤ 4 := by rw [← hsn.out]; exact hsh.1
  have HSH := Lib.hid hsh
  have HML := Lib.hid hml
  obtain ⟨u, HU⟩ : ∃ u, Hid (u = ixOk s0 ix) := ⟨_, rfl⟩
  have HIX : Hid (∀ W, Below W0.heap.size W0 W → Calls Tryz.prog 53 #[.slice p n c, .slice r k f] W fun e w' => Below W.heap.size W w' ∧ e = .returned (.bool u)) := Lib.hid (fun W hW => by
    have h2 := (HALL.out W hW).2
    rw [HU.out]
    exact (isix_any p r c f n k s0 ix W hsn hk hn4 (HP.out.below h2) (HR.out.below h2)).mono (fun e w' h => ⟨by have e := h.1; subst e; exact Below.refl _ _, h.2⟩))
  rw [hv2] at HV
  by_cases hu : u = false
  · subst hu
    have e0 : atV (s0.map Int.ofNat) l ix = ([], 61) := by unfold atV; rw [if_neg (by rw [hv2]; simp), toNat_map, if_pos HU.out.symm]
    rw [e0]
    clear hv hv2 hvs e0 hsh hml
    go_enter Tryz.func17, Tryz.ntmps17
    go_wp2_with fail
    rw [HW0.out, ← HA.out]
    go_wp2_with fail
    refine (HV.out).mono ?_
    rintro e w1 ⟨hb1, rfl⟩
    have HBW1 := Lib.hid hb1
    obtain ⟨⟨b0, b1⟩, -⟩ := HALL.out w1 hb1
    clear hb1
    go_wp2_with fail
    refine (HIX.out _ HBW1.out).mono ?_
    rintro e w2 ⟨hb2, rfl⟩
    have HB2 := Lib.hid (HALL.out w2 (HBW1.out.trans (hb2.mono HBW1.out.size))).2
    clear hb2
    go_wp2_with fail
    go_ret2
    exact ⟨HB2.out, rfl⟩
  obtain rfl : u = true := by simpa using hu
  obtain ⟨x0, rfl, hx0⟩ := ixOk_nat HU.out.symm
  obtain ⟨y, HY⟩ : ∃ y, Hid (y = plc s0 x0 0) := ⟨_, rfl⟩
  have hym : y < m := by
    have := (plc_lt s0 x0 0 hx0).1
    rw [HY.out, hml]; simpa using this
  have e0 : atV (s0.map Int.ofNat) l (x0.map Int.ofNat) = (l.getD y [], 0) := by unfold atV; rw [if_neg (by rw [hv2]; simp), toNat_map, if_neg (by rw [← HU.out]; simp), toNat_map, HY.out]
  rw [e0]
  have hkn : k = n := by rw [← hk.out, List.length_map, hx0.1, hsn.out]
  subst hkn
  have HIS := Lib.hid hx0
  have HYM := Lib.hid hym
  have HEL : Hid (∀ W, Below W0.heap.size W0 W → Calls Tryz.prog 54 #[.agg #[.slice p k c, .slice q m d], .slice r k f] W fun e w' => Below W0.heap.size W0 w' ∧ e = .returned (.string ⟨List.toArray (l.getD y [])⟩)) := Lib.hid (fun W hW => by
    have h2 := (HALL.out W hW).2
    refine (element_any p q r c d f k m y s0 x0 l W hn4 hm hsn HSH.out.2.2 hl HIS HY HYM.out (HP.out.below h2) (HQ.out.below h2) (HR.out.below h2)).mono (fun e w' h => ⟨?_, h.2⟩)
    rw [h.1]
    exact (hW.alloc hW.size _).trans ⟨rfl, rfl, rfl, Nat.le_refl _, fun _ _ => rfl⟩)
  clear hv hv2 hvs e0 hsh hml hx0 hym
  go_enter Tryz.func17, Tryz.ntmps17
  go_wp2_with fail
  rw [HW0.out, ← HA.out]
  go_wp2_with fail
  refine (HV.out).mono ?_
  rintro e w1 ⟨hb1, rfl⟩
  have HBW1 := Lib.hid hb1
  obtain ⟨⟨b0, b1⟩, -⟩ := HALL.out w1 hb1
  clear hb1
  go_wp2_with fail
  refine (HIX.out _ HBW1.out).mono ?_
  rintro e w2 ⟨hb2, rfl⟩
  have HBW2 := Lib.hid (HBW1.out.trans (hb2.mono HBW1.out.size))
  clear b0 b1
  obtain ⟨⟨b0, b1⟩, -⟩ := HALL.out w2 HBW2.out
  clear hb2
  go_wp2_with fail
  refine (HEL.out _ HBW2.out).mono ?_
  rintro e w3 ⟨hb3, rfl⟩
  have HB3 := Lib.hid (HALL.out w3 hb3).2
  clear hb3
  go_wp2_with fail
  go_ret2
  exact ⟨HB3.out, rfl⟩
theorem rat_any (p q r : Option Addr) (c d f n m k : Nat) (s ix : List Int) (l : List (List UInt8)) (w : World) (hs : Hid (s.length = n)) (hl : Hid (l.length = m)) (hk : Hid (ix.length = k)) (hm : m ≤ 5000) (hp : Rd w p s) (hq : RdS w q l) (hr : Rd w r ix) :
    Calls Tryz.prog 18 #[.agg #[.slice p n c, .slice q m d], .slice r k f] w fun e w' => Below w.heap.size w w' ∧ e = .returned (.tuple #[.string ⟨List.toArray (atV s l ix).1⟩, .int .i64 (atV s l ix).2]) := by
  have HP := Lib.hid hp
  have HQ := Lib.hid hq
  have HR := Lib.hid hr
  have hmi : (m : Int) ≤ 5000 := by omega
  obtain ⟨A, HA⟩ : ∃ A, Hid (A = w.heap.size) := ⟨_, Lib.hid rfl⟩
  obtain ⟨W0, HW0⟩ : ∃ W0, Hid (w.alloc (.cells #[.slice p n c, .slice q m d] 25) = W0) := ⟨_, Lib.hid rfl⟩
  have HB0 : Hid (Below w.heap.size w W0) := Lib.hid (by rw [← HW0.out]; exact (Below.refl _ w).alloc (Nat.le_refl _) _)
  have HX0 : Hid (W0.heap[A]? = some (.cells #[.slice p n c, .slice q m d] 25 (0, 0))) := Lib.hid (by rw [← HW0.out, HA.out]; exact World.alloc_heap_new w _)
  have HALL : Hid (∀ W, Below W0.heap.size W0 W → (W.cell? ⟨A, 0, none⟩ = some (.slice p n c) ∧ W.cell? ⟨A, 1, none⟩ = some (.slice q m d)) ∧ Below w.heap.size w W) := Lib.hid (fun W hW => by
    have h := (hW.block A (Array.getElem?_eq_some_iff.1 HX0.out).1).trans HX0.out
    exact ⟨⟨by simp [World.cell?, h], by simp [World.cell?, h]⟩, HB0.out.trans (hW.mono HB0.out.size)⟩)
  have HV : Hid (Calls Tryz.prog 22 #[.agg #[.slice p n c, .slice q m d]] W0 fun e w' => Below W0.heap.size W0 w' ∧ e = .returned (.bool (validA s l))) := Lib.hid (rvalidA_any p q c d n m s l W0 hs hl hm (HP.out.below HB0.out) (HQ.out.below HB0.out))
  obtain ⟨⟨b0, b1⟩, -⟩ := HALL.out W0 (Below.refl _ _)
  clear hp hq hr
  by_cases hv : validA s l = false
  · have e0 : atV s l ix = ([], 60) := by unfold atV; rw [if_pos hv]
    rw [e0]
    rw [hv] at HV
    clear hv e0
    go_enter Tryz.func18, Tryz.ntmps18
    go_wp2_with fail
    rw [HW0.out, ← HA.out]
    go_wp2_with fail
    refine (HV.out).mono ?_
    rintro e w1 ⟨hb1, rfl⟩
    have HB1 := Lib.hid (HALL.out w1 hb1).2
    clear hb1
    go_wp2_with fail
    go_ret2
    exact ⟨HB1.out, rfl⟩
  have hv2 : validA s l = true := by simpa using hv
  have hvs : vs s = true := by unfold validA at hv2; rw [Bool.and_eq_true] at hv2; exact hv2.1
  obtain ⟨s0, rfl, hsh⟩ := vs_yes hvs
  have hml : m = prod s0 := by
    unfold validA at hv2
    rw [Bool.and_eq_true, Bool.and_eq_true, decide_eq_true_eq, toNat_map, hl.out] at hv2
    exact hv2.2.1
  have hsn : Hid (s0.length = n) := Lib.hid (by rw [← hs.out, List.length_map])
  have hn4 : n ≤ 4 := by rw [← hsn.out]; exact hsh.1
  have HSH := Lib.hid hsh
  have HML := Lib.hid hml
  obtain ⟨u, HU⟩ : ∃ u, Hid (u = ixOk s0 ix) := ⟨_, rfl⟩
  have HIX : Hid (∀ W, Below W0.heap.size W0 W → Calls Tryz.prog 55 #[.slice p n c, .slice r k f] W fun e w' => Below W.heap.size W w' ∧ e = .returned (.bool u)) := Lib.hid (fun W hW => by
    have h2 := (HALL.out W hW).2
    rw [HU.out]
    exact (risix_any p r c f n k s0 ix W hsn hk hn4 (HP.out.below h2) (HR.out.below h2)).mono (fun e w' h => ⟨by obtain ⟨j, e⟩ := h.1; subst e; exact ⟨rfl, rfl, rfl, Nat.le_refl _, fun _ _ => rfl⟩, h.2⟩))
  rw [hv2] at HV
  by_cases hu : u = false
  · subst hu
    have e0 : atV (s0.map Int.ofNat) l ix = ([], 61) := by unfold atV; rw [if_neg (by rw [hv2]; simp), toNat_map, if_pos HU.out.symm]
    rw [e0]
    clear hv hv2 hvs e0 hsh hml
    go_enter Tryz.func18, Tryz.ntmps18
    go_wp2_with fail
    rw [HW0.out, ← HA.out]
    go_wp2_with fail
    refine (HV.out).mono ?_
    rintro e w1 ⟨hb1, rfl⟩
    have HBW1 := Lib.hid hb1
    obtain ⟨⟨b0, b1⟩, -⟩ := HALL.out w1 hb1
    clear hb1
    go_wp2_with fail
    refine (HIX.out _ HBW1.out).mono ?_
    rintro e w2 ⟨hb2, rfl⟩
    have HB2 := Lib.hid (HALL.out w2 (HBW1.out.trans (hb2.mono HBW1.out.size))).2
    clear hb2
    go_wp2_with fail
    go_ret2
    exact ⟨HB2.out, rfl⟩
  obtain rfl : u = true := by simpa using hu
  obtain ⟨x0, rfl, hx0⟩ := ixOk_nat HU.out.symm
  obtain ⟨y, HY⟩ : ∃ y, Hid (y = plc s0 x0 0) := ⟨_, rfl⟩
  have hym : y < m := by
    have := (plc_lt s0 x0 0 hx0).1
    rw [HY.out, hml]; simpa using this
  have e0 : atV (s0.map Int.ofNat) l (x0.map Int.ofNat) = (l.getD y [], 0) := by unfold atV; rw [if_neg (by rw [hv2]; simp), toNat_map, if_neg (by rw [← HU.out]; simp), toNat_map, HY.out]
  rw [e0]
  have hkn : k = n := by rw [← hk.out, List.length_map, hx0.1, hsn.out]
  subst hkn
  have HIS := Lib.hid hx0
  have HYM := Lib.hid hym
  have hyi : (y : Int) < (m : Int) := by omega
  obtain ⟨bq, oq, xs, rfl, hbq, -, HXS⟩ := HQ.out.at (k := y) (by rw [hl.out]; exact hym)
  have HXC : Hid (∀ W, Below W0.heap.size W0 W → (W.cell? ⟨A, 0, none⟩ = some (.slice p k c) ∧ W.cell? ⟨A, 1, none⟩ = some (.slice (some ⟨bq, oq, none⟩) m d) ∧ W.cell? ⟨bq, oq + y, none⟩ = some (.string ⟨List.toArray xs⟩)) ∧ Below W0.heap.size W0 W) := Lib.hid (fun W hW => by
    obtain ⟨⟨h0, h1⟩, h2⟩ := HALL.out W hW
    obtain ⟨b', o', x', e', -, hc, hx'⟩ := (HQ.out.below h2).at (k := y) (by rw [hl.out]; exact HYM.out)
    cases e'
    rw [hx'.out, ← HXS.out] at hc
    exact ⟨⟨h0, h1, hc⟩, hW⟩)
  have HPL : Hid (∀ W, Below W0.heap.size W0 W → Calls Tryz.prog 56 #[.slice p k c, .slice r k f] W fun e w' => Below W0.heap.size W0 w' ∧ e = .returned (.int .i64 (y : Int))) := Lib.hid (fun W hW => by
    have h2 := (HALL.out W hW).2
    refine (rplace_any p r c f k s0 x0 W hn4 hsn (Lib.hid (by rw [HIS.out.1, hsn.out])) HIS.out HSH.out.2.2 (HP.out.below h2) (HR.out.below h2)).mono (fun e w' h => ⟨?_, by rw [h.2, ← HY.out]⟩)
    obtain ⟨j, rfl⟩ := h.1
    exact hW.trans ⟨rfl, rfl, rfl, Nat.le_refl _, fun _ _ => rfl⟩)
  rw [← HXS.out]
  clear hv hv2 hvs e0 hsh hml hx0 hym
  go_enter Tryz.func18, Tryz.ntmps18
  go_wp2_with fail
  rw [HW0.out, ← HA.out]
  go_wp2_with fail
  refine (HV.out).mono ?_
  rintro e w1 ⟨hb1, rfl⟩
  have HBW1 := Lib.hid hb1
  obtain ⟨⟨b0, b1⟩, -⟩ := HALL.out w1 hb1
  clear hb1
  go_wp2_with fail
  refine (HIX.out _ HBW1.out).mono ?_
  rintro e w2 ⟨hb2, rfl⟩
  have HBW2 := Lib.hid (HBW1.out.trans (hb2.mono HBW1.out.size))
  clear b0 b1
  obtain ⟨⟨b0, b1⟩, -⟩ := HALL.out w2 HBW2.out
  clear hb2
  go_wp2_with fail
  have HBD2 : Hid (Below W0.heap.size W0 w2.drew) := Lib.hid (HBW2.out.trans ⟨rfl, rfl, rfl, Nat.le_refl _, fun _ _ => rfl⟩)
  refine wp_region_noPanic ?_
  refine wp_region_held_drew (S := fun W => (W.cell? ⟨A, 0, none⟩ = some (.slice p k c) ∧ W.cell? ⟨A, 1, none⟩ = some (.slice (some ⟨bq, oq, none⟩) m d) ∧ W.cell? ⟨bq, oq + y, none⟩ = some (.string ⟨List.toArray xs⟩)) ∧ Below W0.heap.size W0 W) (by kernel_rfl) (HXC.out _ HBD2.out) (fun hHeld => ?_)
  refine wpAnyH_take (i := 0) (v := ?v1) rfl (by kernel_rfl) (by kernel_rfl) (by kernel_rfl) (fun _ _ _ h => h) (Or.inl ⟨by rfl, ?hy1⟩) (by assumption) ?rest1
  case hy1 =>
    intro W' hSw
    obtain ⟨⟨e0, e1, e2⟩, -⟩ := hSw
    go_simp
    with_reducible rfl
  simp only [List.getElem_toArray, List.getElem_cons_zero, Act.put, List.setIfInBounds_toArray, List.set_cons_zero, List.set_cons_succ]
  refine wpAnyH_take (i := 1) (v := ?v2) rfl (by kernel_rfl) (by kernel_rfl) (by kernel_rfl) (fun _ _ _ h => h) (Or.inl ⟨by rfl, ?hy2⟩) (by assumption) ?rest2
  case hy2 =>
    intro W' hSw
    obtain ⟨⟨e0, e1, e2⟩, -⟩ := hSw
    go_simp
    with_reducible rfl
  simp only [List.getElem_toArray, List.getElem_cons_zero, List.getElem_cons_succ, Act.put, List.setIfInBounds_toArray, List.set_cons_zero, List.set_cons_succ]
  refine wpAnyH_take (i := 2) (v := ?v3) rfl (by kernel_rfl) (by kernel_rfl) (by kernel_rfl) (fun _ _ _ h => h) (Or.inl ⟨by rfl, ?hy3⟩) (by assumption) ?rest3
  case hy3 =>
    intro W' hSw
    obtain ⟨⟨e0, e1, e2⟩, -⟩ := hSw
    go_simp
    with_reducible rfl
  simp only [List.getElem_toArray, List.getElem_cons_zero, List.getElem_cons_succ, Act.put, List.setIfInBounds_toArray, List.set_cons_zero, List.set_cons_succ]
  refine wpAnyH_take (i := 3) (v := ?v4) rfl (by kernel_rfl) (by kernel_rfl) (by kernel_rfl) (fun _ _ _ h => h) (Or.inl ⟨by rfl, ?hy4⟩) (by assumption) ?rest4
  case hy4 =>
    intro W' hSw
    obtain ⟨⟨e0, e1, e2⟩, -⟩ := hSw
    go_simp
    with_reducible rfl
  simp only [List.getElem_toArray, List.getElem_cons_zero, List.getElem_cons_succ, Act.put, List.setIfInBounds_toArray, List.set_cons_zero, List.set_cons_succ]
  refine wpAnyH_take (i := 4) (v := ?v5) rfl (by kernel_rfl) (by kernel_rfl) (by kernel_rfl) (fun _ _ _ h => h) (Or.inl ⟨by rfl, ?hy5⟩) (by assumption) ?rest5
  case hy5 =>
    intro W' hSw
    obtain ⟨⟨e0, e1, e2⟩, -⟩ := hSw
    go_simp
    with_reducible rfl
  simp only [List.getElem_toArray, List.getElem_cons_zero, List.getElem_cons_succ, Act.put, List.setIfInBounds_toArray, List.set_cons_zero, List.set_cons_succ]
  refine wpAnyH_ready (rs := [5]) (by kernel_rfl) (by simp) ?_
  refine AllReadyH.cons (i := 5) rfl (fun K hK => ?_) AllReadyH.nil
  go_simp
  refine (HPL.out _ HBD2.out).mono ?_
  rintro e w3 ⟨hb3, rfl⟩
  have HB3 := Lib.hid hb3
  clear hb3
  refine hK.out _ _ (HXC.out _ HB3.out) (fun hHeld => ?_)
  clear hK K
  refine wpAnyH_take (i := 6) (v := ?v6) rfl (by kernel_rfl) (by kernel_rfl) (by kernel_rfl) (fun _ _ _ h => h) (Or.inl ⟨by rfl, ?hy6⟩) (by assumption) ?rest6
  case hy6 =>
    intro W' hSw
    obtain ⟨⟨e0, e1, e2⟩, -⟩ := hSw
    go_simp
    with_reducible rfl
  simp only [List.getElem_toArray, List.getElem_cons_zero, List.getElem_cons_succ, Act.put, List.setIfInBounds_toArray, List.set_cons_zero, List.set_cons_succ]
  refine wpAnyH_take (i := 7) (v := ?v7) rfl (by kernel_rfl) (by kernel_rfl) (by kernel_rfl) (fun _ _ _ h => h) (Or.inl ⟨by rfl, ?hy7⟩) (by assumption) ?rest7
  case hy7 =>
    intro W' hSw
    obtain ⟨⟨e0, e1, e2⟩, -⟩ := hSw
    go_simp
    with_reducible rfl
  simp only [List.getElem_toArray, List.getElem_cons_zero, List.getElem_cons_succ, Act.put, List.setIfInBounds_toArray, List.set_cons_zero, List.set_cons_succ]
  refine wpAnyH_take (i := 8) (v := ?v8) rfl (by kernel_rfl) (by kernel_rfl) (by kernel_rfl) (fun _ _ _ h => h) (Or.inl ⟨by rfl, ?hy8⟩) (by assumption) ?rest8
  case hy8 =>
    intro W' hSw
    obtain ⟨⟨e0, e1, e2⟩, -⟩ := hSw
    go_simp
    with_reducible rfl
  simp only [List.getElem_toArray, List.getElem_cons_zero, List.getElem_cons_succ, Act.put, List.setIfInBounds_toArray, List.set_cons_zero, List.set_cons_succ]
  refine wpAnyH_take (i := 9) (v := ?v9) rfl (by kernel_rfl) (by kernel_rfl) (by kernel_rfl) (fun _ _ _ h => h) (Or.inl ⟨by rfl, ?hy9⟩) (by assumption) ?rest9
  case hy9 =>
    intro W' hSw
    obtain ⟨⟨e0, e1, e2⟩, -⟩ := hSw
    go_simp
    with_reducible rfl
  simp only [List.getElem_toArray, List.getElem_cons_zero, List.getElem_cons_succ, Act.put, List.setIfInBounds_toArray, List.set_cons_zero, List.set_cons_succ]
  refine wpAnyH_done (by kernel_rfl) ?_ _
  refine NoPanic.normal ?_
  clear hHeld
  go_wp2_with fail
  go_ret2
  exact ⟨(HALL.out _ HB3.out).2, rfl⟩
end Go.Proofs.YtigidchicloleaaGreatDoor.Arr
