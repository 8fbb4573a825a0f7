/- element, and the function that Slice hands to build. -/
import Derived.Test.YtlcpcpmlfegejaaGreatDoorGO
set_option maxHeartbeats 2000000
set_option maxRecDepth 100000
namespace Go.Proofs.YtlcpcpmlfegejaaGreatDoor.Arr
open Go.RowKit Go.Shelf
open Go.Lib
attribute [local go_sem] Oper.semAt_some
theorem element_any (p q r : Option Addr) (c d f n m k : Nat) (s ix : List Nat) (l : List (List UInt8)) (w : World) (hn : n ≤ 4) (hm : m ≤ 5000) (hs : Hid (s.length = n)) (h4 : prod s ≤ 4096) (hl : Hid (l.length = m)) (hix : Hid (IsIx s ix)) (hk : Hid (k = plc s ix 0)) (hkm : k < m) (hp : RdN w p s) (hq : RdS w q l) (hr : RdN w r ix) :
    Calls Tryz.prog 56 #[.agg #[.slice p n c, .slice q m d], .slice r n f] w fun e w' => w' = (w.alloc (.cells #[.slice p n c, .slice q m d] 31)).drew ∧ e = .returned (.string ⟨List.toArray (l.getD k [])⟩) := by
  have hmi : (m : Int) ≤ 5000 := by omega
  have hki : (k : Int) < (m : Int) := by omega
  obtain ⟨b, off, x, e1, hb, hx, HX⟩ := hq.at (k := k) (by rw [hl.out]; exact hkm)
  subst e1
  obtain ⟨W0, HW0⟩ : ∃ W0, Hid (w.alloc (.cells #[.slice p n c, .slice (some ⟨b, off, none⟩) m d] 31) = W0) := ⟨_, Lib.hid rfl⟩
  have HB0 : Hid (Below w.heap.size w W0) := Lib.hid (by rw [← HW0.out]; exact (Below.refl _ w).alloc (Nat.le_refl _) _)
  have hX0 : W0.heap[w.heap.size]? = some (.cells #[.slice p n c, .slice (some ⟨b, off, none⟩) m d] 31 (0, 0)) := by rw [← HW0.out]; exact World.alloc_heap_new w _
  have hB0 := (HB0.out.cell (p := ⟨b, off + k, none⟩) hb).trans hx
  have ha0 : W0.cell? ⟨w.heap.size, 0, none⟩ = some (.slice p n c) := by simp [World.cell?, hX0]
  have ha1 : W0.cell? ⟨w.heap.size, 1, none⟩ = some (.slice (some ⟨b, off, none⟩) m d) := by simp [World.cell?, hX0]
  have HS0 : Hid ((fun W => W.cell? ⟨w.heap.size, 0, none⟩ = some (.slice p n c) ∧ W.cell? ⟨w.heap.size, 1, none⟩ = some (.slice (some ⟨b, off, none⟩) m d) ∧ W.cell? ⟨b, off + k, none⟩ = some (.string ⟨List.toArray x⟩)) W0.drew) := Lib.hid ⟨ha0, ha1, hB0⟩
  have HBD : Hid (Below w.heap.size w W0.drew) := Lib.hid (HB0.out.trans ⟨rfl, rfl, rfl, Nat.le_refl _, fun _ _ => rfl⟩)
  have H67 : Hid (Calls Tryz.prog 82 #[.slice p n c, .slice r n f] W0.drew fun e w' => W0.drew = w' ∧ e = .returned (.int .i64 (k : Int))) := Lib.hid (by
    have := place_any p r c f n s ix W0.drew hn hs (Lib.hid (by rw [hix.out.1, hs.out])) hix.out h4 (hp.below HBD.out) (hr.below HBD.out)
    rwa [← hk.out] at this)
  rw [← HX.out, HW0.out]
  clear hp hq hr hX0 hB0 hx ha0 ha1
  go_enter Tryz.func56, Tryz.ntmps56
  go_wp2_with fail
  rw [HW0.out]
  refine wp_region_noPanic ?_
  refine wp_region_held_drew (S := fun W => W.cell? ⟨w.heap.size, 0, none⟩ = some (.slice p n c) ∧ W.cell? ⟨w.heap.size, 1, none⟩ = some (.slice (some ⟨b, off, none⟩) m d) ∧ W.cell? ⟨b, off + k, none⟩ = some (.string ⟨List.toArray x⟩)) (by kernel_rfl) HS0.out (fun hHeld => ?_)
  refine wpAnyH_take (i := 0) (v := ?v1) rfl (by kernel_rfl) (by kernel_rfl) (by kernel_rfl) (fun _ _ _ h => h) (Or.inl ⟨by rfl, ?hy1⟩) (by assumption) ?rest1
  case hy1 =>
    intro W' hSw
    obtain ⟨e0, e1, e2⟩ := hSw
    go_simp
    with_reducible rfl
  simp only [List.getElem_toArray, List.getElem_cons_zero, Act.put, List.setIfInBounds_toArray, List.set_cons_zero, List.set_cons_succ]
  refine wpAnyH_take (i := 1) (v := ?v2) rfl (by kernel_rfl) (by kernel_rfl) (by kernel_rfl) (fun _ _ _ h => h) (Or.inl ⟨by rfl, ?hy2⟩) (by assumption) ?rest2
  case hy2 =>
    intro W' hSw
    obtain ⟨e0, e1, e2⟩ := hSw
    go_simp
    with_reducible rfl
  simp only [List.getElem_toArray, List.getElem_cons_zero, List.getElem_cons_succ, Act.put, List.setIfInBounds_toArray, List.set_cons_zero, List.set_cons_succ]
  refine wpAnyH_take (i := 2) (v := ?v3) rfl (by kernel_rfl) (by kernel_rfl) (by kernel_rfl) (fun _ _ _ h => h) (Or.inl ⟨by rfl, ?hy3⟩) (by assumption) ?rest3
  case hy3 =>
    intro W' hSw
    obtain ⟨e0, e1, e2⟩ := hSw
    go_simp
    with_reducible rfl
  simp only [List.getElem_toArray, List.getElem_cons_zero, List.getElem_cons_succ, Act.put, List.setIfInBounds_toArray, List.set_cons_zero, List.set_cons_succ]
  refine wpAnyH_take (i := 3) (v := ?v4) rfl (by kernel_rfl) (by kernel_rfl) (by kernel_rfl) (fun _ _ _ h => h) (Or.inl ⟨by rfl, ?hy4⟩) (by assumption) ?rest4
  case hy4 =>
    intro W' hSw
    obtain ⟨e0, e1, e2⟩ := hSw
    go_simp
    with_reducible rfl
  simp only [List.getElem_toArray, List.getElem_cons_zero, List.getElem_cons_succ, Act.put, List.setIfInBounds_toArray, List.set_cons_zero, List.set_cons_succ]
  refine wpAnyH_take (i := 4) (v := ?v5) rfl (by kernel_rfl) (by kernel_rfl) (by kernel_rfl) (fun _ _ _ h => h) (Or.inl ⟨by rfl, ?hy5⟩) (by assumption) ?rest5
  case hy5 =>
    intro W' hSw
    obtain ⟨e0, e1, e2⟩ := hSw
    go_simp
    with_reducible rfl
  simp only [List.getElem_toArray, List.getElem_cons_zero, List.getElem_cons_succ, Act.put, List.setIfInBounds_toArray, List.set_cons_zero, List.set_cons_succ]
  refine wpAnyH_ready (rs := [5]) (by kernel_rfl) (by simp) ?_
  refine AllReadyH.cons (i := 5) rfl (fun K hK => ?_) AllReadyH.nil
  go_simp
  refine (H67.out).mono ?_
  rintro e w1 ⟨rfl, rfl⟩
  refine hK.out _ _ HS0.out (fun hHeld2 => ?_)
  clear hK K hHeld
  refine wpAnyH_take (i := 6) (v := ?v6) rfl (by kernel_rfl) (by kernel_rfl) (by kernel_rfl) (fun _ _ _ h => h) (Or.inl ⟨by rfl, ?hy6⟩) (by assumption) ?rest6
  case hy6 =>
    intro W' hSw
    obtain ⟨e0, e1, e2⟩ := hSw
    go_simp
    with_reducible rfl
  simp only [List.getElem_toArray, List.getElem_cons_zero, List.getElem_cons_succ, Act.put, List.setIfInBounds_toArray, List.set_cons_zero, List.set_cons_succ]
  refine wpAnyH_take (i := 7) (v := ?v7) rfl (by kernel_rfl) (by kernel_rfl) (by kernel_rfl) (fun _ _ _ h => h) (Or.inl ⟨by rfl, ?hy7⟩) (by assumption) ?rest7
  case hy7 =>
    intro W' hSw
    obtain ⟨e0, e1, e2⟩ := hSw
    go_simp
    with_reducible rfl
  simp only [List.getElem_toArray, List.getElem_cons_zero, List.getElem_cons_succ, Act.put, List.setIfInBounds_toArray, List.set_cons_zero, List.set_cons_succ]
  refine wpAnyH_take (i := 8) (v := ?v8) rfl (by kernel_rfl) (by kernel_rfl) (by kernel_rfl) (fun _ _ _ h => h) (Or.inl ⟨by rfl, ?hy8⟩) (by assumption) ?rest8
  case hy8 =>
    intro W' hSw
    obtain ⟨e0, e1, e2⟩ := hSw
    go_simp
    with_reducible rfl
  simp only [List.getElem_toArray, List.getElem_cons_zero, List.getElem_cons_succ, Act.put, List.setIfInBounds_toArray, List.set_cons_zero, List.set_cons_succ]
  refine wpAnyH_done (by kernel_rfl) ?_ _
  refine NoPanic.normal ?_
  clear hHeld2
  go_wp2_with fail
  go_ret
  exact ⟨rfl, rfl⟩
theorem thr_ok {s ix : List Nat} {cuts : List (Int × Int × Int)} (h : slabOk s cuts = true) (hb : ∀ x ∈ s, x ≤ 1024) (hix : IsIx (cnts cuts) ix) : ThrOk cuts ix ∧ IsIx s (thr cuts ix) := by
  unfold slabOk at h
  rw [Bool.and_eq_true, decide_eq_true_eq, List.all_eq_true] at h
  obtain ⟨hl, hall⟩ := h
  have key : ∀ k, k < cuts.length → 0 ≤ (cuts.getD k (0, 0, 0)).1 ∧ 0 ≤ (ix.getD k 0 : Int) * (cuts.getD k (0, 0, 0)).2.2 ∧ (cuts.getD k (0, 0, 0)).1 + (ix.getD k 0 : Int) * (cuts.getD k (0, 0, 0)).2.2 < (s.getD k 0 : Int) := fun k hk => by
    have hc := hall k (List.mem_range.2 (by omega))
    have hi := hix.2 k (by rw [cnts, List.length_map]; exact hk)
    rw [cnts_at hk] at hi
    unfold cutAt cutOk at hc
    generalize cuts.getD k (0, 0, 0) = z at hc hi ⊢
    obtain ⟨a, n, st⟩ := z
    generalize s.getD k 0 = sz at hc ⊢
    generalize ix.getD k 0 = i at hi ⊢
    simp only [Bool.and_eq_true, Bool.or_eq_true, decide_eq_true_eq] at hc hi ⊢
    obtain ⟨⟨⟨⟨h1, h2⟩, h3⟩, h4⟩, h5⟩ := hc
    have hn1 : 1 ≤ n := by omega
    rcases h5 with h5 | ⟨h5, h6⟩
    · omega
    · have e1 : (i : Int) ≤ n - 1 := by omega
      have e2 : (i : Int) * st ≤ ((sz : Int) - 1 - a) / st * st := Int.mul_le_mul_of_nonneg_right (by omega) (by omega)
      have e3 : ((sz : Int) - 1 - a) / st * st ≤ (sz : Int) - 1 - a := Int.ediv_mul_le _ (by omega)
      have e4 : 0 ≤ (i : Int) * st := Int.mul_nonneg (by omega) (by omega)
      exact ⟨h1, e4, by omega⟩
  have hsz : ∀ k, k < cuts.length → (s.getD k 0 : Int) ≤ 1024 := fun k hk => by
    have := hb (s.getD k 0) (by rw [List.getD_eq_getElem?_getD, List.getElem?_eq_getElem (by omega)]; exact List.getElem_mem _)
    omega
  constructor
  · intro k hk
    obtain ⟨h1, h2, h3⟩ := key k hk
    have h4 := hsz k hk
    exact ⟨h1, by omega, h2, by omega⟩
  · refine ⟨by rw [thr_len, hl], fun k hk => ?_⟩
    obtain ⟨h1, h2, h3⟩ := key k (by omega)
    rw [thr_get (by omega)]
    unfold thrAt
    omega
theorem rdn_row {W : World} {g : Nat} {l : List Nat} (h : W.heap[g]? = some (.cells (ixC l) 3 (0, 0))) (hb : ∀ x ∈ l, (x : Int) ≤ 9223372036854775807) : RdN W (some ⟨g, 0, none⟩) l := by
  refine ⟨fun z hz => ?_, .inr ⟨g, 0, rfl, (Array.getElem?_eq_some_iff.1 h).1, fun j hj => ?_⟩⟩
  · obtain ⟨x, hx, rfl⟩ := List.mem_map.1 hz
    have := hb x hx
    exact ⟨by show (-9223372036854775808 : Int) ≤ (x : Int); omega, this⟩
  · rw [List.length_map] at hj
    have h1 := cell_row h hj
    rw [Nat.zero_add, h1, List.getD_eq_getElem?_getD, List.getElem?_eq_getElem hj, List.getD_eq_getElem?_getD, List.getElem?_map, List.getElem?_eq_getElem hj]
    rfl
structure So (B0 Ba Bf Bc Bw R n m c d cd : Nat) (p q cq : Option Addr) (s : List Nat) (l : List (List UInt8)) (cuts : List (Int × Int × Int)) (W : World) : Prop where
  ba : W.heap[Ba]? = some (.cells #[.slice p n c, .slice q m d] 31 (0, 0))
  bf : W.heap[Bf]? = some (.cells #[.func (.func 89) #[] #[.pointer (some ⟨Bc, 0, none⟩), .pointer (some ⟨Bw, 0, none⟩)]] 78 (0, 0))
  wi : Wi W Bc Bw R n cd cq cuts
  row : ∃ r0 : List Nat, r0.length = n ∧ W.heap[R]? = some (.cells (ixC r0) 3 (0, 0))
  sh : RdN W p s
  vals : RdS W q l
  lts : Ba < B0 ∧ Bf < B0 ∧ Bc < B0 ∧ Bw < B0 ∧ R < B0 ∧ Ba ≠ R ∧ Bf ≠ R
  lp : ∀ b off, p = some ⟨b, off, none⟩ → 0 < s.length → b < B0 ∧ b ≠ R
  lq : ∀ b off, q = some ⟨b, off, none⟩ → 0 < l.length → b < B0 ∧ b ≠ R
  lc : ∀ b off, cq = some ⟨b, off, none⟩ → 0 < cuts.length → b < B0
theorem RdS.keep {W W' : World} {p : Option Addr} {s : List (List UInt8)} (h : RdS W p s) (hs : W.heap.size ≤ W'.heap.size) (hk : ∀ b off, p = some ⟨b, off, none⟩ → 0 < s.length → W'.heap[b]? = W.heap[b]?) : RdS W' p s := by
  rcases h with h0 | ⟨b, off, h1, h2, h3⟩
  · exact .inl h0
  · by_cases hs0 : 0 < s.length
    · exact .inr ⟨b, off, h1, Nat.lt_of_lt_of_le h2 hs, fun j hj => (World.cell?_of_block (a := ⟨b, off + j, none⟩) (hk b off h1 hs0)).trans (h3 j hj)⟩
    · exact .inl (by omega)
theorem RdC.keep {W W' : World} {p : Option Addr} {s : List (Int × Int × Int)} (h : RdC W p s) (hs : W.heap.size ≤ W'.heap.size) (hk : ∀ b off, p = some ⟨b, off, none⟩ → 0 < s.length → W'.heap[b]? = W.heap[b]?) : RdC W' p s := by
  refine ⟨h.wf, ?_⟩
  rcases h.cell with h0 | ⟨b, off, h1, h2, h3⟩
  · exact .inl h0
  · by_cases hs0 : 0 < s.length
    · have hb := hk b off h1 hs0
      exact .inr ⟨b, off, h1, Nat.lt_of_lt_of_le h2 hs, fun j hj => ⟨(World.cell?_of_block (a := ⟨b, off + j * 3, none⟩) hb).trans (h3 j hj).1, (World.cell?_of_block (a := ⟨b, off + j * 3 + 1, none⟩) hb).trans (h3 j hj).2.1, (World.cell?_of_block (a := ⟨b, off + j * 3 + 2, none⟩) hb).trans (h3 j hj).2.2⟩⟩
    · exact .inl (by omega)
section
variable {B0 Ba Bf Bc Bw R n m c d cd : Nat} {p q cq : Option Addr} {s : List Nat} {l : List (List UInt8)} {cuts : List (Int × Int × Int)} {W W' : World}
theorem So.keep (h : So B0 Ba Bf Bc Bw R n m c d cd p q cq s l cuts W) (hs : W.heap.size ≤ W'.heap.size) (hk : ∀ b, b < W.heap.size → b < B0 → b ≠ R → W'.heap[b]? = W.heap[b]?) (hR : ∃ r0 : List Nat, r0.length = n ∧ W'.heap[R]? = some (.cells (ixC r0) 3 (0, 0))) : So B0 Ba Bf Bc Bw R n m c d cd p q cq s l cuts W' := by
  obtain ⟨l1, l2, l3, l4, l5, l6, l7⟩ := h.lts
  have sz : ∀ {k : Nat} {o : Obj}, W.heap[k]? = some o → k < W.heap.size := fun hh => (Array.getElem?_eq_some_iff.1 hh).1
  refine ⟨(hk Ba (sz h.ba) l1 l6).trans h.ba, (hk Bf (sz h.bf) l2 l7).trans h.bf, ⟨(hk Bc (sz h.wi.bc) l3 h.wi.nc).trans h.wi.bc, (hk Bw (sz h.wi.bw) l4 h.wi.nw).trans h.wi.bw, h.wi.cuts.keep hs (fun b off e h0 => ?_), h.wi.nc, h.wi.nw, h.wi.ncuts⟩, hR, h.sh.keep hs (fun b off e h0 => ?_), h.vals.keep hs (fun b off e h0 => ?_), h.lts, h.lp, h.lq, h.lc⟩
  · obtain ⟨b', off', x, y, z, e', hb', -⟩ := h.wi.cuts.at h0
    rw [e] at e'; cases e'
    exact hk b hb' (h.lc b off e h0) (h.wi.ncuts b off e h0)
  · obtain ⟨b', off', x, e', hb', -⟩ := h.sh.at h0
    rw [e] at e'; cases e'
    exact hk b hb' (h.lp b off e h0).1 (h.lp b off e h0).2
  · obtain ⟨b', off', x, e', hb', -⟩ := h.vals.at h0
    rw [e] at e'; cases e'
    exact hk b hb' (h.lq b off e h0).1 (h.lq b off e h0).2
theorem So.above (h : So B0 Ba Bf Bc Bw R n m c d cd p q cq s l cuts W) {r : Option Nat} (hg : W.grownBy W' r) (hr : ∀ k, r = some k → B0 ≤ k) : So B0 Ba Bf Bc Bw R n m c d cd p q cq s l cuts W' := by
  refine h.keep hg.size (fun b hb hb0 _ => hg.block b hb (fun e => by have := hr b e.symm; omega)) ?_
  obtain ⟨r0, h1, h2⟩ := h.row
  exact ⟨r0, h1, (hg.block R (Array.getElem?_eq_some_iff.1 h2).1 (fun e => by have := hr R e.symm; have := h.lts.2.2.2.2.1; omega)).trans h2⟩
theorem So.atRow (h : So B0 Ba Bf Bc Bw R n m c d cd p q cq s l cuts W) (hg : W.grownBy W' (some R)) (hR : ∃ r0 : List Nat, r0.length = n ∧ W'.heap[R]? = some (.cells (ixC r0) 3 (0, 0))) : So B0 Ba Bf Bc Bw R n m c d cd p q cq s l cuts W' :=
  h.keep hg.size (fun b hb _ hne => hg.block b hb (fun e => hne (Option.some.inj e))) hR
end
theorem slice1_any (B0 Ba Bf Bc Bw R n m c d cd f g _N i : Nat) (p q cq : Option Addr) (s : List Nat) (l : List (List UInt8)) (cuts : List (Int × Int × Int)) (w : World) (hn : n ≤ 4) (hm : m ≤ 5000) (hs : Hid (s.length = n)) (hsb : Hid (∀ x ∈ s, x ≤ 1024)) (h4 : prod s ≤ 4096) (hl : Hid (l.length = m)) (hmp : Hid (m = prod s)) (hsl : Hid (slabOk s cuts = true)) (hi : i < prod (cnts cuts))
    (hso : So B0 Ba Bf Bc Bw R n m c d cd p q cq s l cuts w) (hg : w.heap[g]? = some (.cells (ixC (ixOf (cnts cuts) i)) 3 (0, 0))) (hgB : B0 ≤ g) :
    Calls Tryz.prog 55 #[.slice (some ⟨g, 0, none⟩) n f, .pointer (some ⟨Ba, 0, none⟩), .pointer (some ⟨Bf, 0, none⟩)] w fun e w' => e = .returned (.string ⟨List.toArray (l.getD (plc s (thr cuts (ixOf (cnts cuts) i)) 0) [])⟩) ∧ w.grownBy w' (some R) ∧ KeepsOthers w w' ∧ So B0 Ba Bf Bc Bw R n m c d cd p q cq s l cuts w' := by
  have HSO := Lib.hid hso
  have hcl : cuts.length = n := by
    have h := hsl.out
    unfold slabOk at h
    rw [Bool.and_eq_true, decide_eq_true_eq] at h
    rw [h.1, hs.out]
  have hcn : (cnts cuts).length = n := by rw [cnts, List.length_map, hcl]
  have hix := (ixOf_is (cnts cuts) i hi).1
  obtain ⟨ix, HIX⟩ : ∃ ix, Hid (ixOf (cnts cuts) i = ix) := ⟨_, Lib.hid rfl⟩
  rw [HIX.out] at hg hix ⊢
  obtain ⟨hto, hti⟩ := thr_ok hsl.out hsb.out hix
  obtain ⟨k, HK⟩ : ∃ k, Hid (k = plc s (thr cuts ix) 0) := ⟨_, Lib.hid rfl⟩
  rw [← HK.out]
  have hkm : k < m := by
    have := (plc_lt s (thr cuts ix) 0 hti).1
    rw [HK.out, hmp.out]; omega
  obtain ⟨r0, hr0, hrow⟩ := hso.row
  have hixn : ix.length = n := by rw [hix.1, hcn]
  have hRg : R ≠ g := by have := hso.lts.2.2.2.2.1; omega
  have hRn : ∀ W, W.heap[g]? = some (.cells (ixC ix) 3 (0, 0)) → RdN W (some ⟨g, 0, none⟩) ix := fun W hW => rdn_row hW (fun x hx => by
    obtain ⟨j, hj, e⟩ := List.getElem_of_mem hx
    have h1 := hix.2 j (by rw [← hix.1]; exact hj)
    have h2 := (hto j (by rw [hcl, ← hixn]; exact hj))
    rw [List.getD_eq_getElem?_getD, List.getElem?_eq_getElem hj, Option.getD_some, e, cnts_at (by rw [hcl, ← hixn]; exact hj)] at h1
    have h3 := hso.wi.cuts.at (k := j) (by rw [hcl, ← hixn]; exact hj)
    obtain ⟨-, -, x3, y3, z3, -, -, -, -, -, e3, e4⟩ := h3
    rw [e3.out] at h1
    change x < y3.toNat at h1
    have := e4.out
    have e5 : (cuts.getD j (0, 0, 0)).2.1 = y3 := by rw [e3.out]
    omega)
  have hd : w.drew.heap = w.heap := rfl
  have HTHR : Hid (Calls Tryz.prog 89 #[.slice (some ⟨g, 0, none⟩) n f, .pointer (some ⟨Bc, 0, none⟩), .pointer (some ⟨Bw, 0, none⟩)] w.drew (ThrPost R n cuts ix w.drew)) := Lib.hid
    (thr_any (some ⟨g, 0, none⟩) cq f cd n R Bc Bw cuts ix r0 w.drew hn (Lib.hid hcl) (Lib.hid hixn) (Lib.hid hr0) (Lib.hid hto) ⟨hso.wi.bc, hso.wi.bw, hso.wi.cuts.below ⟨rfl, rfl, rfl, Nat.le_refl _, fun _ _ => rfl⟩, hso.wi.nc, hso.wi.nw, hso.wi.ncuts⟩ (hRn _ hg) (fun b off e _ => by cases e; exact fun e => hRg e.symm) hrow)
  have HSD := Lib.hid (hso.above (W' := w.drew) (r := none) ⟨rfl, rfl, rfl, Nat.le_refl _, fun _ _ _ => rfl⟩ (fun k e => by cases e))
  have hsr : ∀ W, So B0 Ba Bf Bc Bw R n m c d cd p q cq s l cuts W → ((fun W => W.cell? ⟨Ba, 0, none⟩ = some (.slice p n c) ∧ W.cell? ⟨Ba, 1, none⟩ = some (.slice q m d) ∧ W.cell? ⟨Bf, 0, none⟩ = some (.func (.func 89) #[] #[.pointer (some ⟨Bc, 0, none⟩), .pointer (some ⟨Bw, 0, none⟩)])) W) := fun W h => ⟨by simp [World.cell?, h.ba], by simp [World.cell?, h.ba], by simp [World.cell?, h.bf]⟩
  have HSR := Lib.hid hsr
  have HTI := Lib.hid hti
  clear hso hg hrow hRn hsr hto hti hix
  go_enter Tryz.func55, Tryz.ntmps55
  go_wp2_with fail
  refine wp_region_noPanic ?_
  refine wp_region_held_drew (S := fun W => W.cell? ⟨Ba, 0, none⟩ = some (.slice p n c) ∧ W.cell? ⟨Ba, 1, none⟩ = some (.slice q m d) ∧ W.cell? ⟨Bf, 0, none⟩ = some (.func (.func 89) #[] #[.pointer (some ⟨Bc, 0, none⟩), .pointer (some ⟨Bw, 0, none⟩)])) (by kernel_rfl) (HSR.out _ HSD.out) (fun hHeld => ?_)
  refine wpAnyH_take (i := 0) (v := ?v9) rfl (by kernel_rfl) (by kernel_rfl) (by kernel_rfl) (fun _ _ _ h => h) (Or.inl ⟨by rfl, ?hy9⟩) (by assumption) ?rest9
  case hy9 =>
    intro W' hSw
    obtain ⟨e0, e1, e2⟩ := hSw
    go_simp
    with_reducible rfl
  simp only [List.getElem_toArray, List.getElem_cons_zero, Act.put, List.setIfInBounds_toArray, List.set_cons_zero, List.set_cons_succ]
  refine wpAnyH_take (i := 1) (v := ?v10) rfl (by kernel_rfl) (by kernel_rfl) (by kernel_rfl) (fun _ _ _ h => h) (Or.inl ⟨by rfl, ?hy10⟩) (by assumption) ?rest10
  case hy10 =>
    intro W' hSw
    obtain ⟨e0, e1, e2⟩ := hSw
    go_simp
    with_reducible rfl
  simp only [List.getElem_toArray, List.getElem_cons_zero, List.getElem_cons_succ, Act.put, List.setIfInBounds_toArray, List.set_cons_zero, List.set_cons_succ]
  refine wpAnyH_take (i := 2) (v := ?v11) rfl (by kernel_rfl) (by kernel_rfl) (by kernel_rfl) (fun _ _ _ h => h) (Or.inl ⟨by rfl, ?hy11⟩) (by assumption) ?rest11
  case hy11 =>
    intro W' hSw
    obtain ⟨e0, e1, e2⟩ := hSw
    go_simp
    with_reducible rfl
  simp only [List.getElem_toArray, List.getElem_cons_zero, List.getElem_cons_succ, Act.put, List.setIfInBounds_toArray, List.set_cons_zero, List.set_cons_succ]
  refine wpAnyH_ready (rs := [3]) (by kernel_rfl) (by simp) ?_
  refine AllReadyH.cons (i := 3) rfl (fun K hK => ?_) AllReadyH.nil
  go_simp
  refine (HTHR.out).mono ?_
  rintro e w1 ⟨rfl, hg1, hr1⟩
  have HS1 := Lib.hid (HSD.out.atRow hg1 ⟨thr cuts ix, by rw [thr_len, hcl], hr1⟩)
  have H51 : Hid (Calls Tryz.prog 56 #[.agg #[.slice p n c, .slice q m d], .slice (some ⟨R, 0, none⟩) n n] w1 fun e w' => w' = (w1.alloc (.cells #[.slice p n c, .slice q m d] 31)).drew ∧ e = .returned (.string ⟨List.toArray (l.getD k [])⟩)) := Lib.hid
    (element_any p q (some ⟨R, 0, none⟩) c d n n m k s (thr cuts ix) l w1 hn hm hs h4 hl HTI HK hkm HS1.out.sh HS1.out.vals (rdn_row hr1 (fun x hx => by
      obtain ⟨j, hj, e⟩ := List.getElem_of_mem hx
      have h1 := HTI.out.2 j (by rw [← HTI.out.1]; exact hj)
      rw [List.getD_eq_getElem?_getD, List.getElem?_eq_getElem hj, Option.getD_some, e] at h1
      have h2 := hsb.out (s.getD j 0) (by rw [List.getD_eq_getElem?_getD, List.getElem?_eq_getElem (by rw [← HTI.out.1]; exact hj)]; exact List.getElem_mem _)
      omega)))
  have HG1 : Hid (w.grownBy w1 (some R)) := Lib.hid ((⟨rfl, rfl, rfl, Nat.le_refl _, fun _ _ _ => rfl⟩ : w.grownBy w.drew (some R)).trans hg1)
  have HR1 := Lib.hid hr1
  clear hg1 hr1
  refine hK.out _ _ (HSR.out _ HS1.out) (fun hHeld2 => ?_)
  clear hK K hHeld
  refine wpAnyH_ready (rs := [4]) (by kernel_rfl) (by simp) ?_
  refine AllReadyH.cons (i := 4) rfl (fun K hK => ?_) AllReadyH.nil
  go_simp
  refine (H51.out).mono ?_
  rintro e w2 ⟨e2, rfl⟩
  have hB2 : Below w1.heap.size w1 w2 := by rw [e2]; exact Below.trans ((Below.refl _ w1).alloc (Nat.le_refl _) _) ⟨rfl, rfl, rfl, Nat.le_refl _, fun _ _ => rfl⟩
  have HS2 := Lib.hid (HS1.out.above (gb_of_below hB2 none) (fun k e => by cases e))
  have HFIN : Hid (w.grownBy w2 (some R) ∧ KeepsOthers w w2 ∧ So B0 Ba Bf Bc Bw R n m c d cd p q cq s l cuts w2) := Lib.hid (by
    have h1 := HG1.out.trans (gb_of_below hB2 (some R))
    refine ⟨h1, KeepsOthers.of_grownBy h1 (fun j o e ho => ?_), HS2.out⟩
    cases e
    obtain ⟨r1, -, h2⟩ := HSO.out.row
    rw [h2] at ho; cases ho; rfl)
  clear e2 hB2
  refine hK.out _ _ (HSR.out _ HS2.out) (fun hHeld3 => ?_)
  clear hK K hHeld2
  refine wpAnyH_take (i := 5) (v := ?v12) rfl (by kernel_rfl) (by kernel_rfl) (by kernel_rfl) (fun _ _ _ h => h) (Or.inl ⟨by rfl, ?hy12⟩) (by assumption) ?rest12
  case hy12 =>
    intro W' hSw
    obtain ⟨e0, e1, e2⟩ := hSw
    go_simp
    with_reducible rfl
  simp only [List.getElem_toArray, List.getElem_cons_zero, List.getElem_cons_succ, Act.put, List.setIfInBounds_toArray, List.set_cons_zero, List.set_cons_succ]
  refine wpAnyH_done (by kernel_rfl) ?_ _
  refine NoPanic.normal ?_
  clear hHeld3
  go_wp2_with fail
  go_ret
  exact ⟨rfl, HFIN.out⟩
end Go.Proofs.YtlcpcpmlfegejaaGreatDoor.Arr
