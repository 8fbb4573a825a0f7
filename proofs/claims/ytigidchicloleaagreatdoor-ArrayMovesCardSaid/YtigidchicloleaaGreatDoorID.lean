/- The function that spread hands to build. -/
import Derived.Test.YtigidchicloleaaGreatDoorIB
set_option maxHeartbeats 4000000
set_option maxRecDepth 100000
namespace Go.Proofs.YtigidchicloleaaGreatDoor.Arr
open Go.RowKit Go.Shelf
open Go.Lib
attribute [local go_sem] Oper.semAt_some
structure Sp (B0 Ba Bx Bf R n m c d cx : Nat) (p q xq : Option Addr) (s axes : List Nat) (l : List (List UInt8)) (W : World) : Prop where
  ba : W.heap[Ba]? = some (.cells #[.slice p n c, .slice q m d] 25 (0, 0))
  bx : W.heap[Bx]? = some (.cells #[.slice xq n cx] 22 (0, 0))
  bf : W.heap[Bf]? = some (.cells #[.slice (some ⟨R, 0, none⟩) n n] 22 (0, 0))
  row : ∃ r0 : List Nat, r0.length = n ∧ W.heap[R]? = some (.cells (ixC r0) 3 (0, 0))
  sh : RdN W p s
  vals : RdS W q l
  ax : RdN W xq axes
  lts : Ba < B0 ∧ Bx < B0 ∧ Bf < B0 ∧ R < B0 ∧ Ba ≠ R ∧ Bx ≠ R ∧ Bf ≠ R
  lp : ∀ b off, p = some ⟨b, off, none⟩ → 0 < s.length → b < B0 ∧ b ≠ R
  lq : ∀ b off, q = some ⟨b, off, none⟩ → 0 < l.length → b < B0 ∧ b ≠ R
  lx : ∀ b off, xq = some ⟨b, off, none⟩ → 0 < axes.length → b < B0 ∧ b ≠ R
section
variable {B0 Ba Bx Bf R n m c d cx : Nat} {p q xq : Option Addr} {s axes : List Nat} {l : List (List UInt8)} {W W' : World}
theorem Sp.keep (h : Sp B0 Ba Bx Bf R n m c d cx p q xq s axes l W) (hs : W.heap.size ≤ W'.heap.size) (hk : ∀ b, b < W.heap.size → b < B0 → b ≠ R → W'.heap[b]? = W.heap[b]?) (hR : ∃ r0 : List Nat, r0.length = n ∧ W'.heap[R]? = some (.cells (ixC r0) 3 (0, 0))) : Sp B0 Ba Bx Bf R n m c d cx p q xq s axes l W' := by
  obtain ⟨l1, l2, l3, l4, l5, l6, l7⟩ := h.lts
  have sz : ∀ {k : Nat} {o : Obj}, W.heap[k]? = some o → k < W.heap.size := fun hh => (Array.getElem?_eq_some_iff.1 hh).1
  refine ⟨(hk Ba (sz h.ba) l1 l5).trans h.ba, (hk Bx (sz h.bx) l2 l6).trans h.bx, (hk Bf (sz h.bf) l3 l7).trans h.bf, hR, h.sh.keep hs (fun b off e h0 => ?_), h.vals.keep hs (fun b off e h0 => ?_), h.ax.keep hs (fun b off e h0 => ?_), h.lts, h.lp, h.lq, h.lx⟩
  · obtain ⟨b', off', x, e', hb', -⟩ := h.sh.at h0
    rw [e] at e'; cases e'
    exact hk b hb' (h.lp b off e h0).1 (h.lp b off e h0).2
  · obtain ⟨b', off', x, e', hb', -⟩ := h.vals.at h0
    rw [e] at e'; cases e'
    exact hk b hb' (h.lq b off e h0).1 (h.lq b off e h0).2
  · obtain ⟨b', off', x, e', hb', -⟩ := h.ax.at h0
    rw [e] at e'; cases e'
    exact hk b hb' (h.lx b off e h0).1 (h.lx b off e h0).2
theorem Sp.above (h : Sp B0 Ba Bx Bf R n m c d cx p q xq s axes l W) {r : Option Nat} (hg : W.grownBy W' r) (hr : ∀ k, r = some k → B0 ≤ k) : Sp B0 Ba Bx Bf R n m c d cx p q xq s axes l W' := by
  refine h.keep hg.size (fun b hb hb0 _ => hg.block b hb (fun e => by have := hr b e.symm; omega)) ?_
  obtain ⟨r0, h1, h2⟩ := h.row
  exact ⟨r0, h1, (hg.block R (Array.getElem?_eq_some_iff.1 h2).1 (fun e => by have := hr R e.symm; have := h.lts.2.2.2.1; omega)).trans h2⟩
theorem Sp.atRow (h : Sp B0 Ba Bx Bf R n m c d cx p q xq s axes l W) (hg : W.grownBy W' (some R)) (hR : ∃ r0 : List Nat, r0.length = n ∧ W'.heap[R]? = some (.cells (ixC r0) 3 (0, 0))) : Sp B0 Ba Bx Bf R n m c d cx p q xq s axes l W' :=
  h.keep hg.size (fun b hb _ hne => hg.block b hb (fun e => hne (Option.some.inj e))) hR
end
theorem pk_ix {t axes ix : List Nat} (hix : IsIx t ix) (hab : ∀ x ∈ axes, x < t.length) : IsIx (pk t axes) (pk ix axes) := by
  refine ⟨by rw [pk_len, pk_len], fun k hk => ?_⟩
  rw [pk_len] at hk
  rw [pk_at hk, pk_at hk]
  refine hix.2 _ (hab _ ?_)
  rw [List.getD_eq_getElem?_getD, List.getElem?_eq_getElem hk]
  exact List.getElem_mem _
theorem spread1_any (B0 Ba Bx Bf R n m k c d cx f g : Nat) (p q xq : Option Addr) (s t axes ix : List Nat) (l : List (List UInt8)) (w : World) (hn : n ≤ 4) (hm : m ≤ 5000) (hs : Hid (s.length = n)) (hsb : Hid (∀ x ∈ s, x ≤ 1024)) (h4 : prod s ≤ 4096) (hl : Hid (l.length = m)) (hmp : Hid (m = prod s)) (hk : k ≤ 4) (ht : Hid (t.length = k)) (hal : Hid (axes.length = n)) (hab : Hid (∀ x ∈ axes, x < k)) (hpk : Hid (pk t axes = s)) (hix : Hid (IsIx t ix))
    (hso : Sp B0 Ba Bx Bf R n m c d cx p q xq s axes l w) (hg : w.heap[g]? = some (.cells (ixC ix) 3 (0, 0))) (hgB : B0 ≤ g) :
    Calls Tryz.prog 114 #[.slice (some ⟨g, 0, none⟩) k f, .pointer (some ⟨Bx, 0, none⟩), .pointer (some ⟨Bf, 0, none⟩), .pointer (some ⟨Ba, 0, none⟩)] w fun e w' => e = .returned (.string ⟨List.toArray (l.getD (plc s (pk ix axes) 0) [])⟩) ∧ w.grownBy w' (some R) ∧ KeepsOthers w w' ∧ Sp B0 Ba Bx Bf R n m c d cx p q xq s axes l w' := by
  have HSO := Lib.hid hso
  have hni : (n : Int) ≤ 4 := by omega
  have hki : (k : Int) ≤ 4 := by omega
  have HTI : Hid (IsIx s (pk ix axes)) := Lib.hid (by rw [← hpk.out]; exact pk_ix hix.out (fun x hx => by rw [ht.out]; exact hab.out x hx))
  obtain ⟨N, HK⟩ : ∃ N, Hid (N = plc s (pk ix axes) 0) := ⟨_, Lib.hid rfl⟩
  rw [← HK.out]
  have hkm : N < m := by
    rw [HK.out, hmp.out]
    have h := (plc_lt s (pk ix axes) 0 HTI.out).1
    rwa [Nat.zero_add, Nat.one_mul] at h
  obtain ⟨r0, hr0, hrow⟩ := hso.row
  have H0 := Lib.hid hr0
  have HROW := Lib.hid hrow
  have HGG := Lib.hid hg
  have hRg : R ≠ g := by have := hso.lts.2.2.2.1; omega
  have HRG := Lib.hid hRg
  have hgw : g < w.heap.size := (Array.getElem?_eq_some_iff.1 hg).1
  have cx0 : w.cell? ⟨Bx, 0, none⟩ = some (.slice xq n cx) := by simp [World.cell?, hso.bx]
  have HPB : Hid ((pk ix axes).length = n) := Lib.hid (by rw [pk_len, hal.out])
  have HSM : Hid (∀ x ∈ pk ix axes, (x : Int) ≤ 9223372036854775807) := Lib.hid (fun x hx => by
    obtain ⟨j, hj, e⟩ := List.getElem_of_mem hx
    have h1 := HTI.out.2 j (by rw [← HTI.out.1]; exact hj)
    rw [List.getD_eq_getElem?_getD, List.getElem?_eq_getElem hj, Option.getD_some, e] at h1
    have h2 := hsb.out (s.getD j 0) (by rw [List.getD_eq_getElem?_getD, List.getElem?_eq_getElem (by rw [← HTI.out.1]; exact hj)]; exact List.getElem_mem _)
    omega)
  clear hso hg hrow hr0 hRg
  go_enter Tryz.func114, Tryz.ntmps114
  go_wp2_with fail
  go_loopw [10] (fun iv wr => ∃ (j : Nat), j ≤ n ∧ iv = .int .i64 j ∧ Hid (wr.heap[R]? = some (.cells (ixC ((pk ix axes).take j ++ r0.drop j)) 3 (0, 0))) ∧ Hid (w.grownBy wr (some R))) (fun iv _ => n - (Go.RowKit.intOf iv).toNat)
  case atStart => exact ⟨0, Nat.zero_le _, rfl, Lib.hid (by simpa using HROW.out), Lib.hid ⟨rfl, rfl, rfl, Nat.le_refl _, fun _ _ _ => rfl⟩⟩
  case round =>
    obtain ⟨j, hj, rfl, HR, HB⟩ := hrel
    have ij : (j : Int) ≤ (n : Int) := by omega
    by_cases hlt : j < n
    · have ilt : (j : Int) < (n : Int) := by omega
      have hja : j < axes.length := by rw [hal.out]; exact hlt
      have HS2 := Lib.hid (HSO.out.atRow HB.out ⟨_, by rw [List.length_append, List.length_take, List.length_drop, HPB.out, H0.out]; omega, HR.out⟩)
      obtain ⟨b1, o1, x, e1, hb1, hc1, HX⟩ := HS2.out.ax.at hja
      subst e1
      have hxk : x < k := by
        rw [HX.out, List.getD_eq_getElem?_getD, List.getElem?_eq_getElem hja]
        exact hab.out _ (List.getElem_mem _)
      have ixk : (x : Int) < (k : Int) := by omega
      have hRw : R < wr.heap.size := (Array.getElem?_eq_some_iff.1 HR.out).1
      obtain ⟨v, HV⟩ : ∃ v, Hid (v = ix.getD x 0) := ⟨_, rfl⟩
      have HALL : Hid (∀ W, w.grownBy W (some R) → W.cell? ⟨Bf, 0, none⟩ = some (.slice (some ⟨R, 0, none⟩) n n) ∧ W.cell? ⟨g, x, none⟩ = some (.int .i64 (v : Int))) := Lib.hid (fun W hW => by
        have k1 := (hW.block Bf (Array.getElem?_eq_some_iff.1 HSO.out.bf).1 (by intro e; injection e with e; exact HSO.out.lts.2.2.2.2.2.2 e)).trans HSO.out.bf
        have k2 := (hW.block g hgw (by intro e; injection e with e; exact HRG.out e.symm)).trans HGG.out
        exact ⟨by simp [World.cell?, k1], by rw [HV.out]; exact cell_row k2 (by rw [hix.out.1, ht.out]; exact hxk)⟩)
      have HBD : Hid (w.grownBy wr.drew (some R)) := Lib.hid (HB.out.trans ⟨rfl, rfl, rfl, Nat.le_refl _, fun _ _ _ => rfl⟩)
      have HS1 : Hid ((fun W => W.cell? ⟨Bf, 0, none⟩ = some (.slice (some ⟨R, 0, none⟩) n n) ∧ W.cell? ⟨g, x, none⟩ = some (.int .i64 (v : Int))) wr.drew) := Lib.hid (HALL.out _ HBD.out)
      have htl : ((pk ix axes).take j).length = j := by rw [List.length_take, HPB.out]; omega
      have hrd : r0.drop j = r0.getD j 0 :: r0.drop (j + 1) := by
        rw [List.drop_eq_getElem_cons (by rw [H0.out]; exact hlt), List.getD_eq_getElem?_getD, List.getElem?_eq_getElem (by rw [H0.out]; exact hlt)]; rfl
      have hRd : wr.drew.heap[R]? = some (.cells (ixC ((pk ix axes).take j ++ r0.drop j)) 3 (0, 0)) := HR.out
      have hcr : wr.drew.cell? ⟨R, j, none⟩ = some (.int .i64 ((r0.getD j 0 : Nat) : Int)) := by
        have h := cell_row hRd (k := j) (by rw [List.length_append, htl, List.length_drop, H0.out]; omega)
        rw [hrd, getD_mid htl] at h
        exact h
      have hfr : wr.drew.frozen? ⟨R, j, none⟩ = false := free_row hRd
      have hva : (pk ix axes).getD j 0 = v := by rw [pk_at hja, ← HX.out, HV.out]
      obtain ⟨W5, hW5⟩ : ∃ W5, (wr.setCell ⟨R, j, none⟩ (.int .i64 (v : Int))).drew = W5 := ⟨_, rfl⟩
      have hg5 : wr.drew.grownBy W5 (some R) := by rw [← hW5]; exact gb_set wr.drew _ _ _
      have HB5 : Hid (w.grownBy W5 (some R)) := Lib.hid (HBD.out.trans hg5)
      have HS5 : Hid ((fun W => W.cell? ⟨Bf, 0, none⟩ = some (.slice (some ⟨R, 0, none⟩) n n) ∧ W.cell? ⟨g, x, none⟩ = some (.int .i64 (v : Int))) W5) := Lib.hid (HALL.out _ HB5.out)
      have HR5 : Hid (W5.heap[R]? = some (.cells (ixC ((pk ix axes).take (j + 1) ++ r0.drop (j + 1))) 3 (0, 0))) := Lib.hid (by
        have h := heap_set wr.drew R j (.int .i64 (v : Int)) _ _ hRd
        rw [hrd, ixC_set ((pk ix axes).take j) (r0.getD j 0) v _ htl] at h
        change ((wr.setCell ⟨R, j, none⟩ (.int .i64 (v : Int))).drew).heap[R]? = _ at h
        rw [hW5] at h
        rw [take_succ' (by rw [pk_len]; exact hja), List.append_assoc, hva]
        exact h)
      clear hRd hg5 hrd htl hva
      go_wp2_with fail
      refine wp_region_noPanic ?_
      refine wp_region_held_drew (S := fun W => W.cell? ⟨Bf, 0, none⟩ = some (.slice (some ⟨R, 0, none⟩) n n) ∧ W.cell? ⟨g, x, none⟩ = some (.int .i64 (v : Int))) (by kernel_rfl) HS1.out (fun hHeld => ?_)
      refine wpAnyH_take (i := 0) (v := ?v15) rfl (by kernel_rfl) (by kernel_rfl) (by kernel_rfl) (fun _ _ _ h => h) (Or.inl ⟨by rfl, ?hy15⟩) (by assumption) ?rest15
      case hy15 =>
        intro W' hSw
        obtain ⟨e0, e1⟩ := hSw
        go_simp
        with_reducible rfl
      simp only [List.getElem_toArray, List.getElem_cons_zero, Act.put, List.setIfInBounds_toArray, List.set_cons_zero, List.set_cons_succ]
      refine wpAnyH_take (i := 1) (v := ?v16) rfl (by kernel_rfl) (by kernel_rfl) (by kernel_rfl) (fun _ _ _ h => h) (Or.inl ⟨by rfl, ?hy16⟩) (by assumption) ?rest16
      case hy16 =>
        intro W' hSw
        obtain ⟨e0, e1⟩ := hSw
        go_simp
        with_reducible rfl
      simp only [List.getElem_toArray, List.getElem_cons_zero, List.getElem_cons_succ, Act.put, List.setIfInBounds_toArray, List.set_cons_zero, List.set_cons_succ]
      refine wpAnyH_take (i := 2) (v := ?v17) rfl (by kernel_rfl) (by kernel_rfl) (by kernel_rfl) (fun _ _ _ h => h) (Or.inl ⟨by rfl, ?hy17⟩) (by assumption) ?rest17
      case hy17 =>
        intro W' hSw
        obtain ⟨e0, e1⟩ := hSw
        go_simp
        with_reducible rfl
      simp only [List.getElem_toArray, List.getElem_cons_zero, List.getElem_cons_succ, Act.put, List.setIfInBounds_toArray, List.set_cons_zero, List.set_cons_succ]
      refine wpAnyH_take (i := 3) (v := ?v18) rfl (by kernel_rfl) (by kernel_rfl) (by kernel_rfl) (fun _ _ _ h => h) (Or.inl ⟨by rfl, ?hy18⟩) (by assumption) ?rest18
      case hy18 =>
        intro W' hSw
        obtain ⟨e0, e1⟩ := hSw
        go_simp
        with_reducible rfl
      simp only [List.getElem_toArray, List.getElem_cons_zero, List.getElem_cons_succ, Act.put, List.setIfInBounds_toArray, List.set_cons_zero, List.set_cons_succ]
      refine wpAnyH_take (i := 4) (v := ?v19) rfl (by kernel_rfl) (by kernel_rfl) (by kernel_rfl) (fun _ _ _ h => h) (Or.inl ⟨by rfl, ?hy19⟩) (by assumption) ?rest19
      case hy19 =>
        intro W' hSw
        obtain ⟨e0, e1⟩ := hSw
        go_simp
        with_reducible rfl
      simp only [List.getElem_toArray, List.getElem_cons_zero, List.getElem_cons_succ, Act.put, List.setIfInBounds_toArray, List.set_cons_zero, List.set_cons_succ]
      refine wpAnyH_take (i := 5) (v := ?v20) rfl (by kernel_rfl) (by kernel_rfl) (by kernel_rfl) (fun _ _ _ h => h) (Or.inl ⟨by rfl, ?hy20⟩) (by assumption) ?rest20
      case hy20 =>
        intro W' hSw
        obtain ⟨e0, e1⟩ := hSw
        go_simp
        with_reducible rfl
      simp only [List.getElem_toArray, List.getElem_cons_zero, List.getElem_cons_succ, Act.put, List.setIfInBounds_toArray, List.set_cons_zero, List.set_cons_succ]
      refine wpAnyH_take (i := 6) (v := ?v21) rfl (by kernel_rfl) (by kernel_rfl) (by kernel_rfl) (fun _ _ _ h => h) (Or.inl ⟨by rfl, ?hy21⟩) (by assumption) ?rest21
      case hy21 =>
        intro W' hSw
        obtain ⟨e0, e1⟩ := hSw
        go_simp
        with_reducible rfl
      simp only [List.getElem_toArray, List.getElem_cons_zero, List.getElem_cons_succ, Act.put, List.setIfInBounds_toArray, List.set_cons_zero, List.set_cons_succ]
      refine wpAnyH_ready (rs := [7]) (by kernel_rfl) (by simp) ?_
      refine AllReadyH.cons (i := 7) rfl (fun K hK => ?_) AllReadyH.nil
      go_simp
      try rw [hW5]
      refine hK.out _ _ HS5.out (fun hHeld3 => ?_)
      clear hK K
      refine wpAnyH_done (by kernel_rfl) ?_ _
      refine NoPanic.normal ?_
      clear hHeld hHeld3
      go_wp2_with fail
      go_roundw
      case rel => exact ⟨j + 1, by omega, by go_num, HR5, HB5⟩
      case measure => simp [Go.RowKit.intOf]; omega
    · obtain rfl : j = n := by omega
      have ilt : ¬ (j : Int) < (j : Int) := by omega
      have hR2 : wr.heap[R]? = some (.cells (ixC (pk ix axes)) 3 (0, 0)) := by
        have h := HR.out
        rw [List.take_of_length_le (by rw [HPB.out]; exact Nat.le_refl _), List.drop_of_length_le (by rw [H0.out]; exact Nat.le_refl _), List.append_nil] at h
        exact h
      have HS2 := Lib.hid (HSO.out.atRow HB.out ⟨_, HPB.out, hR2⟩)
      have H51 : Hid (Calls Tryz.prog 54 #[.agg #[.slice p j c, .slice q m d], .slice (some ⟨R, 0, none⟩) j j] wr fun e w' => w' = (wr.alloc (.cells #[.slice p j c, .slice q m d] 25)).drew ∧ e = .returned (.string ⟨List.toArray (l.getD N [])⟩)) := Lib.hid
        (element_any p q (some ⟨R, 0, none⟩) c d j j m N s (pk ix axes) l wr hn hm hs h4 hl HTI HK hkm HS2.out.sh HS2.out.vals (rdn_row hR2 HSM.out))
      have r1 : wr.cell? ⟨Bf, 0, none⟩ = some (.slice (some ⟨R, 0, none⟩) j j) := by simp [World.cell?, HS2.out.bf]
      have r2 : wr.cell? ⟨Ba, 0, none⟩ = some (.slice p j c) := by simp [World.cell?, HS2.out.ba]
      have r3 : wr.cell? ⟨Ba, 1, none⟩ = some (.slice q m d) := by simp [World.cell?, HS2.out.ba]
      clear hR2
      go_wp2_with fail
      refine (H51.out).mono ?_
      rintro e w2 ⟨e2, rfl⟩
      have hB2 : Below wr.heap.size wr w2 := by rw [e2]; exact Below.trans ((Below.refl _ wr).alloc (Nat.le_refl _) _) ⟨rfl, rfl, rfl, Nat.le_refl _, fun _ _ => rfl⟩
      have HFIN : Hid (w.grownBy w2 (some R) ∧ KeepsOthers w w2 ∧ Sp B0 Ba Bx Bf R j m c d cx p q xq s axes l w2) := Lib.hid (by
        have h1 := HB.out.trans (gb_of_below hB2 (some R))
        refine ⟨h1, KeepsOthers.of_grownBy h1 (fun j o e ho => ?_), HS2.out.above (gb_of_below hB2 none) (fun k e => by cases e)⟩
        cases e
        obtain ⟨r1, -, h2⟩ := HSO.out.row
        rw [h2] at ho; cases ho; rfl)
      clear e2 hB2 r1 r2 r3
      go_wp2_with fail
      go_ret
      exact ⟨rfl, HFIN.out⟩
end Go.Proofs.YtigidchicloleaaGreatDoor.Arr
set_option maxHeartbeats 4000000
set_option maxRecDepth 100000
namespace Go.Proofs.YtigidchicloleaaGreatDoor.Arr
open Go.RowKit Go.Shelf
open Go.Lib
attribute [local go_sem] Oper.semAt_some
def sprV (s t axes : List Nat) (l : List (List UInt8)) : List (List UInt8) := (List.range (prod t)).map (fun i => l.getD (plc s (pk (ixOf t i) axes) 0) [])
def SpreadPost (w : World) (k : Nat) (t : List Nat) (V0 : List (List UInt8)) (e : Ending) (w' : World) : Prop :=
  Below w.heap.size w w' ∧ ∃ q d V, e = .returned (.agg #[.slice q k d, .slice (some ⟨V, 0, none⟩) (prod t) (prod t)]) ∧ RdN w' q t ∧ k ≤ d ∧ (q = none → d = 0) ∧ (∀ b off, q = some ⟨b, off, none⟩ → w.heap.size ≤ b) ∧ RdS w' (some ⟨V, 0, none⟩) V0 ∧ w.heap.size ≤ V
theorem hent91 : ∀ args W, (callFunc 114 args).run Tryz.prog W = .ok (.enter 114 args) W := by
  intro args W
  have h1 : ¬ Tryz.f114.name = "runtime.NumGoroutine" := of_decide_eq_false (by kernel_rfl)
  have h2 : ¬ Tryz.f114.body = none := fun h => by
    have h3 : Tryz.f114.body.isNone = false := by kernel_rfl
    rw [h] at h3; cases h3
  simp [callFunc, h1, h2]
theorem spread_any (p q xq yq : Option Addr) (c d n m k cx cy : Nat) (s t axes : List Nat) (l : List (List UInt8)) (w : World) (hn : n ≤ 4) (hm : m ≤ 5000) (hs : Hid (s.length = n)) (hsb : Hid (∀ x ∈ s, x ≤ 1024)) (h4 : prod s ≤ 4096) (hl : Hid (l.length = m)) (hmp : Hid (m = prod s)) (hk : k ≤ 4) (ht : Hid (t.length = k)) (htb : Hid (∀ x ∈ t, x ≤ 1024)) (ht4 : prod t ≤ 4096) (hal : Hid (axes.length = n)) (hab : Hid (∀ x ∈ axes, x < k)) (hpk : Hid (pk t axes = s))
    (hp : RdN w p s) (hq : RdS w q l) (hx : RdN w xq axes) (hy : RdN w yq t) :
    Calls Tryz.prog 83 #[.agg #[.slice p n c, .slice q m d], .slice xq n cx, .slice yq k cy] w (SpreadPost w k t (sprV s t axes l)) := by
  have HP := Lib.hid hp
  have HQ := Lib.hid hq
  have HX := Lib.hid hx
  have HY := Lib.hid hy
  have hni : (n : Int) ≤ 4 := by omega
  have hki : (k : Int) ≤ 4 := by omega
  have hmk := fun W => make_ints n (by omega) W
  obtain ⟨A, HA⟩ : ∃ A, Hid (A = w.heap.size) := ⟨_, Lib.hid rfl⟩
  obtain ⟨W4, HW4⟩ : ∃ W4, Hid (((((w.alloc (.cells #[.slice p n c, .slice q m d] 25)).alloc (.cells #[.slice xq n cx] 22)).alloc (.cells #[.slice none 0 0, .slice none 0 0] 25)).alloc (.cells (ixC (zn n)) 3)).alloc (.cells #[.slice (some ⟨A + 1 + 1 + 1, 0, none⟩) n n] 22) = W4) := ⟨_, Lib.hid rfl⟩
  have HB4 : Hid (Below w.heap.size w W4) := Lib.hid (by
    rw [← HW4.out]
    exact (((((Below.refl _ w).alloc (Nat.le_refl _) _).alloc (by simp) _).alloc (by simp; omega) _).alloc (by simp; omega) _).alloc (by simp; omega) _)
  have hs4 : W4.heap.size = A + 5 := by rw [← HW4.out, HA.out]; simp
  have b0 : W4.heap[A]? = some (.cells #[.slice p n c, .slice q m d] 25 (0, 0)) := by
    rw [← HW4.out, HA.out]; simp only [World.alloc, Array.getElem?_push, Array.size_push]
    repeat' (first | rw [if_pos (by omega)] | rw [if_neg (by omega)] | rfl)
  have b1 : W4.heap[A + 1]? = some (.cells #[.slice xq n cx] 22 (0, 0)) := by
    rw [← HW4.out, HA.out]; simp only [World.alloc, Array.getElem?_push, Array.size_push]
    repeat' (first | rw [if_pos (by omega)] | rw [if_neg (by omega)] | rfl)
  have b2 : W4.heap[A + 1 + 1]? = some (.cells #[.slice none 0 0, .slice none 0 0] 25 (0, 0)) := by
    rw [← HW4.out, HA.out]; simp only [World.alloc, Array.getElem?_push, Array.size_push]
    repeat' (first | rw [if_pos (by omega)] | rw [if_neg (by omega)] | rfl)
  have b3 : W4.heap[A + 1 + 1 + 1]? = some (.cells (ixC (zn n)) 3 (0, 0)) := by
    rw [← HW4.out, HA.out]; simp only [World.alloc, Array.getElem?_push, Array.size_push]
    repeat' (first | rw [if_pos (by omega)] | rw [if_neg (by omega)] | rfl)
  have b4 : W4.heap[A + 1 + 1 + 1 + 1]? = some (.cells #[.slice (some ⟨A + 1 + 1 + 1, 0, none⟩) n n] 22 (0, 0)) := by
    rw [← HW4.out, HA.out]; simp only [World.alloc, Array.getElem?_push, Array.size_push]
    repeat' (first | rw [if_pos (by omega)] | rw [if_neg (by omega)] | rfl)
  have HSP : Hid (Sp W4.heap.size A (A + 1) (A + 1 + 1 + 1 + 1) (A + 1 + 1 + 1) n m c d cx p q xq s axes l W4) := Lib.hid (by
    have h0 := HA.out
    refine ⟨b0, b1, b4, ⟨zn n, by simp [zn], b3⟩, HP.out.below HB4.out, HQ.out.below HB4.out, HX.out.below HB4.out, by omega, fun b off e h0 => ?_, fun b off e h0 => ?_, fun b off e h0 => ?_⟩
    · obtain ⟨b', off', x, e', hb', -⟩ := HP.out.at h0
      rw [e] at e'; cases e'; omega
    · obtain ⟨b', off', x, e', hb', -⟩ := HQ.out.at h0
      rw [e] at e'; cases e'; omega
    · obtain ⟨b', off', x, e', hb', -⟩ := HX.out.at h0
      rw [e] at e'; cases e'; omega)
  have HAW : Hid (w.heap.size ≤ A) := Lib.hid (by rw [HA.out]; exact Nat.le_refl _)
  have HS4 := Lib.hid hs4
  have Hb2 := Lib.hid b2
  have H46 : Hid (Calls Tryz.prog 49 #[.slice yq k cy, .func (.func 114) #[] #[.pointer (some ⟨A + 1, 0, none⟩), .pointer (some ⟨A + 1 + 1 + 1 + 1, 0, none⟩), .pointer (some ⟨A, 0, none⟩)]] W4 (BuildPost W4 k (prod t) t (fun i => l.getD (plc s (pk (ixOf t i) axes) 0) []) (some (A + 1 + 1 + 1)) (Sp W4.heap.size A (A + 1) (A + 1 + 1 + 1 + 1) (A + 1 + 1 + 1) n m c d cx p q xq s axes l))) := Lib.hid (by
    refine build_any yq cy k (prod t) 114 _ t _ (some (A + 1 + 1 + 1)) _ W4 hk ht htb (Lib.hid rfl) ht4 (HY.out.below HB4.out) (fun r e => by cases e; omega) (fun b off e h0 => ?_) hent91 HSP.out (fun X Y r hX hg hr => hX.above hg hr) ?_
    · obtain ⟨b', off', x, e', hb', -⟩ := HY.out.at (k := 0) (by rw [ht.out]; exact h0)
      rw [e] at e'; cases e'
      have := HA.out
      intro e2; injection e2 with e2; omega
    · intro i g' W hi hW hg' hg0
      exact (spread1_any W4.heap.size A (A + 1) (A + 1 + 1 + 1 + 1) (A + 1 + 1 + 1) n m k c d cx k g' p q xq s t axes (ixOf t i) l W hn hm hs hsb h4 hl hmp hk ht hal hab hpk (Lib.hid (ixOf_is t i hi).1) hW hg' hg0).mono (fun e W' ⟨h1, h2, h3, h4⟩ => ⟨h1, h2, h3, h4⟩))
  clear b0 b1 b2 b3 b4 hs4 hp hq hx hy
  go_enter Tryz.func83, Tryz.ntmps83
  go_wp2_with fail
  rw [← HA.out, HW4.out]
  refine (H46.out).mono ?_
  rintro e w6 ⟨hg6, -, q', d', V, rfl, hr1, hr2, hr3, hr4, hr5, hr6⟩
  have hsz := HS4.out
  have hAw := HAW.out
  have y6 : w6.heap[A + 1 + 1]? = some (.cells #[.slice none 0 0, .slice none 0 0] 25 (0, 0)) := (hg6.block (A + 1 + 1) (by omega) (by intro e; injection e with e; omega)).trans Hb2.out
  have r0 : w6.cell? ⟨A + 1 + 1, 0, none⟩ = some (.slice none 0 0) := by simp [World.cell?, y6]
  have r1 : w6.cell? ⟨A + 1 + 1, 1, none⟩ = some (.slice none 0 0) := by simp [World.cell?, y6]
  have z0 : w6.frozen? ⟨A + 1 + 1, 0, none⟩ = false := by simp [World.frozen?, y6]
  have z1 : w6.frozen? ⟨A + 1 + 1, 1, none⟩ = false := by simp [World.frozen?, y6]
  have hE1 := heap_set w6 (A + 1 + 1) 0 (.slice q' k d') _ _ y6
  have hE2 := heap_set _ (A + 1 + 1) 1 (.slice (some ⟨V, 0, none⟩) (prod t) (prod t)) _ _ hE1
  obtain ⟨W7, hW7⟩ : ∃ W7, (w6.setCell ⟨A + 1 + 1, 0, none⟩ (.slice q' k d')).setCell ⟨A + 1 + 1, 1, none⟩ (.slice (some ⟨V, 0, none⟩) (prod t) (prod t)) = W7 := ⟨_, rfl⟩
  rw [hW7] at hE2
  have k0 : W7.cell? ⟨A + 1 + 1, 0, none⟩ = some (.slice q' k d') := by simp [World.cell?, hE2]
  have k1 : W7.cell? ⟨A + 1 + 1, 1, none⟩ = some (.slice (some ⟨V, 0, none⟩) (prod t) (prod t)) := by simp [World.cell?, hE2]
  have hg67 : w6.grownBy W7 (some (A + 1 + 1)) := by rw [← hW7]; exact (gb_set _ _ _ _).trans (gb_set _ _ _ _)
  have HFIN : Hid (SpreadPost w k t (sprV s t axes l) (.returned (.agg #[.slice q' k d', .slice (some ⟨V, 0, none⟩) (prod t) (prod t)])) W7) := Lib.hid (by
    have o1 := gb_trans_new (gb_of_below HB4.out none) hg6 (by omega)
    have o2 := gb_trans_new o1 hg67 (by omega)
    refine ⟨⟨o2.os, o2.tape, o2.output, o2.size, fun k hk => o2.block k hk (by intro e; cases e)⟩, q', d', V, rfl, ?_, hr2, hr3, fun b off e => Nat.le_trans (by omega) (hr4 b off e), ?_, by omega⟩
    · refine hr1.keep hg67.size (fun b off e h0 => ?_)
      obtain ⟨b', off', x, e', hb', -⟩ := hr1.at h0
      rw [e] at e'; cases e'
      exact hg67.block b hb' (by intro e2; injection e2 with e2; have := hr4 b off e; omega)
    · refine hr5.keep hg67.size (fun b off e h0 => ?_)
      obtain ⟨b', off', x, e', hb', -⟩ := hr5.at h0
      rw [e] at e'; cases e'
      cases e
      exact hg67.block V hb' (by intro e2; injection e2 with e2; omega))
  clear hr1 hr2 hr3 hr4 hr5 hr6 hg6 hg67 hE1 hE2 y6 hsz hAw H46 HSP hmk
  go_wp2_with fail
  (try simp only [Exit.inBlock, Exit.then])
  refine bodyPost_ret (v := .agg #[.slice q' k d', .slice (some ⟨V, 0, none⟩) (prod t) (prod t)]) ?_ rfl HFIN.out
  simp [results, Tryz.f83, go_sem, k0, k1]
end Go.Proofs.YtigidchicloleaaGreatDoor.Arr
