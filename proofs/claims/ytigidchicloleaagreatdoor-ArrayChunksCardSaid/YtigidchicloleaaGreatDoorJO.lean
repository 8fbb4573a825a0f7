/- The program's Resize. -/
import Derived.Test.YtigidchicloleaaGreatDoorIA
import Derived.Test.YtigidchicloleaaGreatDoorJA
import Derived.Test.YtigidchicloleaaGreatDoorJM
import Derived.Test.YtigidchicloleaaGreatDoorJK
import Derived.Test.YtigidchicloleaaGreatDoorGV
namespace Go.Proofs.YtigidchicloleaaGreatDoor.Arr
open Go.RowKit Go.Shelf
open Go.Lib
attribute [local go_sem] Oper.semAt_some
structure RO (B0 A n m c d : Nat) (p q : Option Addr) (s : List Nat) (l : List (List UInt8)) (v : List UInt8) (W : World) : Prop where
  box : W.heap[A]? = some (.cells #[.slice p n c, .slice q m d] 25 (0, 0))
  bv : W.heap[A + 1]? = some (.cells #[.string ⟨List.toArray v⟩] 9 (0, 0))
  sh : RdN W p s
  vals : RdS W q l
  lt : A + 1 < B0
  pb : ∀ b off, p = some ⟨b, off, none⟩ → 0 < s.length → b < B0
  qb : ∀ b off, q = some ⟨b, off, none⟩ → 0 < l.length → b < B0
theorem RO.above {B0 A n m c d : Nat} {p q : Option Addr} {s : List Nat} {l : List (List UInt8)} {v : List UInt8} {W W' : World} {r : Option Nat} (h : RO B0 A n m c d p q s l v W) (hg : W.grownBy W' r) (hr : ∀ k, r = some k → B0 ≤ k) : RO B0 A n m c d p q s l v W' := by
  have hk : ∀ b, b < W.heap.size → b < B0 → W'.heap[b]? = W.heap[b]? := fun b h1 h2 => hg.block b h1 (by intro e; have := hr b e.symm; omega)
  have hl := h.lt
  refine ⟨(hk A (Array.getElem?_eq_some_iff.1 h.box).1 (by omega)).trans h.box, (hk (A + 1) (Array.getElem?_eq_some_iff.1 h.bv).1 hl).trans h.bv, h.sh.keep hg.size (fun b off e h0 => ?_), h.vals.keep hg.size (fun b off e h0 => ?_), hl, h.pb, h.qb⟩
  · obtain ⟨b', off', x, e', hb', -⟩ := h.sh.at h0
    rw [e] at e'; cases e'
    exact hk b hb' (h.pb b off e h0)
  · obtain ⟨b', off', x, e', hb', -⟩ := h.vals.at h0
    rw [e] at e'; cases e'
    exact hk b hb' (h.qb b off e h0)
end Go.Proofs.YtigidchicloleaaGreatDoor.Arr
namespace Go.Proofs.YtigidchicloleaaGreatDoor.Arr
open Go.RowKit Go.Shelf
open Go.Lib
attribute [local go_sem] Oper.semAt_some
theorem tou_bad {s z : List Int} {cuts : List (Int × Int × Int)} (h : (touR s z cuts).1 ≠ 0) : (touR s z cuts).2 = [] := by
  unfold touR at h ⊢
  by_cases h1 : chkV s z ≠ 0
  · rw [if_pos h1]
  · rw [if_neg h1] at h ⊢
    by_cases h2 : slabOk (s.map Int.toNat) cuts = false
    · rw [if_pos h2]
    · rw [if_neg h2] at h; exact absurd rfl h
theorem tou_good {s z : List Int} {cuts : List (Int × Int × Int)} (h : (touR s z cuts).1 = 0) : ∃ s0 z0 : List Nat, s = s0.map Int.ofNat ∧ z = z0.map Int.ofNat ∧ Shp s0 ∧ z0.length = s0.length ∧ (∀ x ∈ z0, 1 ≤ x ∧ x ≤ 1024) ∧ slabOk s0 cuts = true ∧ (touR s z cuts).2 = (chunksL s0 z0).filter (meetsT s0 z0 cuts) ∧ chunksR s z = (0, chunksL s0 z0) := by
  unfold touR at h ⊢
  by_cases h1 : chkV s z ≠ 0
  · rw [if_pos h1] at h; exact absurd h h1
  · rw [if_neg h1] at h ⊢
    have h3 := Classical.not_not.1 h1
    by_cases h2 : slabOk (s.map Int.toNat) cuts = false
    · rw [if_pos h2] at h; cases h
    · rw [if_neg h2]
      obtain ⟨s0, z0, rfl, rfl, hsh, hzl, hzb⟩ := chk_zero h3
      rw [toNat_map] at h2 ⊢
      rw [toNat_map]
      refine ⟨s0, z0, rfl, rfl, hsh, hzl, hzb, by simpa using h2, touched_filter s0 z0 cuts, ?_⟩
      unfold chunksR
      rw [if_neg h1, toNat_map, toNat_map]
structure Vc (w W0 : World) (A : Nat) (p q r sq : Option Addr) (n c k d m f u g : Nat) (W : World) : Prop where
  below : Below w.heap.size w W
  more : Below W0.heap.size W0 W
  c0 : W.cell? ⟨A, 0, none⟩ = some (.slice p n c)
  c1 : W.cell? ⟨A, 1, none⟩ = some (.slice q k d)
  c2 : W.cell? ⟨A, 2, none⟩ = some (.slice r m f)
  c3 : W.cell? ⟨A, 3, none⟩ = some (.slice sq u g)
end Go.Proofs.YtigidchicloleaaGreatDoor.Arr
set_option maxHeartbeats 2000000
set_option maxRecDepth 100000
namespace Go.Proofs.YtigidchicloleaaGreatDoor.Arr
open Go.RowKit Go.Shelf
open Go.Lib
attribute [local go_sem] Oper.semAt_some
theorem indexes_any (p q : Option Addr) (c d n : Nat) (L : List (List Nat)) (w : World) (hl : Hid (L.length = n)) (hn : n ≤ 4096) (hb : Hid (∀ x ∈ L, x.length ≤ 1000)) (hp : RdL w p L) (hq : RdL w q L) :
    Calls Tryz.prog 36 #[.slice p n c, .slice q n d] w fun e w' => Below w.heap.size w w' ∧ e = .returned (.bool true) := by
  have HP := Lib.hid hp
  have HQ := Lib.hid hq
  have hni : (n : Int) ≤ 4096 := by omega
  have hnn : ((n : Int) != (n : Int)) = false := by simp
  have HB0 := Lib.hid (Below.refl w.heap.size w)
  clear hp hq
  go_enter Tryz.func36, Tryz.ntmps36
  go_wp2_with fail
  go_loopw [5] (fun iv wr => ∃ i : Nat, i ≤ n ∧ iv = .int .i64 i ∧ Hid (Below w.heap.size w wr)) (fun iv _ => n - (Go.RowKit.intOf iv).toNat)
  case atStart => exact ⟨0, Nat.zero_le _, rfl, HB0⟩
  case round =>
    obtain ⟨i, hi, rfl, HBR⟩ := hrel
    have ii : (i : Int) ≤ (n : Int) := by omega
    by_cases hlt : i < n
    · have ilt : (i : Int) < (n : Int) := by omega
      have hil : i < L.length := by rw [hl.out]; exact hlt
      obtain ⟨b1, o1, p1, c1, e1, hb1, hc1, hr1⟩ := HP.out.at hil
      obtain ⟨b2, o2, p2, c2, e2, hb2, hc2, hr2⟩ := HQ.out.at hil
      subst e1 e2
      obtain ⟨ix, HIX⟩ : ∃ ix, Hid (L.getD i [] = ix) := ⟨_, Lib.hid rfl⟩
      obtain ⟨u, HU⟩ : ∃ u, Hid (ix.length = u) := ⟨_, Lib.hid rfl⟩
      rw [HIX.out] at hc1 hr1 hc2 hr2
      rw [HU.out] at hc1 hc2
      have hu : u ≤ 1000 := by
        have h := hb.out (L.getD i []) (by rw [List.getD_eq_getElem?_getD, List.getElem?_eq_getElem hil]; exact List.getElem_mem _)
        rwa [HIX.out, HU.out] at h
      have HSS : Hid (∀ X, Below wr.heap.size wr X → X.cell? ⟨b1, o1 + i, none⟩ = some (.slice p1 u c1) ∧ X.cell? ⟨b2, o2 + i, none⟩ = some (.slice p2 u c2)) := Lib.hid (fun X hX =>
        ⟨((HBR.out.trans (hX.mono HBR.out.size)).cell (p := ⟨b1, o1 + i, none⟩) hb1).trans hc1, ((HBR.out.trans (hX.mono HBR.out.size)).cell (p := ⟨b2, o2 + i, none⟩) hb2).trans hc2⟩)
      have HBD : Hid (Below wr.heap.size wr wr.drew) := Lib.hid ⟨rfl, rfl, rfl, Nat.le_refl _, fun _ _ => rfl⟩
      have H39 : Hid (Calls Tryz.prog 40 #[.slice p1 u c1, .slice p2 u c2] wr.drew fun e w' => (∃ k, wr.drew.drewN k = w') ∧ e = .returned (.bool true)) := Lib.hid (by
        have hwd : Below w.heap.size w wr.drew := HBR.out.trans (HBD.out.mono HBR.out.size)
        have := same39_any p1 p2 c1 c2 u u (ix.map Int.ofNat) (ix.map Int.ofNat) wr.drew (Lib.hid (by rw [List.length_map, HU.out])) (Lib.hid (by rw [List.length_map, HU.out])) hu (RdN.below hr1 hwd) (RdN.below hr2 hwd)
        rwa [decide_eq_true rfl] at this)
      clear hc1 hc2 hr1 hr2 hb1 hb2 hil hu
      go_wp2_with fail
      refine wp_region_noPanic ?_
      refine wp_region_held_drew (S := fun W => W.cell? ⟨b1, o1 + i, none⟩ = some (.slice p1 u c1) ∧ W.cell? ⟨b2, o2 + i, none⟩ = some (.slice p2 u c2)) (by kernel_rfl) (HSS.out _ HBD.out) (fun hHeld => ?_)
      refine wpAnyH_take (i := 0) (v := ?v1) rfl (by kernel_rfl) (by kernel_rfl) (by kernel_rfl) (fun _ _ _ h => h) (Or.inl ⟨by rfl, ?hy1⟩) (by assumption) ?rest1
      case hy1 =>
        intro W' hSw
        obtain ⟨e0, e1⟩ := hSw
        go_simp
        with_reducible rfl
      simp only [List.getElem_toArray, List.getElem_cons_zero, Act.put, List.setIfInBounds_toArray, List.set_cons_zero, List.set_cons_succ]
      refine wpAnyH_take (i := 1) (v := ?v2) rfl (by kernel_rfl) (by kernel_rfl) (by kernel_rfl) (fun _ _ _ h => h) (Or.inl ⟨by rfl, ?hy2⟩) (by assumption) ?rest2
      case hy2 =>
        intro W' hSw
        obtain ⟨e0, e1⟩ := hSw
        go_simp
        with_reducible rfl
      simp only [List.getElem_toArray, List.getElem_cons_zero, List.getElem_cons_succ, Act.put, List.setIfInBounds_toArray, List.set_cons_zero, List.set_cons_succ]
      refine wpAnyH_take (i := 2) (v := ?v3) rfl (by kernel_rfl) (by kernel_rfl) (by kernel_rfl) (fun _ _ _ h => h) (Or.inl ⟨by rfl, ?hy3⟩) (by assumption) ?rest3
      case hy3 =>
        intro W' hSw
        obtain ⟨e0, e1⟩ := hSw
        go_simp
        with_reducible rfl
      simp only [List.getElem_toArray, List.getElem_cons_zero, List.getElem_cons_succ, Act.put, List.setIfInBounds_toArray, List.set_cons_zero, List.set_cons_succ]
      refine wpAnyH_take (i := 3) (v := ?v4) rfl (by kernel_rfl) (by kernel_rfl) (by kernel_rfl) (fun _ _ _ h => h) (Or.inl ⟨by rfl, ?hy4⟩) (by assumption) ?rest4
      case hy4 =>
        intro W' hSw
        obtain ⟨e0, e1⟩ := hSw
        go_simp
        with_reducible rfl
      simp only [List.getElem_toArray, List.getElem_cons_zero, List.getElem_cons_succ, Act.put, List.setIfInBounds_toArray, List.set_cons_zero, List.set_cons_succ]
      refine wpAnyH_take (i := 4) (v := ?v5) rfl (by kernel_rfl) (by kernel_rfl) (by kernel_rfl) (fun _ _ _ h => h) (Or.inl ⟨by rfl, ?hy5⟩) (by assumption) ?rest5
      case hy5 =>
        intro W' hSw
        obtain ⟨e0, e1⟩ := hSw
        go_simp
        with_reducible rfl
      simp only [List.getElem_toArray, List.getElem_cons_zero, List.getElem_cons_succ, Act.put, List.setIfInBounds_toArray, List.set_cons_zero, List.set_cons_succ]
      refine wpAnyH_take (i := 5) (v := ?v6) rfl (by kernel_rfl) (by kernel_rfl) (by kernel_rfl) (fun _ _ _ h => h) (Or.inl ⟨by rfl, ?hy6⟩) (by assumption) ?rest6
      case hy6 =>
        intro W' hSw
        obtain ⟨e0, e1⟩ := hSw
        go_simp
        with_reducible rfl
      simp only [List.getElem_toArray, List.getElem_cons_zero, List.getElem_cons_succ, Act.put, List.setIfInBounds_toArray, List.set_cons_zero, List.set_cons_succ]
      refine wpAnyH_take (i := 6) (v := ?v7) rfl (by kernel_rfl) (by kernel_rfl) (by kernel_rfl) (fun _ _ _ h => h) (Or.inl ⟨by rfl, ?hy7⟩) (by assumption) ?rest7
      case hy7 =>
        intro W' hSw
        obtain ⟨e0, e1⟩ := hSw
        go_simp
        with_reducible rfl
      simp only [List.getElem_toArray, List.getElem_cons_zero, List.getElem_cons_succ, Act.put, List.setIfInBounds_toArray, List.set_cons_zero, List.set_cons_succ]
      refine wpAnyH_take (i := 7) (v := ?v8) rfl (by kernel_rfl) (by kernel_rfl) (by kernel_rfl) (fun _ _ _ h => h) (Or.inl ⟨by rfl, ?hy8⟩) (by assumption) ?rest8
      case hy8 =>
        intro W' hSw
        obtain ⟨e0, e1⟩ := hSw
        go_simp
        with_reducible rfl
      simp only [List.getElem_toArray, List.getElem_cons_zero, List.getElem_cons_succ, Act.put, List.setIfInBounds_toArray, List.set_cons_zero, List.set_cons_succ]
      refine wpAnyH_ready (rs := [8]) (by kernel_rfl) (by simp) ?_
      refine AllReadyH.cons (i := 8) rfl (fun K hK => ?_) AllReadyH.nil
      go_simp
      refine (H39.out).mono ?_
      rintro e y3 ⟨⟨q3, rfl⟩, rfl⟩
      have HBy3 : Hid (Below wr.heap.size wr (wr.drew.drewN q3)) := Lib.hid ⟨rfl, rfl, rfl, Nat.le_refl _, fun _ _ => rfl⟩
      obtain ⟨y3, HY3⟩ : ∃ y3, Hid (wr.drew.drewN q3 = y3) := ⟨_, Lib.hid rfl⟩
      rw [HY3.out] at HBy3 ⊢
      refine hK.out _ _ (HSS.out _ HBy3.out) (fun hHeld => ?_)
      clear hK K
      refine wpAnyH_take (i := 9) (v := ?v9) rfl (by kernel_rfl) (by kernel_rfl) (by kernel_rfl) (fun _ _ _ h => h) (Or.inl ⟨by rfl, ?hy9⟩) (by assumption) ?rest9
      case hy9 =>
        intro W' hSw
        obtain ⟨e0, e1⟩ := hSw
        go_simp
        with_reducible rfl
      simp only [List.getElem_toArray, List.getElem_cons_zero, List.getElem_cons_succ, Act.put, List.setIfInBounds_toArray, List.set_cons_zero, List.set_cons_succ]
      refine wpAnyH_done (by kernel_rfl) ?_ _
      refine NoPanic.normal ?_
      clear hHeld
      have HBR3 : Hid (Below w.heap.size w y3) := Lib.hid (HBR.out.trans (HBy3.out.mono HBR.out.size))
      go_wp2_with fail
      go_roundw
      case rel => exact ⟨i + 1, by omega, by go_num, HBR3⟩
      case measure => simp [Go.RowKit.intOf]; omega
    · obtain rfl : i = n := by omega
      have ilt : ¬ (i : Int) < (i : Int) := by omega
      go_wp2_with fail
      go_ret
      exact ⟨HBR.out, rfl⟩
theorem sameslab_any (p q : Option Addr) (c d n : Nat) (k : List (Int × Int × Int)) (w : World) (hl : Hid (k.length = n)) (hn : n ≤ 1000) (hp : RdC w p k) (hq : RdC w q k) :
    Calls Tryz.prog 37 #[.slice p n c, .slice q n d] w fun e w' => Below w.heap.size w w' ∧ e = .returned (.bool true) := by
  have HP := Lib.hid hp
  have HQ := Lib.hid hq
  have hni : (n : Int) ≤ 1000 := by omega
  have hnn : ((n : Int) != (n : Int)) = false := by simp
  clear hp hq
  go_enter Tryz.func37, Tryz.ntmps37
  go_wp2_with fail
  go_loopw [5] (fun iv wr => ∃ i r : Nat, i ≤ n ∧ iv = .int .i64 i ∧ wr = w.drewN r) (fun iv _ => n - (Go.RowKit.intOf iv).toNat)
  case atStart => exact ⟨0, 0, Nat.zero_le _, rfl, rfl⟩
  case round =>
    obtain ⟨i, r, hi, rfl, rfl⟩ := hrel
    have ii : (i : Int) ≤ (n : Int) := by omega
    by_cases hlt : i < n
    · have ilt : (i : Int) < (n : Int) := by omega
      obtain ⟨b1, o1, x1, x2, x3, e1, -, hc1, hc2, hc3, HX, -⟩ := HP.out.at (k := i) (by rw [hl.out]; exact hlt)
      obtain ⟨b2, o2, y1, y2, y3, e2, -, hd1, hd2, hd3, HY, -⟩ := HQ.out.at (k := i) (by rw [hl.out]; exact hlt)
      subst e1 e2
      obtain ⟨rfl, rfl, rfl⟩ : x1 = y1 ∧ x2 = y2 ∧ x3 = y3 := by
        have h := HX.out.symm.trans HY.out
        injection h with h1 h2
        injection h2 with h2 h3
        exact ⟨h1, h2, h3⟩
      go_wp2_with fail
      go_quiet (fail)
      go_wp2_with fail
      go_roundw
      case rel => exact ⟨i + 1, _, by omega, by go_num, rfl⟩
      case measure => simp [Go.RowKit.intOf]; omega
    · obtain rfl : i = n := by omega
      have ilt : ¬ (i : Int) < (i : Int) := by omega
      go_wp2_with fail
      go_ret
      exact ⟨⟨rfl, rfl, rfl, Nat.le_refl _, fun _ _ => rfl⟩, rfl⟩
end Go.Proofs.YtigidchicloleaaGreatDoor.Arr
