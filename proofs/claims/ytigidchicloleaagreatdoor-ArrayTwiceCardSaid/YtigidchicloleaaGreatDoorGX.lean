/- The law ArrayTwice. -/
import Derived.Test.YtigidchicloleaaGreatDoorGW
import Derived.Maps.AppendAt
set_option maxHeartbeats 4000000
set_option maxRecDepth 100000
namespace Go.Proofs.YtigidchicloleaaGreatDoor.Arr
open Go.RowKit Go.Shelf
open Go.Lib
attribute [local go_sem] Oper.semAt_some
def cutC (l : List (Int × Int × Int)) : List Value := l.flatMap (fun z => [.int .i64 z.1, .int .i64 z.2.1, .int .i64 z.2.2])
theorem cutC_snoc (l : List (Int × Int × Int)) (z : Int × Int × Int) : cutC (l ++ [z]) = cutC l ++ [.int .i64 z.1, .int .i64 z.2.1, .int .i64 z.2.2] := by
  simp [cutC]
theorem cutC_at : ∀ (l : List (Int × Int × Int)) (k : Nat), k < l.length → (cutC l)[k * 3]? = some (.int .i64 (l.getD k (0, 0, 0)).1) ∧ (cutC l)[k * 3 + 1]? = some (.int .i64 (l.getD k (0, 0, 0)).2.1) ∧ (cutC l)[k * 3 + 2]? = some (.int .i64 (l.getD k (0, 0, 0)).2.2)
  | [], k, h => absurd h (by simp)
  | z :: l, 0, _ => by simp [cutC]
  | z :: l, k + 1, h => by
    have ih := cutC_at l k (by simpa using h)
    have e : cutC (z :: l) = .int .i64 z.1 :: .int .i64 z.2.1 :: .int .i64 z.2.2 :: cutC l := by simp [cutC]
    rw [e, show (k + 1) * 3 = k * 3 + 1 + 1 + 1 by omega, show k * 3 + 1 + 1 + 1 + 1 = (k * 3 + 1) + 1 + 1 + 1 by omega, show k * 3 + 1 + 1 + 1 + 2 = (k * 3 + 2) + 1 + 1 + 1 by omega]
    simp only [List.getElem?_cons_succ]
    have e2 : (z :: l).getD (k + 1) (0, 0, 0) = l.getD k (0, 0, 0) := by simp [List.getD_eq_getElem?_getD]
    rw [e2]
    exact ih
theorem own_ge {w : World} {B : Nat} {e : TypeId} {sz : Nat} {v : Value} {n : Nat} {xs : List Value} (h : w.ownsRow B e sz v n xs) : ∀ k, v.ownBlock = some k → B ≤ k := by
  intro k hk
  obtain ⟨-, ⟨rfl, -⟩ | ⟨g, cap, cur, rfl, hg, -⟩⟩ := h
  · cases hk
  · cases hk; exact hg
theorem own_rdC {w : World} {B : Nat} {v : Value} {X : List (Int × Int × Int)} (hwf : ∀ z ∈ X, -9223372036854775808 ≤ z.2.1 ∧ z.2.1 ≤ 9223372036854775807) (h : w.ownsRow B 66 3 v X.length (cutC X)) : ∃ p c, v = .slice p X.length c ∧ RdC w p X := by
  obtain ⟨h1, ⟨rfl, h3⟩ | ⟨g, cap, cur, rfl, hg, hh, hn, hm, hs, hc⟩⟩ := h
  · exact ⟨none, 0, by rw [h3], hwf, .inl h3⟩
  · refine ⟨_, cap, rfl, hwf, .inr ⟨g, 0, rfl, (Array.getElem?_eq_some_iff.1 hh).1, fun j hj => ?_⟩⟩
    have key : ∀ i x, i < X.length * 3 → (cutC X)[i]? = some x → w.cell? ⟨g, 0 + i, none⟩ = some x := fun i x hi hx => by
      rw [← hc, List.getElem?_take_of_lt hi, Array.getElem?_toList] at hx
      rw [Nat.zero_add]
      simp only [World.cell?, hh]
      exact hx
    obtain ⟨a1, a2, a3⟩ := cutC_at X j hj
    exact ⟨key _ _ (by omega) a1, key _ _ (by omega) a2, key _ _ (by omega) a3⟩
theorem info64 : (Tryz.prog.info? 66).map (fun i => (i.zero, i.size, i.bytes)) = some (some (.agg #[.int .i64 0, .int .i64 0, .int .i64 0]), 3, 24) := by kernel_rfl
theorem cell3_new (w : World) (x y z : Value) (t : TypeId) : ∀ j u, [x, y, z][j]? = some u → (w.alloc (.cells #[x, y, z] t)).cell? ((⟨w.heap.size, 0, none⟩ : Addr).add j) = some u := by
  intro j u hj
  have h := World.alloc_heap_new w (.cells #[x, y, z] t)
  have e : ((⟨w.heap.size, 0, none⟩ : Addr).add j) = ⟨w.heap.size, j, none⟩ := by
    simp [Addr.add]
    try (intro h0; exact h0.symm)
  rw [e]
  simp only [World.cell?, h]
  match j, hj with
  | 0, hj => simpa using hj
  | 1, hj => simpa using hj
  | 2, hj => simpa using hj
  | j + 3, hj => simp at hj
theorem own_keep {w w' : World} {B : Nat} {e : TypeId} {sz : Nat} {v : Value} {n : Nat} {xs : List Value} (h : w.ownsRow B e sz v n xs) (hk : ∀ b, b < w.heap.size → w'.heap[b]? = w.heap[b]?) : w'.ownsRow B e sz v n xs := by
  obtain ⟨h1, h2 | ⟨g, cap, cur, h3, hg, hh, hr⟩⟩ := h
  · exact ⟨h1, .inl h2⟩
  · exact ⟨h1, .inr ⟨g, cap, cur, h3, hg, (hk g (Array.getElem?_eq_some_iff.1 hh).1).trans hh, hr⟩⟩
theorem both_small {s : Nat} {xa ya za xb yb zb : Int} (hs : s ≤ 1024) (ha : cutOk s xa ya za = true) (hb : cutOk ya.toNat xb yb zb = true) : 0 ≤ xa ∧ xa ≤ 1024 ∧ 0 ≤ yb ∧ (0 < yb → 0 ≤ xb * za ∧ xb * za ≤ 1024) ∧ (1 < yb → 0 ≤ za * zb ∧ za * zb ≤ 1048576) := by
  obtain ⟨h1, h2, h3, h4, h5⟩ := last_le ha
  obtain ⟨g1, g2, g3, g4, g5⟩ := last_le hb
  rw [Int.toNat_of_nonneg h2] at g4 g5
  refine ⟨h1, by omega, g2, fun hy => ?_, fun hy => ?_⟩
  · have p0 : 0 ≤ (yb - 1) * zb := Int.mul_nonneg (by omega) (by omega)
    have g6 := g5 (by omega)
    have h6 := h5 (by omega)
    have p2 : xb * za ≤ (ya - 1) * za := Int.mul_le_mul_of_nonneg_right (by omega) (by omega)
    exact ⟨Int.mul_nonneg (by omega) (by omega), by omega⟩
  · have g6 := g5 (by omega)
    have p0 : 1 * zb ≤ (yb - 1) * zb := Int.mul_le_mul_of_nonneg_right (by omega) (by omega)
    have h6 := h5 (by omega)
    have p1 : 1 * za ≤ (ya - 1) * za := Int.mul_le_mul_of_nonneg_right (by omega) (by omega)
    have p2 : (ya - 1) * 1 ≤ (ya - 1) * za := Int.mul_le_mul_of_nonneg_left (by omega) (by omega)
    have p3 : za * zb ≤ 1024 * 1024 := Int.mul_le_mul (by omega) (by omega) (by omega) (by omega)
    exact ⟨Int.mul_nonneg (by omega) (by omega), by omega⟩
theorem twice_any (p q p1 p2 : Option Addr) (c d n m n1 n2 d1 d2 : Nat) (s : List Int) (l : List (List UInt8)) (k1 k2 : List (Int × Int × Int)) (w : World) (he : Env w) (hs : Hid (s.length = n)) (hl : Hid (l.length = m)) (hk1 : Hid (k1.length = n1)) (hk2 : Hid (k2.length = n2)) (hp : Rd w p s) (hq : RdS w q l) (h1 : RdC w p1 k1) (h2 : RdC w p2 k2) :
    Calls Tryz.prog 11 #[.agg #[.slice p n c, .slice q m d, .slice p1 n1 d1, .slice p2 n2 d2]] w fun e w' => Below w.heap.size w w' ∧ e = .returned (.bool true) := by
  have HP := Lib.hid hp
  have HQ := Lib.hid hq
  have HC1 := Lib.hid h1
  have HC2 := Lib.hid h2
  have HE := Lib.hid he
  clear hp hq h1 h2 he
  obtain ⟨A, HA⟩ : ∃ A, Hid (A = w.heap.size) := ⟨_, Lib.hid rfl⟩
  obtain ⟨W0, HW0⟩ : ∃ W0, Hid (w.alloc (.cells #[.slice p n c, .slice q m d, .slice p1 n1 d1, .slice p2 n2 d2] 64) = W0) := ⟨_, Lib.hid rfl⟩
  have HB0 : Hid (Below w.heap.size w W0) := Lib.hid (by rw [← HW0.out]; exact (Below.refl _ w).alloc (Nat.le_refl _) _)
  have HX0 : Hid (W0.heap[A]? = some (.cells #[.slice p n c, .slice q m d, .slice p1 n1 d1, .slice p2 n2 d2] 64 (0, 0))) := Lib.hid (by rw [← HW0.out, HA.out]; exact World.alloc_heap_new w _)
  have HBX : Hid (∀ W, Below W0.heap.size W0 W → (W.cell? ⟨A, 0, none⟩ = some (.slice p n c) ∧ W.cell? ⟨A, 1, none⟩ = some (.slice q m d) ∧ W.cell? ⟨A, 2, none⟩ = some (.slice p1 n1 d1) ∧ W.cell? ⟨A, 3, none⟩ = some (.slice p2 n2 d2)) ∧ Below w.heap.size w W) := Lib.hid (fun W hW => by
    have h0 := (hW.block A (Array.getElem?_eq_some_iff.1 HX0.out).1).trans HX0.out
    have hb := HB0.out.trans (hW.mono HB0.out.size)
    exact ⟨⟨by simp [World.cell?, h0], by simp [World.cell?, h0], by simp [World.cell?, h0], by simp [World.cell?, h0]⟩, hb⟩)
  have H11 := Lib.hid (wide_any p q c d n m s l W0 hs hl (HQ.out.below HB0.out))
  have HSANE : Hid (∀ W, Below W0.heap.size W0 W → Calls Tryz.prog 14 #[] W fun e w' => Below w.heap.size w w' ∧ e = .returned (.bool true)) := Lib.hid (fun W hW =>
    (sane_any W (HE.out.below (HBX.out W hW).2)).mono (fun e w' h => ⟨(HBX.out W hW).2.trans (h.1.mono (HBX.out W hW).2.size), h.2⟩))
  obtain ⟨b, HWB⟩ : ∃ b, Hid (b = wideT s l) := ⟨_, Lib.hid rfl⟩
  rw [← HWB.out] at H11
  by_cases hbig : b = true ∨ 10 < n1 ∨ 10 < n2
  · obtain ⟨⟨b0, b1, b2, b3⟩, -⟩ := HBX.out W0 (Below.refl _ _)
    go_enter Tryz.func11, Tryz.ntmps11
    go_wp2_with fail
    rw [HW0.out, ← HA.out]
    refine (H11.out).mono ?_
    rintro e w1 ⟨hb1, rfl⟩
    have hbw : Below W0.heap.size W0 w1 := hb1
    have HS1 := Lib.hid (HSANE.out w1 hbw)
    obtain ⟨⟨b0, b1, b2, b3⟩, -⟩ := HBX.out w1 hbw
    clear hb1 hbw
    by_cases hbt : b = true
    · subst hbt
      go_wp2_with fail
      refine (HS1.out).mono ?_
      rintro e w2 ⟨hb2, rfl⟩
      have HB2 := Lib.hid hb2
      clear hb2
      go_wp2_with fail
      go_ret
      exact ⟨HB2.out, rfl⟩
    · obtain rfl : b = false := by simpa using hbt
      by_cases h10 : 10 < n1
      · have i1 : (10 : Int) < (n1 : Int) := by omega
        go_wp2_with fail
        refine (HS1.out).mono ?_
        rintro e w2 ⟨hb2, rfl⟩
        have HB2 := Lib.hid hb2
        clear hb2
        go_wp2_with fail
        go_ret
        exact ⟨HB2.out, rfl⟩
      · have i1 : ¬ (10 : Int) < (n1 : Int) := by omega
        have i2 : (10 : Int) < (n2 : Int) := by
          rcases hbig with h | h | h
          · cases h
          · omega
          · omega
        go_wp2_with fail
        refine (HS1.out).mono ?_
        rintro e w2 ⟨hb2, rfl⟩
        have HB2 := Lib.hid hb2
        clear hb2
        go_wp2_with fail
        go_ret
        exact ⟨HB2.out, rfl⟩
  have hbf : b = false := by
    cases hh : b with
    | true => exact absurd (.inl hh) hbig
    | false => rfl
  subst hbf
  have hn1 : n1 ≤ 10 := by omega
  have hn2 : n2 ≤ 10 := by omega
  have i1 : ¬ (10 : Int) < (n1 : Int) := by omega
  have i2 : ¬ (10 : Int) < (n2 : Int) := by omega
  have hm : m ≤ 5000 := by
    have h := HWB.out
    unfold wideT at h
    have h2 : ¬ 100 < l.length := by
      intro h3
      rw [decide_eq_true h3] at h
      simp at h
    rw [hl.out] at h2
    omega
  obtain ⟨⟨b0, b1, b2, b3⟩, -⟩ := HBX.out W0 (Below.refl _ _)
  go_enter Tryz.func11, Tryz.ntmps11
  go_wp2_with fail
  rw [HW0.out, ← HA.out]
  refine (H11.out).mono ?_
  rintro e w1 ⟨hb1, rfl⟩
  have HB1 : Hid (Below W0.heap.size W0 w1) := Lib.hid hb1
  obtain ⟨⟨c0, c1, c2, c3⟩, hbw1⟩ := HBX.out w1 hb1
  have H23 := Lib.hid (slice_all p q p1 c d n m n1 d1 s l k1 w1 (HE.out.below hbw1) hs hl hm hk1 (HP.out.below hbw1) (HQ.out.below hbw1) (HC1.out.below hbw1))
  clear hb1 hbw1 b0 b1 b2 b3
  go_wp2_with fail
  refine (H23.out).mono ?_
  rintro e w2 ⟨hb2, z1, q1, q2, m1, e1, m2, e2, s1, l1, rfl, hs1, hl1, hm1, hm2, hr1, hr2, hcase1⟩
  have HB2 : Hid (Below W0.heap.size W0 w2) := Lib.hid (HB1.out.trans (hb2.mono HB1.out.size))
  have HR1 := Lib.hid hr1
  have HR2 := Lib.hid hr2
  have HCASE1 := Lib.hid hcase1
  obtain ⟨W3, HW3⟩ : ∃ W3, Hid (w2.alloc (.cells #[.slice q1 m1 e1, .slice q2 m2 e2] 25) = W3) := ⟨_, Lib.hid rfl⟩
  have hb23 : Below w2.heap.size w2 W3 := by rw [← HW3.out]; exact (Below.refl _ _).alloc (Nat.le_refl _) _
  have HB3 : Hid (Below W0.heap.size W0 W3) := Lib.hid (HB2.out.trans (hb23.mono HB2.out.size))
  have HR1b : Hid (RdN W3 q1 s1) := Lib.hid (hr1.below hb23)
  have HR2b : Hid (RdS W3 q2 l1) := Lib.hid (hr2.below hb23)
  obtain ⟨⟨c0, c1, c2, c3⟩, hbw3⟩ := HBX.out W3 HB3.out
  have H23b := Lib.hid (slice_all q1 q2 p2 e1 e2 m1 m2 n2 d2 (s1.map Int.ofNat) l1 k2 W3 (HE.out.below hbw3) (Lib.hid (by rw [List.length_map, hs1])) (Lib.hid hl1) (by omega) hk2 HR1b.out HR2b.out (HC2.out.below hbw3))
  rw [← HW3.out] at c0 c1 c2 c3
  clear hb2 hr1 hr2 hcase1 hb23 hbw3
  go_wp2_with fail
  rw [HW3.out]
  rw [HW3.out] at c0 c1 c2 c3
  refine (H23b.out).mono ?_
  rintro e w4 ⟨hb4, z2, q3, q4, m3, e3, m4, e4, s2, l2, rfl, hs2, hl2, hm3, hm4, hr3, hr4, hcase2⟩
  have HB4 : Hid (Below W0.heap.size W0 w4) := Lib.hid (HB3.out.trans (hb4.mono HB3.out.size))
  obtain ⟨W5, HW5⟩ : ∃ W5, Hid (w4.alloc (.cells #[.slice q3 m3 e3, .slice q4 m4 e4] 25) = W5) := ⟨_, Lib.hid rfl⟩
  have hb45 : Below w4.heap.size w4 W5 := by rw [← HW5.out]; exact (Below.refl _ _).alloc (Nat.le_refl _) _
  have HB5 : Hid (Below W0.heap.size W0 W5) := Lib.hid (HB4.out.trans (hb45.mono HB4.out.size))
  have HR3 : Hid (RdN W5 q3 s2) := Lib.hid (hr3.below hb45)
  have HR4 : Hid (RdS W5 q4 l2) := Lib.hid (hr4.below hb45)
  have HCASE2 := Lib.hid hcase2
  clear c0 c1 c2 c3
  obtain ⟨⟨c0, c1, c2, c3⟩, hbw5⟩ := HBX.out W5 HB5.out
  have HS5 := Lib.hid (HSANE.out W5 HB5.out)
  rw [← HW5.out] at c0 c1 c2 c3
  clear hb4 hr3 hr4 hcase2 hb45 hbw5
  by_cases hz : z1 ≠ 0 ∨ z2 ≠ 0
  · by_cases hz1 : z1 = 0
    · subst hz1
      have hz2 : ¬ z2 = 0 := by
        rcases hz with h | h
        · exact absurd rfl h
        · exact h
      go_wp2_with fail
      rw [HW5.out]
      refine (HS5.out).mono ?_
      rintro e w6 ⟨hb6, rfl⟩
      have HB6 := Lib.hid hb6
      clear hb6
      go_wp2_with fail
      go_ret
      exact ⟨HB6.out, rfl⟩
    · go_wp2_with fail
      rw [HW5.out]
      refine (HS5.out).mono ?_
      rintro e w6 ⟨hb6, rfl⟩
      have HB6 := Lib.hid hb6
      clear hb6
      go_wp2_with fail
      go_ret
      exact ⟨HB6.out, rfl⟩
  have hz1 : z1 = 0 := by
    by_cases h : z1 = 0
    · exact h
    · exact absurd (.inl h) hz
  have hz2 : z2 = 0 := by
    by_cases h : z2 = 0
    · exact h
    · exact absurd (.inr h) hz
  subst hz1 hz2
  obtain ⟨t, hst, hsh, hva, hsl, he1, he2⟩ : ∃ t : List Nat, s = t.map Int.ofNat ∧ Shp t ∧ validA s l = true ∧ slabOk t k1 = true ∧ s1 = cnts k1 ∧ l1 = sliceV t l k1 := by
    rcases HCASE1.out with ⟨-, h⟩ | ⟨h, -⟩
    · exact h
    · exact absurd rfl h
  obtain ⟨t2, hst2, hsh2, hva2, hsl2, he3, he4⟩ : ∃ t : List Nat, s1.map Int.ofNat = t.map Int.ofNat ∧ Shp t ∧ validA (s1.map Int.ofNat) l1 = true ∧ slabOk t k2 = true ∧ s2 = cnts k2 ∧ l2 = sliceV t l1 k2 := by
    rcases HCASE2.out with ⟨-, h⟩ | ⟨h, -⟩
    · exact h
    · exact absurd rfl h
  have ht2 : t2 = cnts k1 := by
    have h := congrArg (List.map Int.toNat) hst2
    rw [toNat_map, toNat_map] at h
    rw [← h, he1]
  subst ht2 he1 he2
  have hln : n1 = n2 := by
    have h := (cnts_ok hsl2 hsh2.2.1).1
    rw [cnts, List.length_map] at h
    rw [← hk1.out, ← hk2.out, h]
  subst hln
  have HBOTH : Hid (slabOk t (bothL k1 k2) = true) := Lib.hid (slab_both hsl hsl2)
  have HEQ : Hid (l2 = sliceV t l (bothL k1 k2)) := Lib.hid (by rw [he4]; exact slice_slice hsh hsl hsl2)
  have HEC : Hid (s2 = cnts (bothL k1 k2)) := Lib.hid (by rw [he3, cnts_both (by rw [hk1.out, hk2.out])])
  have HST := Lib.hid hst
  have HSH := Lib.hid hsh
  have HVA := Lib.hid hva
  have HSL := Lib.hid hsl
  have HSL2 := Lib.hid hsl2
  clear hst hsh hva hsl hsl2 hst2 hsh2 hva2 he3 he4
  go_wp2_with fail
  rw [HW5.out]
  clear c0 c1 c2 c3
  obtain ⟨i0, hi0, hi1, hi2, hi3⟩ := info_parts info64
  go_loopw [7, 8] (fun bv iv wr => ∃ i : Nat, i ≤ n1 ∧ iv = .int .i64 i ∧ Hid (wr.ownsRow W5.heap.size 66 3 bv i (cutC ((bothL k1 k2).take i))) ∧ Hid (Below W5.heap.size W5 wr)) (fun _ iv _ => n1 - (Go.RowKit.intOf iv).toNat)
  case atStart => exact ⟨0, Nat.zero_le _, rfl, Lib.hid ⟨rfl, .inl ⟨rfl, rfl⟩⟩, Lib.hid (Below.refl _ _)⟩
  case round =>
    obtain ⟨i, hi, rfl, HO, HB⟩ := hrel
    have ii : (i : Int) ≤ (n1 : Int) := by omega
    have ii10 : (n1 : Int) ≤ 10 := by omega
    have HBW : Hid (Below W0.heap.size W0 wr) := Lib.hid (HB5.out.trans (HB.out.mono HB5.out.size))
    obtain ⟨⟨c0, c1, c2, c3⟩, hbw⟩ := HBX.out wr HBW.out
    by_cases hlt : i < n1
    · have ilt : (i : Int) < (n1 : Int) := by omega
      obtain ⟨b1, o1, xa, ya, za, ep1, hb1, hxa, hya, hza, HZA, -⟩ := (HC1.out.below hbw).at (k := i) (by rw [hk1.out]; exact hlt)
      obtain ⟨b2, o2, xb, yb, zb, ep2, hb2, hxb, hyb, hzb, HZB, -⟩ := (HC2.out.below hbw).at (k := i) (by rw [hk2.out]; exact hlt)
      subst ep1 ep2
      clear hbw
      obtain ⟨N, HN⟩ : ∃ N, Hid (N = wr.heap.size) := ⟨_, Lib.hid rfl⟩
      have hA5 : A < wr.heap.size := by
        have h1 := HBW.out.size
        have h2 := (Array.getElem?_eq_some_iff.1 HX0.out).1
        omega
      have HS : Hid (∀ W : World, (∀ b, b < wr.heap.size → W.heap[b]? = wr.heap[b]?) → (fun (W : World) => W.cell? ⟨A, 2, none⟩ = some (.slice (some ⟨b1, o1, none⟩) n1 d1) ∧ W.cell? ⟨A, 3, none⟩ = some (.slice (some ⟨b2, o2, none⟩) n1 d2) ∧ W.cell? ⟨b1, o1 + i * 3, none⟩ = some (.int .i64 xa) ∧ W.cell? ⟨b1, o1 + i * 3 + 2, none⟩ = some (.int .i64 za) ∧ W.cell? ⟨b2, o2 + i * 3, none⟩ = some (.int .i64 xb) ∧ W.cell? ⟨b2, o2 + i * 3 + 1, none⟩ = some (.int .i64 yb) ∧ W.cell? ⟨b2, o2 + i * 3 + 2, none⟩ = some (.int .i64 zb)) W) := Lib.hid (fun W hW =>
        ⟨(World.cell?_of_block (a := ⟨A, 2, none⟩) (hW A hA5)).trans c2, (World.cell?_of_block (a := ⟨A, 3, none⟩) (hW A hA5)).trans c3, (World.cell?_of_block (a := ⟨b1, o1 + i * 3, none⟩) (hW b1 hb1)).trans hxa, (World.cell?_of_block (a := ⟨b1, o1 + i * 3 + 2, none⟩) (hW b1 hb1)).trans hza, (World.cell?_of_block (a := ⟨b2, o2 + i * 3, none⟩) (hW b2 hb2)).trans hxb, (World.cell?_of_block (a := ⟨b2, o2 + i * 3 + 1, none⟩) (hW b2 hb2)).trans hyb, (World.cell?_of_block (a := ⟨b2, o2 + i * 3 + 2, none⟩) (hW b2 hb2)).trans hzb⟩)
      go_wp2_with fail
      refine wp_region_noPanic ?_
      refine wp_region_held_drew (S := fun (W : World) => W.cell? ⟨A, 2, none⟩ = some (.slice (some ⟨b1, o1, none⟩) n1 d1) ∧ W.cell? ⟨A, 3, none⟩ = some (.slice (some ⟨b2, o2, none⟩) n1 d2) ∧ W.cell? ⟨b1, o1 + i * 3, none⟩ = some (.int .i64 xa) ∧ W.cell? ⟨b1, o1 + i * 3 + 2, none⟩ = some (.int .i64 za) ∧ W.cell? ⟨b2, o2 + i * 3, none⟩ = some (.int .i64 xb) ∧ W.cell? ⟨b2, o2 + i * 3 + 1, none⟩ = some (.int .i64 yb) ∧ W.cell? ⟨b2, o2 + i * 3 + 2, none⟩ = some (.int .i64 zb)) (by kernel_rfl) (HS.out _ (fun _ _ => rfl)) (fun hHeld => ?_)
      refine wpAnyH_take (i := 0) (v := ?v1) rfl (by kernel_rfl) (by kernel_rfl) (by kernel_rfl) (fun _ _ _ h => h) (Or.inl ⟨by rfl, ?hy1⟩) (by assumption) ?rest1
      case hy1 =>
        intro W' hSw
        obtain ⟨g0, g1, g2, g3, g4, g5, g6⟩ := hSw
        go_simp
        with_reducible rfl
      simp only [List.getElem_toArray, List.getElem_cons_zero, Act.put, List.setIfInBounds_toArray, List.set_cons_zero, List.set_cons_succ]
      refine wpAnyH_take (i := 1) (v := ?v2) rfl (by kernel_rfl) (by kernel_rfl) (by kernel_rfl) (fun _ _ _ h => h) (Or.inl ⟨by rfl, ?hy2⟩) (by assumption) ?rest2
      case hy2 =>
        intro W' hSw
        obtain ⟨g0, g1, g2, g3, g4, g5, g6⟩ := hSw
        go_simp
        with_reducible rfl
      simp only [List.getElem_toArray, List.getElem_cons_zero, List.getElem_cons_succ, Act.put, List.setIfInBounds_toArray, List.set_cons_zero, List.set_cons_succ]
      refine wpAnyH_take (i := 2) (v := ?v3) rfl (by kernel_rfl) (by kernel_rfl) (by kernel_rfl) (fun _ _ _ h => h) (Or.inl ⟨by rfl, ?hy3⟩) (by assumption) ?rest3
      case hy3 =>
        intro W' hSw
        obtain ⟨g0, g1, g2, g3, g4, g5, g6⟩ := hSw
        go_simp
        with_reducible rfl
      simp only [List.getElem_toArray, List.getElem_cons_zero, List.getElem_cons_succ, Act.put, List.setIfInBounds_toArray, List.set_cons_zero, List.set_cons_succ]
      refine wpAnyH_take (i := 3) (v := ?v4) rfl (by kernel_rfl) (by kernel_rfl) (by kernel_rfl) (fun _ _ _ h => h) (Or.inl ⟨by rfl, ?hy4⟩) (by assumption) ?rest4
      case hy4 =>
        intro W' hSw
        obtain ⟨g0, g1, g2, g3, g4, g5, g6⟩ := hSw
        go_simp
        with_reducible rfl
      simp only [List.getElem_toArray, List.getElem_cons_zero, List.getElem_cons_succ, Act.put, List.setIfInBounds_toArray, List.set_cons_zero, List.set_cons_succ]
      refine wpAnyH_take (i := 4) (v := ?v5) rfl (by kernel_rfl) (by kernel_rfl) (by kernel_rfl) (fun _ _ _ h => h) (Or.inl ⟨by rfl, ?hy5⟩) (by assumption) ?rest5
      case hy5 =>
        intro W' hSw
        obtain ⟨g0, g1, g2, g3, g4, g5, g6⟩ := hSw
        go_simp
        with_reducible rfl
      simp only [List.getElem_toArray, List.getElem_cons_zero, List.getElem_cons_succ, Act.put, List.setIfInBounds_toArray, List.set_cons_zero, List.set_cons_succ]
      refine wpAnyH_take (i := 5) (v := ?v6) rfl (by kernel_rfl) (by kernel_rfl) (by kernel_rfl) (fun _ _ _ h => h) (Or.inl ⟨by rfl, ?hy6⟩) (by assumption) ?rest6
      case hy6 =>
        intro W' hSw
        obtain ⟨g0, g1, g2, g3, g4, g5, g6⟩ := hSw
        go_simp
        with_reducible rfl
      simp only [List.getElem_toArray, List.getElem_cons_zero, List.getElem_cons_succ, Act.put, List.setIfInBounds_toArray, List.set_cons_zero, List.set_cons_succ]
      refine wpAnyH_take (i := 6) (v := ?v7) rfl (by kernel_rfl) (by kernel_rfl) (by kernel_rfl) (fun _ _ _ h => h) (Or.inl ⟨by rfl, ?hy7⟩) (by assumption) ?rest7
      case hy7 =>
        intro W' hSw
        obtain ⟨g0, g1, g2, g3, g4, g5, g6⟩ := hSw
        go_simp
        with_reducible rfl
      simp only [List.getElem_toArray, List.getElem_cons_zero, List.getElem_cons_succ, Act.put, List.setIfInBounds_toArray, List.set_cons_zero, List.set_cons_succ]
      refine wpAnyH_take (i := 7) (v := ?v8) rfl (by kernel_rfl) (by kernel_rfl) (by kernel_rfl) (fun _ _ _ h => h) (Or.inl ⟨by rfl, ?hy8⟩) (by assumption) ?rest8
      case hy8 =>
        intro W' hSw
        obtain ⟨g0, g1, g2, g3, g4, g5, g6⟩ := hSw
        go_simp
        with_reducible rfl
      simp only [List.getElem_toArray, List.getElem_cons_zero, List.getElem_cons_succ, Act.put, List.setIfInBounds_toArray, List.set_cons_zero, List.set_cons_succ]
      refine wpAnyH_take (i := 8) (v := ?v9) rfl (by kernel_rfl) (by kernel_rfl) (by kernel_rfl) (fun _ _ _ h => h) (Or.inl ⟨by rfl, ?hy9⟩) (by assumption) ?rest9
      case hy9 =>
        intro W' hSw
        obtain ⟨g0, g1, g2, g3, g4, g5, g6⟩ := hSw
        go_simp
        with_reducible rfl
      simp only [List.getElem_toArray, List.getElem_cons_zero, List.getElem_cons_succ, Act.put, List.setIfInBounds_toArray, List.set_cons_zero, List.set_cons_succ]
      refine wpAnyH_take (i := 9) (v := ?v10) rfl (by kernel_rfl) (by kernel_rfl) (by kernel_rfl) (fun _ _ _ h => h) (Or.inl ⟨by rfl, ?hy10⟩) (by assumption) ?rest10
      case hy10 =>
        intro W' hSw
        obtain ⟨g0, g1, g2, g3, g4, g5, g6⟩ := hSw
        go_simp
        with_reducible rfl
      simp only [List.getElem_toArray, List.getElem_cons_zero, List.getElem_cons_succ, Act.put, List.setIfInBounds_toArray, List.set_cons_zero, List.set_cons_succ]
      refine wpAnyH_take (i := 10) (v := ?v11) rfl (by kernel_rfl) (by kernel_rfl) (by kernel_rfl) (fun _ _ _ h => h) (Or.inl ⟨by rfl, ?hy11⟩) (by assumption) ?rest11
      case hy11 =>
        intro W' hSw
        obtain ⟨g0, g1, g2, g3, g4, g5, g6⟩ := hSw
        go_simp
        with_reducible rfl
      simp only [List.getElem_toArray, List.getElem_cons_zero, List.getElem_cons_succ, Act.put, List.setIfInBounds_toArray, List.set_cons_zero, List.set_cons_succ]
      refine wpAnyH_take (i := 11) (v := ?v12) rfl (by kernel_rfl) (by kernel_rfl) (by kernel_rfl) (fun _ _ _ h => h) (Or.inl ⟨by rfl, ?hy12⟩) (by assumption) ?rest12
      case hy12 =>
        intro W' hSw
        obtain ⟨g0, g1, g2, g3, g4, g5, g6⟩ := hSw
        go_simp
        with_reducible rfl
      simp only [List.getElem_toArray, List.getElem_cons_zero, List.getElem_cons_succ, Act.put, List.setIfInBounds_toArray, List.set_cons_zero, List.set_cons_succ]
      refine wpAnyH_take (i := 12) (v := ?v13) rfl (by kernel_rfl) (by kernel_rfl) (by kernel_rfl) (fun _ _ _ h => h) (Or.inl ⟨by rfl, ?hy13⟩) (by assumption) ?rest13
      case hy13 =>
        intro W' hSw
        obtain ⟨g0, g1, g2, g3, g4, g5, g6⟩ := hSw
        go_simp
        with_reducible rfl
      simp only [List.getElem_toArray, List.getElem_cons_zero, List.getElem_cons_succ, Act.put, List.setIfInBounds_toArray, List.set_cons_zero, List.set_cons_succ]
      refine wpAnyH_ready (rs := [13]) (by kernel_rfl) (by simp) ?_
      refine AllReadyH.cons (i := 13) rfl (fun K hK => ?_) AllReadyH.nil
      go_simp
      have hz0 : (wr.alloc (.cells #[.int .i64 0, .int .i64 0, .int .i64 0] 66)).drew.heap[wr.heap.size]? = some (.cells #[.int .i64 0, .int .i64 0, .int .i64 0] 66 (0, 0)) := World.alloc_heap_new wr _
      have hkeep : ∀ o b, b < wr.heap.size → (wr.alloc o).drew.heap[b]? = wr.heap[b]? := fun o b hb => ((Below.refl wr.heap.size wr).alloc (Nat.le_refl _) o).block b hb
      have HKEEP := Lib.hid hkeep
      refine hK.out _ _ (HS.out _ (hkeep _)) (fun hHeld2 => ?_)
      clear hK K hHeld hkeep
      refine wpAnyH_ready (rs := [14]) (by kernel_rfl) (by simp) ?_
      refine AllReadyH.cons (i := 14) rfl (fun K hK => ?_) AllReadyH.nil
      go_simp
      obtain ⟨V1, HV1⟩ : ∃ V1, Hid ((wr.alloc (.cells #[.int .i64 xa, .int .i64 yb, .int .i64 1] 66)).drew = V1) := ⟨_, Lib.hid rfl⟩
      rw [HV1.out, ← HN.out]
      have HV1N : Hid (V1.heap[N]? = some (.cells #[.int .i64 xa, .int .i64 yb, .int .i64 1] 66 (0, 0))) := Lib.hid (by rw [← HV1.out, HN.out]; exact World.alloc_heap_new wr _)
      have HV1K : Hid (∀ b, b < wr.heap.size → V1.heap[b]? = wr.heap[b]?) := Lib.hid (fun b hb => by rw [← HV1.out]; exact HKEEP.out _ b hb)
      have HV1G : Hid (wr.grownBy V1 none) := Lib.hid (by
        rw [← HV1.out]
        have h := (Below.refl wr.heap.size wr).alloc (Nat.le_refl _) (.cells #[.int .i64 xa, .int .i64 yb, .int .i64 1] 66)
        exact (gb_of_below h none).trans ⟨rfl, rfl, rfl, Nat.le_refl _, fun _ _ _ => rfl⟩)
      have HV1B : Hid (V1.os = wr.os ∧ V1.tape = wr.tape ∧ V1.output = wr.output) := Lib.hid ⟨HV1G.out.os, HV1G.out.tape, HV1G.out.output⟩
      have HV1S : Hid (wr.heap.size ≤ V1.heap.size) := Lib.hid HV1G.out.size
      refine hK.out _ _ (HS.out _ HV1K.out) (fun hHeld3 => ?_)
      clear hK K hHeld2 hz0
      refine wpAnyH_done (by kernel_rfl) ?_ _
      refine NoPanic.normal ?_
      clear hHeld3
      have HSM : Hid (0 ≤ xa ∧ xa ≤ 1024 ∧ 0 ≤ yb ∧ (0 < yb → 0 ≤ xb * za ∧ xb * za ≤ 1024) ∧ (1 < yb → 0 ≤ za * zb ∧ za * zb ≤ 1048576)) := Lib.hid (by
        have h1 := HSL.out
        have h2 := HSL2.out
        unfold slabOk at h1 h2
        rw [Bool.and_eq_true, decide_eq_true_eq, List.all_eq_true] at h1 h2
        have hl1 := hk1.out
        have hcl : (cnts k1).length = k1.length := by rw [cnts, List.length_map]
        have a1 := h1.2 i (List.mem_range.2 (by omega))
        have a2 := h2.2 i (List.mem_range.2 (by omega))
        unfold cutAt at a1 a2
        rw [cnts_at (by omega)] at a2
        rw [HZA.out] at a1 a2
        rw [HZB.out] at a2
        have hsz : t.getD i 0 ≤ 1024 := HSH.out.2.1 _ (by rw [List.getD_eq_getElem?_getD, List.getElem?_eq_getElem (by omega)]; exact List.getElem_mem _)
        exact both_small hsz a1 a2)
      have HGET : Hid ((bothL k1 k2)[i]'(by rw [bothL_len (by rw [hk1.out, hk2.out]), hk2.out]; exact hlt) = bothC (xa, ya, za) (xb, yb, zb)) := Lib.hid (by
        have h := bothL_at (c1 := k1) (c2 := k2) (k := i) (by rw [hk1.out, hk2.out]) (by rw [hk2.out]; exact hlt)
        rw [List.getD_eq_getElem?_getD, List.getElem?_eq_getElem (by rw [bothL_len (by rw [hk1.out, hk2.out]), hk2.out]; exact hlt), Option.getD_some, HZA.out, HZB.out] at h
        exact h)
      obtain ⟨v0, v1, v2, v3, v4, v5, v6⟩ := HS.out V1 HV1K.out
      by_cases hy0 : ¬ 0 < yb
      · have iy : ¬ (0 : Int) < yb := hy0
        have iy1 : ¬ (1 : Int) < yb := by omega
        have eqb : bothC (xa, ya, za) (xb, yb, zb) = (xa, yb, 1) := by unfold bothC; rw [if_neg iy, if_neg iy1]
        clear v0 v1 v2 v3 v4 v5 v6
        obtain ⟨v0, v1, v2, v3, v4, v5, v6⟩ := HS.out V1 HV1K.out
        have q0 : V1.cell? ⟨N, 0, none⟩ = some (.int .i64 (xa)) := by simp [World.cell?, HV1N.out]
        have q1 : V1.cell? ⟨N, 1, none⟩ = some (.int .i64 yb) := by simp [World.cell?, HV1N.out]
        have q2 : V1.cell? ⟨N, 2, none⟩ = some (.int .i64 (1)) := by simp [World.cell?, HV1N.out]
        have HOV := Lib.hid (own_keep HO.out HV1K.out)
        have hlen : Hid (i + 1 ≤ maxLen ∧ (i + 1) * 24 ≤ 140737488355328 ∧ W5.heap.size ≤ V1.heap.size + 1) := Lib.hid (by
          have h3 := HB.out.size
          have h4 := HV1S.out
          unfold maxLen
          omega)
        go_wp2_with (at_builtin; refine wpList_append_own_at _ rfl (.tmp 126) (.tmp 128) 36 rfl W5.heap.size 66 i0 (.agg #[.int .i64 0, .int .i64 0, .int .i64 0]) 3 24 Tryz.underlying36 hi0 hi1 hi2 hi3 rfl (by decide) _ _ _ rfl (HOV.out.alloc _) ⟨_, 0, none⟩ 1 1 [.int .i64 (xa), .int .i64 yb, .int .i64 (1)] rfl rfl (cell3_new _ _ _ _ _) (by intro u hu; simp at hu; rcases hu with rfl | rfl | rfl <;> rfl) hlen.out.1 hlen.out.2.1 (by simp; exact hlen.out.2.2) ?_)
        intro v9 w9 hown9 hgrow9 _ _
        have HO9 : Hid (w9.ownsRow W5.heap.size 66 3 v9 (i + 1) (cutC ((bothL k1 k2).take (i + 1)))) := Lib.hid (by
          rw [List.take_succ_eq_append_getElem (by rw [bothL_len (by rw [hk1.out, hk2.out]), hk2.out]; exact hlt), cutC_snoc, HGET.out, eqb]
          exact hown9)
        have HB9 : Hid (Below W5.heap.size W5 w9) := Lib.hid (by
          have h1 : Below W5.heap.size W5 V1 := ⟨HV1B.out.1.trans HB.out.os, HV1B.out.2.1.trans HB.out.tape, HV1B.out.2.2.trans HB.out.output, Nat.le_trans HB.out.size HV1S.out, fun b hb => (HV1K.out b (Nat.lt_of_lt_of_le hb HB.out.size)).trans (HB.out.block b hb)⟩
          have h2 := h1.alloc (Nat.le_trans HB.out.size HV1S.out) (.cells #[.int .i64 (xa), .int .i64 yb, .int .i64 (1)] 66)
          exact h2.grown hgrow9 h2.size (own_ge HO.out))
        clear hown9 hgrow9 v0 v1 v2 v3 v4 v5 v6 q0 q1 q2
        go_wp2_with fail
        go_roundw
        case rel => exact ⟨i + 1, by omega, by go_num, HO9, HB9⟩
        case measure => simp [Go.RowKit.intOf]; omega
      · have hy0 : 0 < yb := by omega
        obtain ⟨a0, a1⟩ := HSM.out.2.2.2.1 hy0
        obtain ⟨xm, hxm⟩ : ∃ xm, xm = xb * za := ⟨_, rfl⟩
        obtain ⟨aa, haa⟩ : ∃ aa, aa = xa + xm := ⟨_, rfl⟩
        have haa2 : xa + xb * za = aa := by rw [haa, hxm]
        have HAA2 := Lib.hid haa2
        clear haa2
        have xa0 := HSM.out.1
        have xa1 := HSM.out.2.1
        have q0 : V1.drew.cell? ⟨N, 0, none⟩ = some (.int .i64 (xa)) := by
          have h : V1.cell? ⟨N, 0, none⟩ = some (.int .i64 (xa)) := by simp [World.cell?, HV1N.out]
          exact h
        have q1 : V1.drew.frozen? ⟨N, 0, none⟩ = false := by
          have h : V1.frozen? ⟨N, 0, none⟩ = false := by simp [World.frozen?, HV1N.out]
          exact h
        have hw1 : IntKind.i64.wrap (xb * za) = xm := by rw [hxm]; exact IntWalk.i64_in _ (by omega)
        have hw2 : IntKind.i64.wrap (xa + xm) = aa := by rw [haa]; exact IntWalk.i64_in _ (by omega)
        have hw3 : IntKind.i64.wrap (xa + xb * za) = aa := by rw [haa, hxm]; exact IntWalk.i64_in _ (by omega)
        clear haa a0 a1
        obtain ⟨V2, HV2⟩ : ∃ V2, Hid ((V1.setCell ⟨N, 0, none⟩ (.int .i64 (aa))).drew = V2) := ⟨_, Lib.hid rfl⟩
        have hV2 := HV2.out
        have HV2N : Hid (V2.heap[N]? = some (.cells #[.int .i64 aa, .int .i64 yb, .int .i64 1] 66 (0, 0))) := Lib.hid (by
          rw [← hV2]
          have h := heap_set V1 N 0 (.int .i64 (aa)) _ _ HV1N.out
          have h2 : (V1.setCell ⟨N, 0, none⟩ (.int .i64 (aa))).heap[N]? = some (.cells #[.int .i64 aa, .int .i64 yb, .int .i64 1] 66 (0, 0)) := by simpa using h
          exact h2)
        have HV2K : Hid (∀ b, b < wr.heap.size → V2.heap[b]? = wr.heap[b]?) := Lib.hid (fun b hb => by
          rw [← hV2]
          exact ((gb_set V1 N 0 (.int .i64 (aa))).block b (Nat.lt_of_lt_of_le hb HV1S.out) (by intro e; injection e with e; rw [HN.out] at e; omega)).trans (HV1K.out b hb))
        have HV2S : Hid (wr.heap.size ≤ V2.heap.size) := Lib.hid (by rw [← hV2]; exact Nat.le_trans HV1S.out (gb_set V1 N 0 _).size)
        have HV2B : Hid (V2.os = wr.os ∧ V2.tape = wr.tape ∧ V2.output = wr.output) := Lib.hid (by rw [← hV2]; exact HV1B.out)
        go_wp2_with fail
        refine wp_region_noPanic ?_
        refine wp_region_held_drew (S := fun (W : World) => W.cell? ⟨A, 2, none⟩ = some (.slice (some ⟨b1, o1, none⟩) n1 d1) ∧ W.cell? ⟨A, 3, none⟩ = some (.slice (some ⟨b2, o2, none⟩) n1 d2) ∧ W.cell? ⟨b1, o1 + i * 3, none⟩ = some (.int .i64 xa) ∧ W.cell? ⟨b1, o1 + i * 3 + 2, none⟩ = some (.int .i64 za) ∧ W.cell? ⟨b2, o2 + i * 3, none⟩ = some (.int .i64 xb) ∧ W.cell? ⟨b2, o2 + i * 3 + 1, none⟩ = some (.int .i64 yb) ∧ W.cell? ⟨b2, o2 + i * 3 + 2, none⟩ = some (.int .i64 zb)) (by kernel_rfl) (HS.out _ HV1K.out) (fun hHeld => ?_)
        refine wpAnyH_take (i := 0) (v := ?v601) rfl (by kernel_rfl) (by kernel_rfl) (by kernel_rfl) (fun _ _ _ h => h) (Or.inl ⟨by rfl, ?hy601⟩) (by assumption) ?rest601
        case hy601 =>
          intro W' hSw
          obtain ⟨g0, g1, g2, g3, g4, g5, g6⟩ := hSw
          go_simp
          with_reducible rfl
        simp only [List.getElem_toArray, List.getElem_cons_zero, Act.put, List.setIfInBounds_toArray, List.set_cons_zero, List.set_cons_succ]
        refine wpAnyH_take (i := 1) (v := ?v602) rfl (by kernel_rfl) (by kernel_rfl) (by kernel_rfl) (fun _ _ _ h => h) (Or.inl ⟨by rfl, ?hy602⟩) (by assumption) ?rest602
        case hy602 =>
          intro W' hSw
          obtain ⟨g0, g1, g2, g3, g4, g5, g6⟩ := hSw
          go_simp
          with_reducible rfl
        simp only [List.getElem_toArray, List.getElem_cons_zero, List.getElem_cons_succ, Act.put, List.setIfInBounds_toArray, List.set_cons_zero, List.set_cons_succ]
        refine wpAnyH_take (i := 2) (v := ?v603) rfl (by kernel_rfl) (by kernel_rfl) (by kernel_rfl) (fun _ _ _ h => h) (Or.inl ⟨by rfl, ?hy603⟩) (by assumption) ?rest603
        case hy603 =>
          intro W' hSw
          obtain ⟨g0, g1, g2, g3, g4, g5, g6⟩ := hSw
          go_simp
          with_reducible rfl
        simp only [List.getElem_toArray, List.getElem_cons_zero, List.getElem_cons_succ, Act.put, List.setIfInBounds_toArray, List.set_cons_zero, List.set_cons_succ]
        refine wpAnyH_take (i := 3) (v := ?v604) rfl (by kernel_rfl) (by kernel_rfl) (by kernel_rfl) (fun _ _ _ h => h) (Or.inl ⟨by rfl, ?hy604⟩) (by assumption) ?rest604
        case hy604 =>
          intro W' hSw
          obtain ⟨g0, g1, g2, g3, g4, g5, g6⟩ := hSw
          go_simp
          with_reducible rfl
        simp only [List.getElem_toArray, List.getElem_cons_zero, List.getElem_cons_succ, Act.put, List.setIfInBounds_toArray, List.set_cons_zero, List.set_cons_succ]
        refine wpAnyH_take (i := 4) (v := ?v605) rfl (by kernel_rfl) (by kernel_rfl) (by kernel_rfl) (fun _ _ _ h => h) (Or.inl ⟨by rfl, ?hy605⟩) (by assumption) ?rest605
        case hy605 =>
          intro W' hSw
          obtain ⟨g0, g1, g2, g3, g4, g5, g6⟩ := hSw
          go_simp
          with_reducible rfl
        simp only [List.getElem_toArray, List.getElem_cons_zero, List.getElem_cons_succ, Act.put, List.setIfInBounds_toArray, List.set_cons_zero, List.set_cons_succ]
        refine wpAnyH_take (i := 5) (v := ?v606) rfl (by kernel_rfl) (by kernel_rfl) (by kernel_rfl) (fun _ _ _ h => h) (Or.inl ⟨by rfl, ?hy606⟩) (by assumption) ?rest606
        case hy606 =>
          intro W' hSw
          obtain ⟨g0, g1, g2, g3, g4, g5, g6⟩ := hSw
          go_simp
          with_reducible rfl
        simp only [List.getElem_toArray, List.getElem_cons_zero, List.getElem_cons_succ, Act.put, List.setIfInBounds_toArray, List.set_cons_zero, List.set_cons_succ]
        refine wpAnyH_take (i := 6) (v := ?v607) rfl (by kernel_rfl) (by kernel_rfl) (by kernel_rfl) (fun _ _ _ h => h) (Or.inl ⟨by rfl, ?hy607⟩) (by assumption) ?rest607
        case hy607 =>
          intro W' hSw
          obtain ⟨g0, g1, g2, g3, g4, g5, g6⟩ := hSw
          go_simp
          with_reducible rfl
        simp only [List.getElem_toArray, List.getElem_cons_zero, List.getElem_cons_succ, Act.put, List.setIfInBounds_toArray, List.set_cons_zero, List.set_cons_succ]
        refine wpAnyH_take (i := 7) (v := ?v608) rfl (by kernel_rfl) (by kernel_rfl) (by kernel_rfl) (fun _ _ _ h => h) (Or.inl ⟨by rfl, ?hy608⟩) (by assumption) ?rest608
        case hy608 =>
          intro W' hSw
          obtain ⟨g0, g1, g2, g3, g4, g5, g6⟩ := hSw
          go_simp
          with_reducible rfl
        simp only [List.getElem_toArray, List.getElem_cons_zero, List.getElem_cons_succ, Act.put, List.setIfInBounds_toArray, List.set_cons_zero, List.set_cons_succ]
        refine wpAnyH_take (i := 8) (v := ?v609) rfl (by kernel_rfl) (by kernel_rfl) (by kernel_rfl) (fun _ _ _ h => h) (Or.inl ⟨by rfl, ?hy609⟩) (by assumption) ?rest609
        case hy609 =>
          intro W' hSw
          obtain ⟨g0, g1, g2, g3, g4, g5, g6⟩ := hSw
          go_simp
          with_reducible rfl
        simp only [List.getElem_toArray, List.getElem_cons_zero, List.getElem_cons_succ, Act.put, List.setIfInBounds_toArray, List.set_cons_zero, List.set_cons_succ]
        refine wpAnyH_take (i := 9) (v := ?v610) rfl (by kernel_rfl) (by kernel_rfl) (by kernel_rfl) (fun _ _ _ h => h) (Or.inl ⟨by rfl, ?hy610⟩) (by assumption) ?rest610
        case hy610 =>
          intro W' hSw
          obtain ⟨g0, g1, g2, g3, g4, g5, g6⟩ := hSw
          go_simp
          with_reducible rfl
        simp only [List.getElem_toArray, List.getElem_cons_zero, List.getElem_cons_succ, Act.put, List.setIfInBounds_toArray, List.set_cons_zero, List.set_cons_succ]
        refine wpAnyH_take (i := 10) (v := ?v611) rfl (by kernel_rfl) (by kernel_rfl) (by kernel_rfl) (fun _ _ _ h => h) (Or.inl ⟨by rfl, ?hy611⟩) (by assumption) ?rest611
        case hy611 =>
          intro W' hSw
          obtain ⟨g0, g1, g2, g3, g4, g5, g6⟩ := hSw
          go_simp
          with_reducible rfl
        simp only [List.getElem_toArray, List.getElem_cons_zero, List.getElem_cons_succ, Act.put, List.setIfInBounds_toArray, List.set_cons_zero, List.set_cons_succ]
        refine wpAnyH_take (i := 11) (v := ?v612) rfl (by kernel_rfl) (by kernel_rfl) (by kernel_rfl) (fun _ _ _ h => h) (Or.inl ⟨by rfl, ?hy612⟩) (by assumption) ?rest612
        case hy612 =>
          intro W' hSw
          obtain ⟨g0, g1, g2, g3, g4, g5, g6⟩ := hSw
          go_simp
          with_reducible rfl
        simp only [List.getElem_toArray, List.getElem_cons_zero, List.getElem_cons_succ, Act.put, List.setIfInBounds_toArray, List.set_cons_zero, List.set_cons_succ]
        refine wpAnyH_take (i := 12) (v := ?v613) rfl (by kernel_rfl) (by kernel_rfl) (by kernel_rfl) (fun _ _ _ h => h) (Or.inl ⟨by rfl, ?hy613⟩) (by assumption) ?rest613
        case hy613 =>
          intro W' hSw
          obtain ⟨g0, g1, g2, g3, g4, g5, g6⟩ := hSw
          go_simp
          with_reducible rfl
        simp only [List.getElem_toArray, List.getElem_cons_zero, List.getElem_cons_succ, Act.put, List.setIfInBounds_toArray, List.set_cons_zero, List.set_cons_succ]
        refine wpAnyH_take (i := 13) (v := ?v614) rfl (by kernel_rfl) (by kernel_rfl) (by kernel_rfl) (fun _ _ _ h => h) (Or.inl ⟨by rfl, ?hy614⟩) (by assumption) ?rest614
        case hy614 =>
          intro W' hSw
          obtain ⟨g0, g1, g2, g3, g4, g5, g6⟩ := hSw
          go_simp
          with_reducible rfl
        simp only [List.getElem_toArray, List.getElem_cons_zero, List.getElem_cons_succ, Act.put, List.setIfInBounds_toArray, List.set_cons_zero, List.set_cons_succ]
        refine wpAnyH_take (i := 14) (v := ?v615) rfl (by kernel_rfl) (by kernel_rfl) (by kernel_rfl) (fun _ _ _ h => h) (Or.inl ⟨by rfl, ?hy615⟩) (by assumption) ?rest615
        case hy615 =>
          intro W' hSw
          obtain ⟨g0, g1, g2, g3, g4, g5, g6⟩ := hSw
          go_simp
          with_reducible rfl
        simp only [List.getElem_toArray, List.getElem_cons_zero, List.getElem_cons_succ, Act.put, List.setIfInBounds_toArray, List.set_cons_zero, List.set_cons_succ]
        refine wpAnyH_take (i := 15) (v := ?v616) rfl (by kernel_rfl) (by kernel_rfl) (by kernel_rfl) (fun _ _ _ h => h) (Or.inl ⟨by rfl, ?hy616⟩) (by assumption) ?rest616
        case hy616 =>
          intro W' hSw
          obtain ⟨g0, g1, g2, g3, g4, g5, g6⟩ := hSw
          go_simp
          with_reducible rfl
        simp only [List.getElem_toArray, List.getElem_cons_zero, List.getElem_cons_succ, Act.put, List.setIfInBounds_toArray, List.set_cons_zero, List.set_cons_succ]
        refine wpAnyH_take (i := 16) (v := ?v617) rfl (by kernel_rfl) (by kernel_rfl) (by kernel_rfl) (fun _ _ _ h => h) (Or.inl ⟨by rfl, ?hy617⟩) (by assumption) ?rest617
        case hy617 =>
          intro W' hSw
          obtain ⟨g0, g1, g2, g3, g4, g5, g6⟩ := hSw
          go_simp
          with_reducible rfl
        simp only [List.getElem_toArray, List.getElem_cons_zero, List.getElem_cons_succ, Act.put, List.setIfInBounds_toArray, List.set_cons_zero, List.set_cons_succ]
        refine wpAnyH_take (i := 17) (v := ?v618) rfl (by kernel_rfl) (by kernel_rfl) (by kernel_rfl) (fun _ _ _ h => h) (Or.inl ⟨by rfl, ?hy618⟩) (by assumption) ?rest618
        case hy618 =>
          intro W' hSw
          obtain ⟨g0, g1, g2, g3, g4, g5, g6⟩ := hSw
          go_simp
          with_reducible rfl
        simp only [List.getElem_toArray, List.getElem_cons_zero, List.getElem_cons_succ, Act.put, List.setIfInBounds_toArray, List.set_cons_zero, List.set_cons_succ]
        refine wpAnyH_take (i := 18) (v := ?v619) rfl (by kernel_rfl) (by kernel_rfl) (by kernel_rfl) (fun _ _ _ h => h) (Or.inl ⟨by rfl, ?hy619⟩) (by assumption) ?rest619
        case hy619 =>
          intro W' hSw
          obtain ⟨g0, g1, g2, g3, g4, g5, g6⟩ := hSw
          go_simp
          with_reducible rfl
        simp only [List.getElem_toArray, List.getElem_cons_zero, List.getElem_cons_succ, Act.put, List.setIfInBounds_toArray, List.set_cons_zero, List.set_cons_succ]
        refine wpAnyH_take (i := 19) (v := ?v620) rfl (by kernel_rfl) (by kernel_rfl) (by kernel_rfl) (fun _ _ _ h => h) (Or.inl ⟨by rfl, ?hy620⟩) (by assumption) ?rest620
        case hy620 =>
          intro W' hSw
          obtain ⟨g0, g1, g2, g3, g4, g5, g6⟩ := hSw
          go_simp
          with_reducible rfl
        simp only [List.getElem_toArray, List.getElem_cons_zero, List.getElem_cons_succ, Act.put, List.setIfInBounds_toArray, List.set_cons_zero, List.set_cons_succ]
        refine wpAnyH_take (i := 20) (v := ?v621) rfl (by kernel_rfl) (by kernel_rfl) (by kernel_rfl) (fun _ _ _ h => h) (Or.inl ⟨by rfl, ?hy621⟩) (by assumption) ?rest621
        case hy621 =>
          intro W' hSw
          obtain ⟨g0, g1, g2, g3, g4, g5, g6⟩ := hSw
          go_simp
          with_reducible rfl
        simp only [List.getElem_toArray, List.getElem_cons_zero, List.getElem_cons_succ, Act.put, List.setIfInBounds_toArray, List.set_cons_zero, List.set_cons_succ]
        refine wpAnyH_ready (rs := [21]) (by kernel_rfl) (by simp) ?_
        refine AllReadyH.cons (i := 21) rfl (fun K hK => ?_) AllReadyH.nil
        go_simp
        try rw [hw3]
        try rw [hV2]
        refine hK.out _ _ (HS.out _ HV2K.out) (fun hHeld3 => ?_)
        clear hK K
        refine wpAnyH_done (by kernel_rfl) ?_ _
        refine NoPanic.normal ?_
        clear hHeld hHeld3 q0 q1 hV2 v0 v1 v2 v3 v4 v5 v6
        clear hw1 hw2 hw3
        obtain ⟨v0, v1, v2, v3, v4, v5, v6⟩ := HS.out V2 HV2K.out
        by_cases hy1 : ¬ 1 < yb
        · have eqb : bothC (xa, ya, za) (xb, yb, zb) = (aa, yb, 1) := by
            unfold bothC; rw [if_pos hy0, if_neg hy1, HAA2.out]
          clear v0 v1 v2 v3 v4 v5 v6
          obtain ⟨v0, v1, v2, v3, v4, v5, v6⟩ := HS.out V2 HV2K.out
          have q0 : V2.cell? ⟨N, 0, none⟩ = some (.int .i64 (aa)) := by simp [World.cell?, HV2N.out]
          have q1 : V2.cell? ⟨N, 1, none⟩ = some (.int .i64 yb) := by simp [World.cell?, HV2N.out]
          have q2 : V2.cell? ⟨N, 2, none⟩ = some (.int .i64 (1)) := by simp [World.cell?, HV2N.out]
          have HOV := Lib.hid (own_keep HO.out HV2K.out)
          have hlen : Hid (i + 1 ≤ maxLen ∧ (i + 1) * 24 ≤ 140737488355328 ∧ W5.heap.size ≤ V2.heap.size + 1) := Lib.hid (by
            have h3 := HB.out.size
            have h4 := HV2S.out
            unfold maxLen
            omega)
          go_wp2_with (at_builtin; refine wpList_append_own_at _ rfl (.tmp 126) (.tmp 128) 36 rfl W5.heap.size 66 i0 (.agg #[.int .i64 0, .int .i64 0, .int .i64 0]) 3 24 Tryz.underlying36 hi0 hi1 hi2 hi3 rfl (by decide) _ _ _ rfl (HOV.out.alloc _) ⟨_, 0, none⟩ 1 1 [.int .i64 (aa), .int .i64 yb, .int .i64 (1)] rfl rfl (cell3_new _ _ _ _ _) (by intro u hu; simp at hu; rcases hu with rfl | rfl | rfl <;> rfl) hlen.out.1 hlen.out.2.1 (by simp; exact hlen.out.2.2) ?_)
          intro v9 w9 hown9 hgrow9 _ _
          have HO9 : Hid (w9.ownsRow W5.heap.size 66 3 v9 (i + 1) (cutC ((bothL k1 k2).take (i + 1)))) := Lib.hid (by
            rw [List.take_succ_eq_append_getElem (by rw [bothL_len (by rw [hk1.out, hk2.out]), hk2.out]; exact hlt), cutC_snoc, HGET.out, eqb]
            exact hown9)
          have HB9 : Hid (Below W5.heap.size W5 w9) := Lib.hid (by
            have h1 : Below W5.heap.size W5 V2 := ⟨HV2B.out.1.trans HB.out.os, HV2B.out.2.1.trans HB.out.tape, HV2B.out.2.2.trans HB.out.output, Nat.le_trans HB.out.size HV2S.out, fun b hb => (HV2K.out b (Nat.lt_of_lt_of_le hb HB.out.size)).trans (HB.out.block b hb)⟩
            have h2 := h1.alloc (Nat.le_trans HB.out.size HV2S.out) (.cells #[.int .i64 (aa), .int .i64 yb, .int .i64 (1)] 66)
            exact h2.grown hgrow9 h2.size (own_ge HO.out))
          clear hown9 hgrow9 v0 v1 v2 v3 v4 v5 v6 q0 q1 q2
          go_wp2_with fail
          go_roundw
          case rel => exact ⟨i + 1, by omega, by go_num, HO9, HB9⟩
          case measure => simp [Go.RowKit.intOf]; omega
        · have hy1 : 1 < yb := by omega
          obtain ⟨a2, a3⟩ := HSM.out.2.2.2.2 hy1
          obtain ⟨bb, hbb⟩ : ∃ bb, bb = za * zb := ⟨_, rfl⟩
          have HBB := Lib.hid hbb
          have eqb : Hid (bothC (xa, ya, za) (xb, yb, zb) = (aa, yb, bb)) := Lib.hid (by
            unfold bothC; rw [if_pos hy0, if_pos hy1, HAA2.out, HBB.out])
          have q0 : V2.drew.cell? ⟨N, 2, none⟩ = some (.int .i64 1) := by
            have h : V2.cell? ⟨N, 2, none⟩ = some (.int .i64 1) := by simp [World.cell?, HV2N.out]
            exact h
          have q1 : V2.drew.frozen? ⟨N, 2, none⟩ = false := by
            have h : V2.frozen? ⟨N, 2, none⟩ = false := by simp [World.frozen?, HV2N.out]
            exact h
          have hw3 : IntKind.i64.wrap (za * zb) = bb := by rw [hbb]; exact IntWalk.i64_in _ (by omega)
          clear hbb a2 a3
          obtain ⟨V3, HV3⟩ : ∃ V3, Hid ((V2.setCell ⟨N, 2, none⟩ (.int .i64 (bb))).drew = V3) := ⟨_, Lib.hid rfl⟩
          have hV3 := HV3.out
          have HV3N : Hid (V3.heap[N]? = some (.cells #[.int .i64 aa, .int .i64 yb, .int .i64 bb] 66 (0, 0))) := Lib.hid (by
            rw [← hV3]
            have h := heap_set V2 N 2 (.int .i64 (bb)) _ _ HV2N.out
            have h2 : (V2.setCell ⟨N, 2, none⟩ (.int .i64 (bb))).heap[N]? = some (.cells #[.int .i64 aa, .int .i64 yb, .int .i64 bb] 66 (0, 0)) := by simpa using h
            exact h2)
          have HV3K : Hid (∀ b, b < wr.heap.size → V3.heap[b]? = wr.heap[b]?) := Lib.hid (fun b hb => by
            rw [← hV3]
            exact ((gb_set V2 N 2 (.int .i64 (bb))).block b (Nat.lt_of_lt_of_le hb HV2S.out) (by intro e; injection e with e; rw [HN.out] at e; omega)).trans (HV2K.out b hb))
          have HV3S : Hid (wr.heap.size ≤ V3.heap.size) := Lib.hid (by rw [← hV3]; exact Nat.le_trans HV2S.out (gb_set V2 N 2 _).size)
          have HV3B : Hid (V3.os = wr.os ∧ V3.tape = wr.tape ∧ V3.output = wr.output) := Lib.hid (by rw [← hV3]; exact HV2B.out)
          go_wp2_with fail
          refine wp_region_noPanic ?_
          refine wp_region_held_drew (S := fun (W : World) => W.cell? ⟨A, 2, none⟩ = some (.slice (some ⟨b1, o1, none⟩) n1 d1) ∧ W.cell? ⟨A, 3, none⟩ = some (.slice (some ⟨b2, o2, none⟩) n1 d2) ∧ W.cell? ⟨b1, o1 + i * 3, none⟩ = some (.int .i64 xa) ∧ W.cell? ⟨b1, o1 + i * 3 + 2, none⟩ = some (.int .i64 za) ∧ W.cell? ⟨b2, o2 + i * 3, none⟩ = some (.int .i64 xb) ∧ W.cell? ⟨b2, o2 + i * 3 + 1, none⟩ = some (.int .i64 yb) ∧ W.cell? ⟨b2, o2 + i * 3 + 2, none⟩ = some (.int .i64 zb)) (by kernel_rfl) (HS.out _ HV2K.out) (fun hHeld => ?_)
          refine wpAnyH_take (i := 0) (v := ?v701) rfl (by kernel_rfl) (by kernel_rfl) (by kernel_rfl) (fun _ _ _ h => h) (Or.inl ⟨by rfl, ?hy701⟩) (by assumption) ?rest701
          case hy701 =>
            intro W' hSw
            obtain ⟨g0, g1, g2, g3, g4, g5, g6⟩ := hSw
            go_simp
            with_reducible rfl
          simp only [List.getElem_toArray, List.getElem_cons_zero, Act.put, List.setIfInBounds_toArray, List.set_cons_zero, List.set_cons_succ]
          refine wpAnyH_take (i := 1) (v := ?v702) rfl (by kernel_rfl) (by kernel_rfl) (by kernel_rfl) (fun _ _ _ h => h) (Or.inl ⟨by rfl, ?hy702⟩) (by assumption) ?rest702
          case hy702 =>
            intro W' hSw
            obtain ⟨g0, g1, g2, g3, g4, g5, g6⟩ := hSw
            go_simp
            with_reducible rfl
          simp only [List.getElem_toArray, List.getElem_cons_zero, List.getElem_cons_succ, Act.put, List.setIfInBounds_toArray, List.set_cons_zero, List.set_cons_succ]
          refine wpAnyH_take (i := 2) (v := ?v703) rfl (by kernel_rfl) (by kernel_rfl) (by kernel_rfl) (fun _ _ _ h => h) (Or.inl ⟨by rfl, ?hy703⟩) (by assumption) ?rest703
          case hy703 =>
            intro W' hSw
            obtain ⟨g0, g1, g2, g3, g4, g5, g6⟩ := hSw
            go_simp
            with_reducible rfl
          simp only [List.getElem_toArray, List.getElem_cons_zero, List.getElem_cons_succ, Act.put, List.setIfInBounds_toArray, List.set_cons_zero, List.set_cons_succ]
          refine wpAnyH_take (i := 3) (v := ?v704) rfl (by kernel_rfl) (by kernel_rfl) (by kernel_rfl) (fun _ _ _ h => h) (Or.inl ⟨by rfl, ?hy704⟩) (by assumption) ?rest704
          case hy704 =>
            intro W' hSw
            obtain ⟨g0, g1, g2, g3, g4, g5, g6⟩ := hSw
            go_simp
            with_reducible rfl
          simp only [List.getElem_toArray, List.getElem_cons_zero, List.getElem_cons_succ, Act.put, List.setIfInBounds_toArray, List.set_cons_zero, List.set_cons_succ]
          refine wpAnyH_take (i := 4) (v := ?v705) rfl (by kernel_rfl) (by kernel_rfl) (by kernel_rfl) (fun _ _ _ h => h) (Or.inl ⟨by rfl, ?hy705⟩) (by assumption) ?rest705
          case hy705 =>
            intro W' hSw
            obtain ⟨g0, g1, g2, g3, g4, g5, g6⟩ := hSw
            go_simp
            with_reducible rfl
          simp only [List.getElem_toArray, List.getElem_cons_zero, List.getElem_cons_succ, Act.put, List.setIfInBounds_toArray, List.set_cons_zero, List.set_cons_succ]
          refine wpAnyH_take (i := 5) (v := ?v706) rfl (by kernel_rfl) (by kernel_rfl) (by kernel_rfl) (fun _ _ _ h => h) (Or.inl ⟨by rfl, ?hy706⟩) (by assumption) ?rest706
          case hy706 =>
            intro W' hSw
            obtain ⟨g0, g1, g2, g3, g4, g5, g6⟩ := hSw
            go_simp
            with_reducible rfl
          simp only [List.getElem_toArray, List.getElem_cons_zero, List.getElem_cons_succ, Act.put, List.setIfInBounds_toArray, List.set_cons_zero, List.set_cons_succ]
          refine wpAnyH_take (i := 6) (v := ?v707) rfl (by kernel_rfl) (by kernel_rfl) (by kernel_rfl) (fun _ _ _ h => h) (Or.inl ⟨by rfl, ?hy707⟩) (by assumption) ?rest707
          case hy707 =>
            intro W' hSw
            obtain ⟨g0, g1, g2, g3, g4, g5, g6⟩ := hSw
            go_simp
            with_reducible rfl
          simp only [List.getElem_toArray, List.getElem_cons_zero, List.getElem_cons_succ, Act.put, List.setIfInBounds_toArray, List.set_cons_zero, List.set_cons_succ]
          refine wpAnyH_take (i := 7) (v := ?v708) rfl (by kernel_rfl) (by kernel_rfl) (by kernel_rfl) (fun _ _ _ h => h) (Or.inl ⟨by rfl, ?hy708⟩) (by assumption) ?rest708
          case hy708 =>
            intro W' hSw
            obtain ⟨g0, g1, g2, g3, g4, g5, g6⟩ := hSw
            go_simp
            with_reducible rfl
          simp only [List.getElem_toArray, List.getElem_cons_zero, List.getElem_cons_succ, Act.put, List.setIfInBounds_toArray, List.set_cons_zero, List.set_cons_succ]
          refine wpAnyH_take (i := 8) (v := ?v709) rfl (by kernel_rfl) (by kernel_rfl) (by kernel_rfl) (fun _ _ _ h => h) (Or.inl ⟨by rfl, ?hy709⟩) (by assumption) ?rest709
          case hy709 =>
            intro W' hSw
            obtain ⟨g0, g1, g2, g3, g4, g5, g6⟩ := hSw
            go_simp
            with_reducible rfl
          simp only [List.getElem_toArray, List.getElem_cons_zero, List.getElem_cons_succ, Act.put, List.setIfInBounds_toArray, List.set_cons_zero, List.set_cons_succ]
          refine wpAnyH_take (i := 9) (v := ?v710) rfl (by kernel_rfl) (by kernel_rfl) (by kernel_rfl) (fun _ _ _ h => h) (Or.inl ⟨by rfl, ?hy710⟩) (by assumption) ?rest710
          case hy710 =>
            intro W' hSw
            obtain ⟨g0, g1, g2, g3, g4, g5, g6⟩ := hSw
            go_simp
            with_reducible rfl
          simp only [List.getElem_toArray, List.getElem_cons_zero, List.getElem_cons_succ, Act.put, List.setIfInBounds_toArray, List.set_cons_zero, List.set_cons_succ]
          refine wpAnyH_take (i := 10) (v := ?v711) rfl (by kernel_rfl) (by kernel_rfl) (by kernel_rfl) (fun _ _ _ h => h) (Or.inl ⟨by rfl, ?hy711⟩) (by assumption) ?rest711
          case hy711 =>
            intro W' hSw
            obtain ⟨g0, g1, g2, g3, g4, g5, g6⟩ := hSw
            go_simp
            with_reducible rfl
          simp only [List.getElem_toArray, List.getElem_cons_zero, List.getElem_cons_succ, Act.put, List.setIfInBounds_toArray, List.set_cons_zero, List.set_cons_succ]
          refine wpAnyH_take (i := 11) (v := ?v712) rfl (by kernel_rfl) (by kernel_rfl) (by kernel_rfl) (fun _ _ _ h => h) (Or.inl ⟨by rfl, ?hy712⟩) (by assumption) ?rest712
          case hy712 =>
            intro W' hSw
            obtain ⟨g0, g1, g2, g3, g4, g5, g6⟩ := hSw
            go_simp
            with_reducible rfl
          simp only [List.getElem_toArray, List.getElem_cons_zero, List.getElem_cons_succ, Act.put, List.setIfInBounds_toArray, List.set_cons_zero, List.set_cons_succ]
          refine wpAnyH_take (i := 12) (v := ?v713) rfl (by kernel_rfl) (by kernel_rfl) (by kernel_rfl) (fun _ _ _ h => h) (Or.inl ⟨by rfl, ?hy713⟩) (by assumption) ?rest713
          case hy713 =>
            intro W' hSw
            obtain ⟨g0, g1, g2, g3, g4, g5, g6⟩ := hSw
            go_simp
            with_reducible rfl
          simp only [List.getElem_toArray, List.getElem_cons_zero, List.getElem_cons_succ, Act.put, List.setIfInBounds_toArray, List.set_cons_zero, List.set_cons_succ]
          refine wpAnyH_take (i := 13) (v := ?v714) rfl (by kernel_rfl) (by kernel_rfl) (by kernel_rfl) (fun _ _ _ h => h) (Or.inl ⟨by rfl, ?hy714⟩) (by assumption) ?rest714
          case hy714 =>
            intro W' hSw
            obtain ⟨g0, g1, g2, g3, g4, g5, g6⟩ := hSw
            go_simp
            with_reducible rfl
          simp only [List.getElem_toArray, List.getElem_cons_zero, List.getElem_cons_succ, Act.put, List.setIfInBounds_toArray, List.set_cons_zero, List.set_cons_succ]
          refine wpAnyH_ready (rs := [14]) (by kernel_rfl) (by simp) ?_
          refine AllReadyH.cons (i := 14) rfl (fun K hK => ?_) AllReadyH.nil
          go_simp
          try rw [hw3]
          try rw [hV3]
          refine hK.out _ _ (HS.out _ HV3K.out) (fun hHeld3 => ?_)
          clear hK K
          refine wpAnyH_done (by kernel_rfl) ?_ _
          refine NoPanic.normal ?_
          clear hHeld hHeld3 q0 q1 hV3 v0 v1 v2 v3 v4 v5 v6
          clear hw3
          obtain ⟨v0, v1, v2, v3, v4, v5, v6⟩ := HS.out V3 HV3K.out
          have q0 : V3.cell? ⟨N, 0, none⟩ = some (.int .i64 (aa)) := by simp [World.cell?, HV3N.out]
          have q1 : V3.cell? ⟨N, 1, none⟩ = some (.int .i64 yb) := by simp [World.cell?, HV3N.out]
          have q2 : V3.cell? ⟨N, 2, none⟩ = some (.int .i64 bb) := by simp [World.cell?, HV3N.out]
          have HOV := Lib.hid (own_keep HO.out HV3K.out)
          have hlen : Hid (i + 1 ≤ maxLen ∧ (i + 1) * 24 ≤ 140737488355328 ∧ W5.heap.size ≤ V3.heap.size + 1) := Lib.hid (by
            have h3 := HB.out.size
            have h4 := HV3S.out
            unfold maxLen
            omega)
          go_wp2_with (at_builtin; refine wpList_append_own_at _ rfl (.tmp 126) (.tmp 128) 36 rfl W5.heap.size 66 i0 (.agg #[.int .i64 0, .int .i64 0, .int .i64 0]) 3 24 Tryz.underlying36 hi0 hi1 hi2 hi3 rfl (by decide) _ _ _ rfl (HOV.out.alloc _) ⟨_, 0, none⟩ 1 1 [.int .i64 (aa), .int .i64 yb, .int .i64 (bb)] rfl rfl (cell3_new _ _ _ _ _) (by intro u hu; simp at hu; rcases hu with rfl | rfl | rfl <;> rfl) hlen.out.1 hlen.out.2.1 (by simp; exact hlen.out.2.2) ?_)
          intro v9 w9 hown9 hgrow9 _ _
          have HO9 : Hid (w9.ownsRow W5.heap.size 66 3 v9 (i + 1) (cutC ((bothL k1 k2).take (i + 1)))) := Lib.hid (by
            rw [List.take_succ_eq_append_getElem (by rw [bothL_len (by rw [hk1.out, hk2.out]), hk2.out]; exact hlt), cutC_snoc, HGET.out, eqb.out]
            exact hown9)
          have HB9 : Hid (Below W5.heap.size W5 w9) := Lib.hid (by
            have h1 : Below W5.heap.size W5 V3 := ⟨HV3B.out.1.trans HB.out.os, HV3B.out.2.1.trans HB.out.tape, HV3B.out.2.2.trans HB.out.output, Nat.le_trans HB.out.size HV3S.out, fun b hb => (HV3K.out b (Nat.lt_of_lt_of_le hb HB.out.size)).trans (HB.out.block b hb)⟩
            have h2 := h1.alloc (Nat.le_trans HB.out.size HV3S.out) (.cells #[.int .i64 (aa), .int .i64 yb, .int .i64 (bb)] 66)
            exact h2.grown hgrow9 h2.size (own_ge HO.out))
          clear hown9 hgrow9 v0 v1 v2 v3 v4 v5 v6 q0 q1 q2
          go_wp2_with fail
          go_roundw
          case rel => exact ⟨i + 1, by omega, by go_num, HO9, HB9⟩
          case measure => simp [Go.RowKit.intOf]; omega
    · obtain rfl : i = n1 := by omega
      have ilt : ¬ (i : Int) < (i : Int) := by omega
      have hcl := (cnts_ok HSL.out HSH.out.2.1).1
      have htl : t.length = n := by rw [← hs.out, HST.out, List.length_map]
      obtain rfl : n = i := by rw [← htl, ← hcl, hk1.out]
      have hbl : (bothL k1 k2).length = n := by rw [bothL_len (by rw [hk1.out, hk2.out]), hk2.out]
      have hcz := (cnts_ok HSL2.out (shp_cnts HSH.out HSL.out).2.1).2.1
      have ho := HO.out
      rw [List.take_of_length_le (by rw [hbl]; exact Nat.le_refl _)] at ho
      obtain ⟨pb, cb, e7, hrd⟩ := own_rdC (X := bothL k1 k2) (fun z hz => by
        obtain ⟨k, hk, e⟩ := List.getElem_of_mem hz
        have h1 := bothL_at (c1 := k1) (c2 := k2) (k := k) (by rw [hk1.out, hk2.out]) (by rw [hk2.out, ← hbl]; exact hk)
        rw [List.getD_eq_getElem?_getD, List.getElem?_eq_getElem hk, Option.getD_some, e] at h1
        have h2 := hcz (k2.getD k (0, 0, 0)) (by rw [List.getD_eq_getElem?_getD, List.getElem?_eq_getElem (by rw [hk2.out, ← hbl]; exact hk)]; exact List.getElem_mem _)
        have h3 : z.2.1 = (k2.getD k (0, 0, 0)).2.1 := by rw [h1]; rfl
        omega) (by rw [hbl]; exact ho)
      rw [hbl] at e7
      subst e7
      have hst := HST.out
      have H23c := Lib.hid (slice_yes p q pb c d n m cb t (bothL k1 k2) l wr (HE.out.below hbw) (Lib.hid htl) hl hm HSH (by have := HP.out.below hbw; rw [hst] at this; exact this) (HQ.out.below hbw) hrd (by rw [← hst]; exact HVA.out) HBOTH)
      have hbx5 : W5.heap[w4.heap.size]? = some (.cells #[.slice q3 m3 e3, .slice q4 m4 e4] 25 (0, 0)) := by rw [← HW5.out]; exact World.alloc_heap_new w4 _
      have hx5 : w4.heap.size < W5.heap.size := (Array.getElem?_eq_some_iff.1 hbx5).1
      have HBXR : Hid (wr.heap[w4.heap.size]? = some (.cells #[.slice q3 m3 e3, .slice q4 m4 e4] 25 (0, 0))) := Lib.hid ((HB.out.block _ hx5).trans hbx5)
      clear hbw ho hrd hst hcz hcl hbx5 hx5
      go_wp2_with fail
      refine (H23c.out).mono ?_
      rintro e w6 ⟨hb6, q5, d5, V5, rfl, r1, -, -, -, r2, -⟩
      have HB6 : Hid (Below W0.heap.size W0 w6) := Lib.hid (HBW.out.trans (hb6.mono HBW.out.size))
      have hx6 := (hb6.block _ (Array.getElem?_eq_some_iff.1 HBXR.out).1).trans HBXR.out
      obtain ⟨W7, HW7⟩ : ∃ W7, Hid (w6.alloc (.cells #[.slice q5 n d5, .slice (some ⟨V5, 0, none⟩) (prod (cnts (bothL k1 k2))) (prod (cnts (bothL k1 k2)))] 25) = W7) := ⟨_, Lib.hid rfl⟩
      have hb67 : Below w6.heap.size w6 W7 := by rw [← HW7.out]; exact (Below.refl _ _).alloc (Nat.le_refl _) _
      have hx7 := (hb67.block _ (Array.getElem?_eq_some_iff.1 hx6).1).trans hx6
      have y0 : W7.cell? ⟨w4.heap.size, 0, none⟩ = some (.slice q3 m3 e3) := by simp [World.cell?, hx7]
      have y1 : W7.cell? ⟨w4.heap.size, 1, none⟩ = some (.slice q4 m4 e4) := by simp [World.cell?, hx7]
      have HB7 : Hid (Below W0.heap.size W0 W7) := Lib.hid (HB6.out.trans (hb67.mono HB6.out.size))
      have h57 : Below W5.heap.size W5 W7 := (HB.out.trans (hb6.mono HB.out.size)).trans (hb67.mono (Nat.le_trans HB.out.size hb6.size))
      rw [← HW7.out] at y0 y1
      have H22 : Hid (Calls Tryz.prog 23 #[.agg #[.slice q5 n d5, .slice (some ⟨V5, 0, none⟩) (prod (cnts (bothL k1 k2))) (prod (cnts (bothL k1 k2)))], .int .i64 0, .agg #[.slice q3 m3 e3, .slice q4 m4 e4], .int .i64 0] W7 fun e w' => Below W7.heap.size W7 w' ∧ e = .returned (.bool true)) := Lib.hid (by
        have hpb := (cnts_ok HBOTH.out HSH.out.2.1).2.2.2
        have h4 := HSH.out.2.2
        have hcn : (cnts (bothL k1 k2)).length = n := by rw [cnts, List.length_map, hbl]
        have h := agrees_any q5 (some ⟨V5, 0, none⟩) q3 q4 d5 (prod (cnts (bothL k1 k2))) e3 e4 n (prod (cnts (bothL k1 k2))) m3 m4 0 0 ((cnts (bothL k1 k2)).map Int.ofNat) (s2.map Int.ofNat) (sliceV t l (bothL k1 k2)) l2 W7 (Lib.hid (by rw [List.length_map, hcn])) (Lib.hid (sliceV_len _ _ _)) (Lib.hid (by rw [List.length_map, hs2])) (Lib.hid hl2) (by omega) (by omega) (by omega) (by omega) (r1.below hb67) (r2.below hb67) (HR3.out.below h57) (HR4.out.below h57)
        rw [← HEC.out, ← HEQ.out, decide_eq_true rfl, decide_eq_true rfl, decide_eq_true rfl] at h
        rw [← HEC.out]
        exact h)
      have HSN := Lib.hid HSANE.out
      clear hb6 r1 r2 hx6 hb67 hx7 h57 hbl c0 c1 c2 c3
      go_wp2_with fail
      rw [HW7.out]
      refine (H22.out).mono ?_
      rintro e w8 ⟨hb8, rfl⟩
      have HB8 : Hid (Below W0.heap.size W0 w8) := Lib.hid (HB7.out.trans (hb8.mono HB7.out.size))
      have HS8 := Lib.hid (HSN.out w8 HB8.out)
      clear hb8 y0 y1
      go_wp2_with fail
      refine (HS8.out).mono ?_
      rintro e w9 ⟨hb9, rfl⟩
      have HB9 := Lib.hid hb9
      clear hb9
      go_wp2_with fail
      go_ret
      exact ⟨HB9.out, rfl⟩
end Go.Proofs.YtigidchicloleaaGreatDoor.Arr
