/- The document's Box, whole. -/
import Derived.Test.YtaldangjhdddoaaGreatDoorJP
import Derived.Test.YtaldangjhdddoaaGreatDoorRa
set_option maxHeartbeats 2000000
set_option maxRecDepth 100000
namespace Go.Proofs.YtaldangjhdddoaaGreatDoor.Arr
open Go.RowKit Go.Shelf
open Go.Lib
attribute [local go_sem] Oper.semAt_some
theorem rboxw_any (p q r : Option Addr) (c d f n k m : Nat) (s z ix : List Int) (w : World) (hs : Hid (s.length = n)) (hz : Hid (z.length = k)) (hi : Hid (ix.length = m)) (hp : Rd w p s) (hq : Rd w q z) (hr : Rd w r ix) :
    Calls Tryz.prog 32 #[.slice p n c, .slice q k d, .slice r m f] w (CutsPost w (boxR s z ix).1 (boxR s z ix).2) := by
  have HP := Lib.hid hp
  have HQ := Lib.hid hq
  have HR := Lib.hid hr
  obtain ⟨v, HV⟩ : ∃ v, Hid (v = vs s) := ⟨_, Lib.hid rfl⟩
  have H19 : Hid (Calls Tryz.prog 19 #[.slice p n c] w fun e w' => w = w' ∧ e = .returned (.bool v)) := Lib.hid (by
    have := rvshape_any p c s w hp
    rwa [hs.out, ← HV.out] at this)
  have HBZ := Lib.hid (Below.refl w.heap.size w)
  clear hp hq hr
  by_cases hv : v = false
  · subst hv
    have e0 : boxR s z ix = (60, []) := by unfold boxR chkV; rw [if_pos HV.out.symm, if_pos (by decide)]
    rw [e0]
    clear e0
    go_enter Tryz.func32, Tryz.ntmps32
    go_wp2_with fail
    refine (H19.out).mono ?_
    rintro e w' ⟨rfl, rfl⟩
    go_wp2_with fail
    refine bodyPost_ret (v := .tuple #[.slice none 0 0, .int .i64 60]) ?_ rfl (cuts_no HBZ.out)
    simp [results, Tryz.f32, go_sem]
  obtain rfl : v = true := by simpa using hv
  have hn4 : n ≤ 4 := by
    obtain ⟨s0, rfl, hsh⟩ := vs_yes HV.out.symm
    rw [← hs.out, List.length_map]; exact hsh.1
  obtain ⟨v2, HV2⟩ : ∃ v2, Hid (v2 = sized s z) := ⟨_, Lib.hid rfl⟩
  have H73 : Hid (Calls Tryz.prog 73 #[.slice p n c, .slice q k d] w fun e w' => w = w' ∧ e = .returned (.bool v2)) := Lib.hid (by
    rw [HV2.out]; exact sized_any p q c d n k s z w hs hz hn4 HQ.out)
  by_cases hv2 : v2 = false
  · subst hv2
    have e0 : boxR s z ix = (2, []) := by
      have e1 : chkV s z = 2 := by unfold chkV; rw [if_neg (by rw [← HV.out]; simp), if_pos HV2.out.symm]
      unfold boxR; rw [e1, if_pos (by decide)]
    rw [e0]
    clear e0
    go_enter Tryz.func32, Tryz.ntmps32
    go_wp2_with fail
    refine (H19.out).mono ?_
    rintro e w' ⟨rfl, rfl⟩
    go_wp2_with fail
    refine (H73.out).mono ?_
    rintro e w' ⟨rfl, rfl⟩
    go_wp2_with fail
    refine bodyPost_ret (v := .tuple #[.slice none 0 0, .int .i64 2]) ?_ rfl (cuts_no HBZ.out)
    simp [results, Tryz.f32, go_sem]
  obtain rfl : v2 = true := by simpa using hv2
  have hck : chkV s z = 0 := by unfold chkV; rw [if_neg (by rw [← HV.out]; simp), if_neg (by rw [← HV2.out]; simp)]
  have HCK := Lib.hid hck
  obtain ⟨s0, z0, rfl, rfl, hsh, hzl, hzb⟩ := chk_zero hck
  have hsn : s0.length = n := by rw [← hs.out, List.length_map]
  have hkn : k = n := by rw [← hz.out, List.length_map, hzl, hsn]
  subst hkn
  obtain ⟨n, rfl⟩ : ∃ n, n = k := ⟨_, rfl⟩
  have HSN := Lib.hid hsn
  have HZN : Hid (z0.length = n) := Lib.hid (by rw [hzl, hsn])
  have HSB : Hid (∀ x ∈ s0, x ≤ 1024) := Lib.hid hsh.2.1
  have HZB := Lib.hid hzb
  have HZL := Lib.hid hzl
  obtain ⟨u, HU⟩ : ∃ u, Hid (u = ixOk (nums s0 z0) ix) := ⟨_, Lib.hid rfl⟩
  have H74 : Hid (Calls Tryz.prog 74 #[.slice p n c, .slice q n d] w (NumsPost w n (nums s0 z0))) := Lib.hid (rnumbers_any p q c d n s0 z0 w hn4 HSN HZN HSB HZB HP.out HQ.out)
  have HNB : Hid (∀ x ∈ nums s0 z0, (x : Int) ≤ 9223372036854775807) := Lib.hid (fun x hx => by
    obtain ⟨j, hj, rfl⟩ := List.mem_map.1 hx
    have hj2 := List.mem_range.1 hj
    have h1 : 1 ≤ z0.getD j 0 := by
      rw [List.getD_eq_getElem?_getD, List.getElem?_eq_getElem (by rw [HZL.out]; exact hj2)]
      exact (HZB.out _ (List.getElem_mem _)).1
    have h2 := cdiv_le (a := s0.getD j 0) h1
    have h3 : s0.getD j 0 ≤ 1024 := getD_bound HSB.out
    omega)
  have e1 : boxR (s0.map Int.ofNat) (z0.map Int.ofNat) ix = if u = false then (61, []) else (0, boxL s0 z0 (ix.map Int.toNat)) := by
    unfold boxR
    rw [if_neg (by rw [HCK.out]; simp), toNat_map, toNat_map, ← HU.out]
  rw [e1]
  clear e1 hsn hzl hsh hzb hck hv hv2
  by_cases hu : u = false
  · subst hu
    rw [if_pos rfl]
    go_enter Tryz.func32, Tryz.ntmps32
    go_wp2_with fail
    refine (H19.out).mono ?_
    rintro e w' ⟨rfl, rfl⟩
    go_wp2_with fail
    refine (H73.out).mono ?_
    rintro e w' ⟨rfl, rfl⟩
    go_wp2_with fail
    refine (H74.out).mono ?_
    rintro e w1 ⟨hb1, g, hg, rfl, hrow⟩
    have HB1 := Lib.hid hb1
    have H52 : Hid (Calls Tryz.prog 52 #[.slice (some ⟨g, 0, none⟩) n n, .slice r m f] w1 fun e w' => (∃ k, w1.drewN k = w') ∧ e = .returned (.bool false)) := Lib.hid (by
      have := risix_any (some ⟨g, 0, none⟩) r n f n m (nums s0 z0) ix w1 (Lib.hid (by rw [nums_len, HSN.out])) hi hn4 (rdn_row hrow HNB.out) (HR.out.below hb1)
      rwa [← HU.out] at this)
    clear hb1 hrow hg
    go_wp2_with fail
    refine (H52.out).mono ?_
    rintro e y2 ⟨⟨q2, rfl⟩, rfl⟩
    obtain ⟨w2, HW2⟩ : ∃ w2, Hid (w1.drewN q2 = w2) := ⟨_, Lib.hid rfl⟩
    rw [HW2.out]
    have HBZ : Hid (Below w.heap.size w w2) := Lib.hid (by rw [← HW2.out]; exact HB1.out.trans ⟨rfl, rfl, rfl, Nat.le_refl _, fun _ _ => rfl⟩)
    go_wp2_with fail
    refine bodyPost_ret (v := .tuple #[.slice none 0 0, .int .i64 61]) ?_ rfl (cuts_no HBZ.out)
    simp [results, Tryz.f32, go_sem]
  obtain rfl : u = true := by simpa using hu
  rw [if_neg (by simp)]
  obtain ⟨i0, rfl, hix⟩ := ixOk_nat HU.out.symm
  rw [toNat_map]
  go_enter Tryz.func32, Tryz.ntmps32
  go_wp2_with fail
  refine (H19.out).mono ?_
  rintro e w' ⟨rfl, rfl⟩
  go_wp2_with fail
  refine (H73.out).mono ?_
  rintro e w' ⟨rfl, rfl⟩
  go_wp2_with fail
  refine (H74.out).mono ?_
  rintro e w1 ⟨hb1, g, hg, rfl, hrow⟩
  have HB1 := Lib.hid hb1
  have H52 : Hid (Calls Tryz.prog 52 #[.slice (some ⟨g, 0, none⟩) n n, .slice r m f] w1 fun e w' => (∃ k, w1.drewN k = w') ∧ e = .returned (.bool true)) := Lib.hid (by
    have := risix_any (some ⟨g, 0, none⟩) r n f n m (nums s0 z0) (i0.map Int.ofNat) w1 (Lib.hid (by rw [nums_len, HSN.out])) hi hn4 (rdn_row hrow HNB.out) (HR.out.below hb1)
    rwa [← HU.out] at this)
  clear hb1 hrow hg
  go_wp2_with fail
  refine (H52.out).mono ?_
  rintro e y2 ⟨⟨q2, rfl⟩, rfl⟩
  obtain ⟨w2, HW2⟩ : ∃ w2, Hid (w1.drewN q2 = w2) := ⟨_, Lib.hid rfl⟩
  rw [HW2.out]
  have HBZ : Hid (Below w.heap.size w w2) := Lib.hid (by rw [← HW2.out]; exact HB1.out.trans ⟨rfl, rfl, rfl, Nat.le_refl _, fun _ _ => rfl⟩)
  go_wp2_with fail
  have hm : m = n := by rw [← hi.out, List.length_map, hix.1, nums_len, HSN.out]
  subst hm
  obtain ⟨m, rfl⟩ : ∃ m', m' = m := ⟨_, rfl⟩
  have HIX := Lib.hid hix
  have H75 : Hid (Calls Tryz.prog 75 #[.slice p m c, .slice q m d, .slice r m f] w2 fun e w' => Below w2.heap.size w2 w' ∧ ∃ g, e = .returned (.slice (some ⟨g, 0, none⟩) m m) ∧ RdC w' (some ⟨g, 0, none⟩) (boxL s0 z0 i0)) := Lib.hid
    (rbox_any p q r c d f m s0 z0 i0 w2 hn4 HSN HZL HSB HZB HIX (RdN.below HP.out HBZ.out) (RdN.below HQ.out HBZ.out) (RdN.below HR.out HBZ.out))
  clear hix
  refine (H75.out).mono ?_
  rintro e w3 ⟨hb3, g3, rfl, hr3⟩
  have hfin : Hid (CutsPost w 0 (boxL s0 z0 i0) (.returned (.tuple #[.slice (some ⟨g3, 0, none⟩) m m, .int .i64 0])) w3) := Lib.hid ⟨HBZ.out.trans (hb3.mono HBZ.out.size), some ⟨g3, 0, none⟩, m, m, rfl, by rw [boxL_len, HSN.out], hr3⟩
  clear hb3 hr3
  go_wp2_with fail
  refine bodyPost_ret (v := .tuple #[.slice (some ⟨g3, 0, none⟩) m m, .int .i64 0]) ?_ rfl hfin.out
  simp [results, Tryz.f32, go_sem]
end Go.Proofs.YtaldangjhdddoaaGreatDoor.Arr
