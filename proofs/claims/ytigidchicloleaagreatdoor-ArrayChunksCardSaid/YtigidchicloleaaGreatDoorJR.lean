/- The document's Box, whole. -/
import Derived.Test.YtigidchicloleaaGreatDoorJP
import Derived.Test.YtigidchicloleaaGreatDoorQD
import Derived.Test.YtigidchicloleaaGreatDoorJE
import Derived.Test.YtigidchicloleaaGreatDoorJA
set_option maxHeartbeats 2000000
set_option maxRecDepth 100000
namespace Go.Proofs.YtigidchicloleaaGreatDoor.Arr
open Go.RowKit Go.Shelf
open Go.Lib
attribute [local go_sem] Oper.semAt_some
theorem rboxw_any (p q r : Option Addr) (c d f n k m : Nat) (s z ix : List Int) (w : World) (hs : Hid (s.length = n)) (hz : Hid (z.length = k)) (hi : Hid (ix.length = m)) (hp : Rd w p s) (hq : Rd w q z) (hr : Rd w r ix) :
    Calls Tryz.prog 33 #[.slice p n c, .slice q k d, .slice r m f] w (CutsPost w (boxR s z ix).1 (boxR s z ix).2) := by
  have HP := Lib.hid hp
  have HQ := Lib.hid hq
  have HR := Lib.hid hr
  obtain ⟨v, HV⟩ : ∃ v, Hid (v = vs s) := ⟨_, Lib.hid rfl⟩
  have H19 : Hid (Calls Tryz.prog 20 #[.slice p n c] w fun e w' => w = w' ∧ e = .returned (.bool v)) := Lib.hid (by
    have := rvshape_any p c s w hp
    rwa [hs.out, ← HV.out] at this)
  have HBZ := Lib.hid (Below.refl w.heap.size w)
  clear hp hq hr
  by_cases hv : v = false
  · subst hv
    have e0 : boxR s z ix = (60, []) := by unfold boxR chkV; rw [if_pos HV.out.symm, if_pos (by decide)]
    rw [e0]
    clear e0
    go_enter Tryz.func33, Tryz.ntmps33
    go_wp2_with fail
    refine (H19.out).mono ?_
    rintro e w' ⟨rfl, rfl⟩
    go_wp2_with fail
    refine bodyPost_ret (v := .tuple #[.slice none 0 0, .int .i64 60]) ?_ rfl (cuts_no HBZ.out)
    simp [results, Tryz.f33, go_sem]
  obtain rfl : v = true := by simpa using hv
  have hn4 : n ≤ 4 := by
    obtain ⟨s0, rfl, hsh⟩ := vs_yes HV.out.symm
    rw [← hs.out, List.length_map]; exact hsh.1
  obtain ⟨v2, HV2⟩ : ∃ v2, Hid (v2 = sized s z) := ⟨_, Lib.hid rfl⟩
  have H73 : Hid (Calls Tryz.prog 76 #[.slice p n c, .slice q k d] w fun e w' => w = w' ∧ e = .returned (.bool v2)) := Lib.hid (by
    rw [HV2.out]; exact sized_any p q c d n k s z w hs hz hn4 HQ.out)
  by_cases hv2 : v2 = false
  · subst hv2
    have e0 : boxR s z ix = (2, []) := by
      have e1 : chkV s z = 2 := by unfold chkV; rw [if_neg (by rw [← HV.out]; simp), if_pos HV2.out.symm]
      unfold boxR; rw [e1, if_pos (by decide)]
    rw [e0]
    clear e0
    go_enter Tryz.func33, Tryz.ntmps33
    go_wp2_with fail
    refine (H19.out).mono ?_
    rintro e w' ⟨rfl, rfl⟩
    go_wp2_with fail
    refine (H73.out).mono ?_
    rintro e w' ⟨rfl, rfl⟩
    go_wp2_with fail
    refine bodyPost_ret (v := .tuple #[.slice none 0 0, .int .i64 2]) ?_ rfl (cuts_no HBZ.out)
    simp [results, Tryz.f33, go_sem]
  obtain rfl : v2 = true := by simpa using hv2
  have hck : chkV s z = 0 := by unfold chkV; rw [if_neg (by rw [← HV.out]; simp), if_neg (by rw [← HV2.out]; simp)]
  have HCK := Lib.hid hck
  obtain ⟨s0, z0, rfl, rfl, hsh, hzl, hzb⟩ := chk_zero hck
  have hsn : s0.length = n := by rw [← hs.out, List.length_map]
  have hkn : k = n := by rw [← hz.out, List.length_map, hzl, hsn]
  subst hkn
  obtain ⟨n, rfl⟩ : ∃ n, n = k := ⟨_, rfl⟩
  have HSN := Lib.hid hsn
  have HZN : Hid (z0.length = n) := Lib.hid (by rw [hzl, hsn])
  have HSB : Hid (∀ x ∈ s0, x ≤ 1024) := Lib.hid hsh.2.1
  have HZB := Lib.hid hzb
  have HZL := Lib.hid hzl
  obtain ⟨u, HU⟩ : ∃ u, Hid (u = ixOk (nums s0 z0) ix) := ⟨_, Lib.hid rfl⟩
  have H74 : Hid (Calls Tryz.prog 77 #[.slice p n c, .slice q n d] w (NumsPost w n (nums s0 z0))) := Lib.hid (rnumbers_any p q c d n s0 z0 w hn4 HSN HZN HSB HZB HP.out HQ.out)
  have HNB : Hid (∀ x ∈ nums s0 z0, (x : Int) ≤ 9223372036854775807) := Lib.hid (fun x hx => by
    obtain ⟨j, hj, rfl⟩ := List.mem_map.1 hx
    have hj2 := List.mem_range.1 hj
    have h1 : 1 ≤ z0.getD j 0 := by
      rw [List.getD_eq_getElem?_getD, List.getElem?_eq_getElem (by rw [HZL.out]; exact hj2)]
      exact (HZB.out _ (List.getElem_mem _)).1
    have h2 := cdiv_le (a := s0.getD j 0) h1
    have h3 : s0.getD j 0 ≤ 1024 := getD_bound HSB.out
    omega)
  have e1 : boxR (s0.map Int.ofNat) (z0.map Int.ofNat) ix = if u = false then (61, []) else (0, boxL s0 z0 (ix.map Int.toNat)) := by
    unfold boxR
    rw [if_neg (by rw [HCK.out]; simp), toNat_map, toNat_map, ← HU.out]
  rw [e1]
  clear e1 hsn hzl hsh hzb hck hv hv2
  by_cases hu : u = false
  · subst hu
    rw [if_pos rfl]
    go_enter Tryz.func33, Tryz.ntmps33
    go_wp2_with fail
    refine (H19.out).mono ?_
    rintro e w' ⟨rfl, rfl⟩
    go_wp2_with fail
    refine (H73.out).mono ?_
    rintro e w' ⟨rfl, rfl⟩
    go_wp2_with fail
    refine (H74.out).mono ?_
    rintro e w1 ⟨hb1, g, hg, rfl, hrow⟩
    have HB1 := Lib.hid hb1
    have H52 : Hid (Calls Tryz.prog 55 #[.slice (some ⟨g, 0, none⟩) n n, .slice r m f] w1 fun e w' => (∃ k, w1.drewN k = w') ∧ e = .returned (.bool false)) := Lib.hid (by
      have := risix_any (some ⟨g, 0, none⟩) r n f n m (nums s0 z0) ix w1 (Lib.hid (by rw [nums_len, HSN.out])) hi hn4 (rdn_row hrow HNB.out) (HR.out.below hb1)
      rwa [← HU.out] at this)
    clear hb1 hrow hg
    go_wp2_with fail
    refine (H52.out).mono ?_
    rintro e y2 ⟨⟨q2, rfl⟩, rfl⟩
    obtain ⟨w2, HW2⟩ : ∃ w2, Hid (w1.drewN q2 = w2) := ⟨_, Lib.hid rfl⟩
    rw [HW2.out]
    have HBZ : Hid (Below w.heap.size w w2) := Lib.hid (by rw [← HW2.out]; exact HB1.out.trans ⟨rfl, rfl, rfl, Nat.le_refl _, fun _ _ => rfl⟩)
    go_wp2_with fail
    refine bodyPost_ret (v := .tuple #[.slice none 0 0, .int .i64 61]) ?_ rfl (cuts_no HBZ.out)
    simp [results, Tryz.f33, go_sem]
  obtain rfl : u = true := by simpa using hu
  rw [if_neg (by simp)]
  obtain ⟨i0, rfl, hix⟩ := ixOk_nat HU.out.symm
  rw [toNat_map]
  go_enter Tryz.func33, Tryz.ntmps33
  go_wp2_with fail
  refine (H19.out).mono ?_
  rintro e w' ⟨rfl, rfl⟩
  go_wp2_with fail
  refine (H73.out).mono ?_
  rintro e w' ⟨rfl, rfl⟩
  go_wp2_with fail
  refine (H74.out).mono ?_
  rintro e w1 ⟨hb1, g, hg, rfl, hrow⟩
  have HB1 := Lib.hid hb1
  have H52 : Hid (Calls Tryz.prog 55 #[.slice (some ⟨g, 0, none⟩) n n, .slice r m f] w1 fun e w' => (∃ k, w1.drewN k = w') ∧ e = .returned (.bool true)) := Lib.hid (by
    have := risix_any (some ⟨g, 0, none⟩) r n f n m (nums s0 z0) (i0.map Int.ofNat) w1 (Lib.hid (by rw [nums_len, HSN.out])) hi hn4 (rdn_row hrow HNB.out) (HR.out.below hb1)
    rwa [← HU.out] at this)
  clear hb1 hrow hg
  go_wp2_with fail
  refine (H52.out).mono ?_
  rintro e y2 ⟨⟨q2, rfl⟩, rfl⟩
  obtain ⟨w2, HW2⟩ : ∃ w2, Hid (w1.drewN q2 = w2) := ⟨_, Lib.hid rfl⟩
  rw [HW2.out]
  have HBZ : Hid (Below w.heap.size w w2) := Lib.hid (by rw [← HW2.out]; exact HB1.out.trans ⟨rfl, rfl, rfl, Nat.le_refl _, fun _ _ => rfl⟩)
  go_wp2_with fail
  have hm : m = n := by rw [← hi.out, List.length_map, hix.1, nums_len, HSN.out]
  subst hm
  obtain ⟨m, rfl⟩ : ∃ m', m' = m := ⟨_, rfl⟩
  have HIX := Lib.hid hix
  have H75 : Hid (Calls Tryz.prog 78 #[.slice p m c, .slice q m d, .slice r m f] w2 fun e w' => Below w2.heap.size w2 w' ∧ ∃ g, e = .returned (.slice (some ⟨g, 0, none⟩) m m) ∧ RdC w' (some ⟨g, 0, none⟩) (boxL s0 z0 i0)) := Lib.hid
    (rbox_any p q r c d f m s0 z0 i0 w2 hn4 HSN HZL HSB HZB HIX (RdN.below HP.out HBZ.out) (RdN.below HQ.out HBZ.out) (RdN.below HR.out HBZ.out))
  clear hix
  refine (H75.out).mono ?_
  rintro e w3 ⟨hb3, g3, rfl, hr3⟩
  have hfin : Hid (CutsPost w 0 (boxL s0 z0 i0) (.returned (.tuple #[.slice (some ⟨g3, 0, none⟩) m m, .int .i64 0])) w3) := Lib.hid ⟨HBZ.out.trans (hb3.mono HBZ.out.size), some ⟨g3, 0, none⟩, m, m, rfl, by rw [boxL_len, HSN.out], hr3⟩
  clear hb3 hr3
  go_wp2_with fail
  refine bodyPost_ret (v := .tuple #[.slice (some ⟨g3, 0, none⟩) m m, .int .i64 0]) ?_ rfl hfin.out
  simp [results, Tryz.f33, go_sem]
end Go.Proofs.YtigidchicloleaaGreatDoor.Arr
set_option maxHeartbeats 2000000
set_option maxRecDepth 100000
namespace Go.Proofs.YtigidchicloleaaGreatDoor.Arr
open Go.RowKit Go.Shelf
open Go.Lib
attribute [local go_sem] Oper.semAt_some
theorem below_own {w U w9 : World} {pv : Option Addr} {cv n : Nat} {vals : List Value} (hb : Below w.heap.size w U) (ho : U.ownsRow w.heap.size 22 1 (.slice pv n cv) n vals) (hg : U.grownBy w9 (Value.slice pv n cv).ownBlock) : Below w.heap.size w w9 := by
  rcases Option.eq_none_or_eq_some (Value.slice pv n cv).ownBlock with e | ⟨k, e⟩
  · rw [e] at hg
    have o2 := (gb_of_below hb none).trans hg
    exact ⟨o2.os, o2.tape, o2.output, o2.size, fun k hk => o2.block k hk (by intro e; cases e)⟩
  · rw [e] at hg
    have o2 := gb_trans_new (gb_of_below hb none) hg (own_type ho e).1
    exact ⟨o2.os, o2.tape, o2.output, o2.size, fun k hk => o2.block k hk (by intro e; cases e)⟩
theorem LI.pre {B cv n : Nat} {pv : Option Addr} {T : List (List Nat)} {W U : World} (h : LI B B pv cv n T W) (hb : Below W.heap.size W U) : ∃ vals, U.ownsRow B 22 1 (.slice pv n cv) n vals ∧ Els B (Value.slice pv n cv).ownBlock U T vals ∧ ∀ b, (Value.slice pv n cv).ownBlock = some b → b < W.heap.size := by
  obtain ⟨v1, h1, h2⟩ := h.row
  exact ⟨v1, h1.kept (gb_of_below hb none) (by cases pv <;> simp [Value.ownBlock]), h2.move hb.size (fun b o _ h3 hb2 _ => ⟨hb.block b (Array.getElem?_eq_some_iff.1 hb2).1, h3⟩), fun b e => (h1.lt b e).2⟩
theorem rchunks_any (p q : Option Addr) (c d n k : Nat) (s z : List Int) (w : World) (hs : Hid (s.length = n)) (hz : Hid (z.length = k)) (hp : Rd w p s) (hq : Rd w q z) :
    Calls Tryz.prog 31 #[.slice p n c, .slice q k d] w (LstPost w (chunksR s z).1 (chunksR s z).2) := by
  have HP := Lib.hid hp
  have HQ := Lib.hid hq
  obtain ⟨v, HV⟩ : ∃ v, Hid (v = vs s) := ⟨_, Lib.hid rfl⟩
  have H19 : Hid (Calls Tryz.prog 20 #[.slice p n c] w fun e w' => w = w' ∧ e = .returned (.bool v)) := Lib.hid (by
    have := rvshape_any p c s w hp
    rwa [hs.out, ← HV.out] at this)
  have HBZ := Lib.hid (Below.refl w.heap.size w)
  clear hp hq
  by_cases hv : v = false
  · subst hv
    have e0 : chunksR s z = (60, []) := by unfold chunksR chkV; rw [if_pos HV.out.symm, if_pos (by decide)]
    rw [e0]
    clear e0
    go_enter Tryz.func31, Tryz.ntmps31
    go_wp2_with fail
    refine (H19.out).mono ?_
    rintro e w' ⟨rfl, rfl⟩
    go_wp2_with fail
    refine bodyPost_ret (v := .tuple #[.slice none 0 0, .int .i64 60]) ?_ rfl (lst_no HBZ.out)
    simp [results, Tryz.f31, go_sem]
  obtain rfl : v = true := by simpa using hv
  have hn4 : n ≤ 4 := by
    obtain ⟨s0, rfl, hsh⟩ := vs_yes HV.out.symm
    rw [← hs.out, List.length_map]; exact hsh.1
  obtain ⟨v2, HV2⟩ : ∃ v2, Hid (v2 = sized s z) := ⟨_, Lib.hid rfl⟩
  have H73 : Hid (Calls Tryz.prog 76 #[.slice p n c, .slice q k d] w fun e w' => w = w' ∧ e = .returned (.bool v2)) := Lib.hid (by
    rw [HV2.out]; exact sized_any p q c d n k s z w hs hz hn4 HQ.out)
  by_cases hv2 : v2 = false
  · subst hv2
    have e0 : chunksR s z = (2, []) := by
      have e1 : chkV s z = 2 := by unfold chkV; rw [if_neg (by rw [← HV.out]; simp), if_pos HV2.out.symm]
      unfold chunksR; rw [e1, if_pos (by decide)]
    rw [e0]
    clear e0
    go_enter Tryz.func31, Tryz.ntmps31
    go_wp2_with fail
    refine (H19.out).mono ?_
    rintro e w' ⟨rfl, rfl⟩
    go_wp2_with fail
    refine (H73.out).mono ?_
    rintro e w' ⟨rfl, rfl⟩
    go_wp2_with fail
    refine bodyPost_ret (v := .tuple #[.slice none 0 0, .int .i64 2]) ?_ rfl (lst_no HBZ.out)
    simp [results, Tryz.f31, go_sem]
  obtain rfl : v2 = true := by simpa using hv2
  have hck : chkV s z = 0 := by unfold chkV; rw [if_neg (by rw [← HV.out]; simp), if_neg (by rw [← HV2.out]; simp)]
  have HCK := Lib.hid hck
  obtain ⟨s0, z0, rfl, rfl, hsh, hzl, hzb⟩ := chk_zero hck
  have hsn : s0.length = n := by rw [← hs.out, List.length_map]
  have hkn : k = n := by rw [← hz.out, List.length_map, hzl, hsn]
  subst hkn
  obtain ⟨n, rfl⟩ : ∃ n, n = k := ⟨_, rfl⟩
  have HSN := Lib.hid hsn
  have HZN : Hid (z0.length = n) := Lib.hid (by rw [hzl, hsn])
  have HSB : Hid (∀ x ∈ s0, x ≤ 1024) := Lib.hid hsh.2.1
  have HZB := Lib.hid hzb
  have e1 : chunksR (s0.map Int.ofNat) (z0.map Int.ofNat) = (0, chunksL s0 z0) := by
    unfold chunksR
    rw [if_neg (by rw [HCK.out]; simp), toNat_map, toNat_map]
  rw [e1]
  obtain ⟨C, HC⟩ : ∃ C, Hid (nums s0 z0 = C) := ⟨_, Lib.hid rfl⟩
  have HCS : Hid (Shp C) := Lib.hid (by rw [← HC.out]; exact nums_shp hsh hzl hzb)
  have HCN : Hid (C.length = n) := Lib.hid (by rw [← HC.out, nums_len, hsn])
  obtain ⟨N, HN⟩ : ∃ N, Hid (prod C = N) := ⟨_, Lib.hid rfl⟩
  obtain ⟨L, HL⟩ : ∃ L : Nat → List Nat, Hid (L = ixOf C) := ⟨_, Lib.hid rfl⟩
  obtain ⟨Z, HZ⟩ : ∃ Z, Hid ((List.range N).map L = Z) := ⟨_, Lib.hid rfl⟩
  have eL : chunksL s0 z0 = Z := by unfold chunksL; rw [← HZ.out, HC.out, HL.out, HN.out]
  rw [eL]
  have HZI : Hid (∀ i, i < N → Z[i]? = some (L i)) := Lib.hid (fun i hi => by rw [← HZ.out, List.getElem?_map, List.getElem?_range hi]; rfl)
  have HZLN : Hid (Z.length = N) := Lib.hid (by rw [← HZ.out, List.length_map, List.length_range])
  have hN4 : N ≤ 4096 := by rw [← HN.out]; exact HCS.out.2.2
  have iN4 : (N : Int) ≤ 4096 := by omega
  have H74 : Hid (Calls Tryz.prog 77 #[.slice p n c, .slice q n d] w (NumsPost w n C)) := Lib.hid (by rw [← HC.out]; exact rnumbers_any p q c d n s0 z0 w hn4 HSN HZN HSB HZB HP.out HQ.out)
  clear e1 eL hsn hzl hsh hzb hck hv hv2
  go_enter Tryz.func31, Tryz.ntmps31
  go_wp2_with fail
  refine (H19.out).mono ?_
  rintro e w' ⟨rfl, rfl⟩
  go_wp2_with fail
  refine (H73.out).mono ?_
  rintro e w' ⟨rfl, rfl⟩
  go_wp2_with fail
  refine (H74.out).mono ?_
  rintro e w1 ⟨hb1, gc, hgc, rfl, hrow⟩
  have HB1 := Lib.hid hb1
  obtain ⟨pc, HPC0⟩ : ∃ pc : Option Addr, Hid (pc = some ⟨gc, 0, none⟩) := ⟨_, Lib.hid rfl⟩
  rw [← HPC0.out]
  have HPC : Hid (RdN w1 pc C) := Lib.hid (by
    rw [HPC0.out]
    exact rdn_row hrow (fun x hx => by have := HCS.out.2.1 x hx; omega))
  have H44 : Hid (∀ W, Below w1.heap.size w1 W → Calls Tryz.prog 47 #[.slice pc n n] W fun e w' => W = w' ∧ e = .returned (.int .i64 (N : Int))) := Lib.hid (fun W hW => by
    have := count_any pc n C W (by rw [HCN.out]; exact hn4) HCS.out.2.1 (HPC.out.below hW)
    rwa [HCN.out, HN.out] at this)
  clear hb1 hrow hgc
  go_wp2_with fail
  go_loopw [7, 8] (fun lv iv wr => ∃ (i cv : Nat) (pv : Option Addr) (T : List (List Nat)), i ≤ N ∧ iv = .int .i64 i ∧ lv = .slice pv i cv ∧ Hid (T = Z.take i) ∧ Hid (Below w1.heap.size w1 wr) ∧ Hid (LI w1.heap.size w1.heap.size pv cv i T wr)) (fun _ iv _ => N - (Go.RowKit.intOf iv).toNat)
  case atStart => exact ⟨0, 0, none, [], Nat.zero_le _, rfl, rfl, Lib.hid rfl, Lib.hid (Below.refl _ _), Lib.hid (LI.start _ _ _)⟩
  case round =>
    obtain ⟨i, cv, pv, T, hi, rfl, rfl, HT, HB, HLI⟩ := hrel
    have ii : (i : Int) ≤ (N : Int) := by omega
    have HCNT := Lib.hid (H44.out wr HB.out)
    by_cases hlt : i < N
    · have ilt : (i : Int) < (N : Int) := by omega
      have H63 : Hid (Calls Tryz.prog 66 #[.slice pc n n, .int .i64 (i : Int)] wr fun e w' => e = .returned (.slice (some ⟨wr.heap.size, 0, none⟩) n n) ∧ w'.heap[wr.heap.size]? = some (.cells (ixC (L i)) 3 (0, 0)) ∧ Below wr.heap.size wr w') := Lib.hid (by
        rw [HL.out]
        exact rindex_any pc n n i C wr hn4 HCN (Lib.hid HCS.out.2.1) (Lib.hid (by rw [HN.out]; exact hlt)) HCS.out.2.2 (HPC.out.below HB.out))
      go_wp2_with fail
      refine (HCNT.out).mono ?_
      rintro e w' ⟨rfl, rfl⟩
      go_wp2_with fail
      refine (H63.out).mono ?_
      rintro e w3 ⟨rfl, hrow3, hb3⟩
      obtain ⟨gX, HgX⟩ : ∃ g, Hid (wr.heap.size = g) := ⟨_, Lib.hid rfl⟩
      rw [HgX.out] at hrow3 ⊢
      obtain ⟨gU, HgU⟩ : ∃ g, Hid (w3.heap.size = g) := ⟨_, Lib.hid rfl⟩
      obtain ⟨U, HUU⟩ : ∃ U, Hid (w3.alloc (.cells #[.slice (some ⟨gX, 0, none⟩) n n] 22) = U) := ⟨_, Lib.hid rfl⟩
      have hb3U : Below w3.heap.size w3 U := by rw [← HUU.out]; exact (Below.refl _ _).alloc (Nat.le_refl _) _
      have hbU : Below wr.heap.size wr U := hb3.trans (hb3U.mono hb3.size)
      have HUC : Hid (U.cell? ⟨gU, 0, none⟩ = some (.slice (some ⟨gX, 0, none⟩) n n)) := Lib.hid (by
        rw [← HUU.out, ← HgU.out]; have := World.alloc_heap_new w3 (.cells #[.slice (some ⟨gX, 0, none⟩) n n] 22); unfold World.cell?; simp only [this]; rfl)
      obtain ⟨vals, hou, hel, holt⟩ := HLI.out.pre hbU
      have HOU := Lib.hid hou
      have HEL := Lib.hid hel
      have HOLT := Lib.hid holt
      have HUB : Hid (w1.heap.size ≤ U.heap.size) := Lib.hid (Nat.le_trans HB.out.size hbU.size)
      have HBU : Hid (Below w1.heap.size w1 U) := Lib.hid (HB.out.trans (hbU.mono HB.out.size))
      have hlt3 : gX < w3.heap.size := (Array.getElem?_eq_some_iff.1 hrow3).1
      have HRX : Hid (RdN U (some ⟨gX, 0, none⟩) (L i)) := Lib.hid (rdn_row ((hb3U.block gX hlt3).trans hrow3) (fun x hx => by
        have h := ixOf_small (s := C) (i := i) (by rw [HN.out]; exact hlt) HCS.out.2.1 x (by rw [HL.out] at hx; exact hx)
        omega))
      have HLL : Hid ((L i).length = n) := Lib.hid (by rw [HL.out, ixOf_len, HCN.out])
      have HW1 : Hid (w1.heap.size ≤ gX) := Lib.hid (by rw [← HgX.out]; exact HB.out.size)
      have hi2 : i ≤ 100000 := by omega
      clear hb3U hbU hou hel holt hlt3 hrow3 hb3
      go_wp2_with (first | (rw [HUU.out, HgU.out]; at_builtin; refine wpList_append_1l rfl (.tmp 25) (.tmp 29) rfl w1.heap.size pv cv i vals rfl HOU.out gU (some ⟨gX, 0, none⟩) n n rfl HUC.out hi2 HUB.out ?_) | (at_builtin; rw [HUU.out, HgU.out]; refine wpList_append_1l rfl (.tmp 25) (.tmp 29) rfl w1.heap.size pv cv i vals rfl HOU.out gU (some ⟨gX, 0, none⟩) n n rfl HUC.out hi2 HUB.out ?_))
      intro gv cv' w9 hown9 hg9 h59
      have HB9 : Hid (Below w1.heap.size w1 w9) := Lib.hid (below_own HBU.out HOU.out hg9)
      have HL9 : Hid (LI w1.heap.size w1.heap.size (some ⟨gv, 0, none⟩) cv' (i + 1) (T ++ [L i]) w9) := Lib.hid (LI.step HLI.out.len HOU.out HEL.out HLL.out HRX.out (fun b off e _ => by
        cases e
        exact ⟨HW1.out, fun e2 => by have := HOLT.out _ e2; have := HgX.out; omega⟩) hown9 hg9 h59)
      have HT9 : Hid (T ++ [L i] = Z.take (i + 1)) := Lib.hid (by
        have hz : i < Z.length := by rw [HZLN.out]; exact hlt
        have e := HZI.out i hlt
        rw [List.getElem?_eq_getElem hz] at e
        rw [List.take_succ_eq_append_getElem hz, HT.out, Option.some.inj e])
      obtain ⟨T9, HTE⟩ : ∃ T9, Hid (T ++ [L i] = T9) := ⟨_, Lib.hid rfl⟩
      rw [HTE.out] at HL9 HT9
      clear hown9 hg9 h59
      go_wp2_with fail
      go_roundw
      case rel => exact ⟨i + 1, cv', some ⟨gv, 0, none⟩, T9, by omega, by go_num, by go_num, HT9, HB9, HL9⟩
      case measure => simp [Go.RowKit.intOf]; omega
    · obtain rfl : i = N := by omega
      have ilt : ¬ (i : Int) < (i : Int) := by omega
      have hfin : Hid (LstPost w 0 Z (.returned (.tuple #[.slice pv i cv, .int .i64 0])) wr) := Lib.hid (by
        have e : T = Z := by rw [HT.out, List.take_of_length_le (by rw [HZLN.out]; exact Nat.le_refl _)]
        rw [← e]
        exact ⟨HB1.out.trans (HB.out.mono HB1.out.size), pv, i, cv, rfl, HLI.out.len, HLI.out.reads⟩)
      go_wp2_with fail
      refine (HCNT.out).mono ?_
      rintro e w' ⟨rfl, rfl⟩
      go_wp2_with fail
      refine bodyPost_ret (v := .tuple #[.slice pv i cv, .int .i64 0]) ?_ rfl hfin.out
      simp [results, Tryz.f31, go_sem]
end Go.Proofs.YtigidchicloleaaGreatDoor.Arr
