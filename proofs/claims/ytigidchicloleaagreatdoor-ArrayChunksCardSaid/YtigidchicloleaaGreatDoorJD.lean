/- The slab of a chunk. -/
import Derived.Test.YtigidchicloleaaGreatDoorJB
import Derived.Test.YtigidchicloleaaGreatDoorHA
import Derived.Test.YtigidchicloleaaGreatDoorGV
set_option maxHeartbeats 2000000
set_option maxRecDepth 100000
namespace Go.Proofs.YtigidchicloleaaGreatDoor.Arr
open Go.RowKit Go.Shelf
open Go.Lib
attribute [local go_sem] Oper.semAt_some
def boxAt (s z ix : List Nat) (k : Nat) : Int × Int × Int := (((ix.getD k 0 * z.getD k 0 : Nat) : Int), ((min (z.getD k 0) (s.getD k 0 - ix.getD k 0 * z.getD k 0) : Nat) : Int), 1)
def boxL (s z ix : List Nat) : List (Int × Int × Int) := (List.range s.length).map (boxAt s z ix)
theorem boxL_len (s z ix : List Nat) : (boxL s z ix).length = s.length := by simp [boxL]
theorem boxL_at {s z ix : List Nat} {k : Nat} (hk : k < s.length) : (boxL s z ix).getD k (0, 0, 0) = boxAt s z ix k := by
  unfold boxL
  rw [List.getD_eq_getElem?_getD, List.getElem?_map, List.getElem?_range hk]; rfl
theorem cdiv_lt {a b i : Nat} (h : 1 ≤ b) (hi : i < (a + b - 1) / b) : i * b < a := by
  have h1 : (i + 1) * b ≤ (a + b - 1) / b * b := Nat.mul_le_mul_right b hi
  have h2 := Nat.div_mul_le_self (a + b - 1) b
  rw [Nat.add_mul, Nat.one_mul] at h1
  omega
theorem chunk_lt {s z ix : List Nat} (hz : z.length = s.length) (hzb : ∀ x ∈ z, 1 ≤ x ∧ x ≤ 1024) (h : IsIx (nums s z) ix) {k : Nat} (hk : k < s.length) : ix.getD k 0 * z.getD k 0 < s.getD k 0 := by
  have h1 := h.2 k (by rw [nums_len]; exact hk)
  rw [nums_at hk] at h1
  refine cdiv_lt ?_ h1
  rw [List.getD_eq_getElem?_getD, List.getElem?_eq_getElem (by rw [hz]; exact hk)]
  exact (hzb _ (List.getElem_mem _)).1
def boxR (s z ix : List Int) : Int × List (Int × Int × Int) :=
  if chkV s z ≠ 0 then (chkV s z, []) else if ixOk (nums (s.map Int.toNat) (z.map Int.toNat)) ix = false then (61, []) else (0, boxL (s.map Int.toNat) (z.map Int.toNat) (ix.map Int.toNat))
theorem chk_zero {s z : List Int} (h : chkV s z = 0) : ∃ s0 z0 : List Nat, s = s0.map Int.ofNat ∧ z = z0.map Int.ofNat ∧ Shp s0 ∧ z0.length = s0.length ∧ ∀ x ∈ z0, 1 ≤ x ∧ x ≤ 1024 := by
  unfold chkV at h
  by_cases hv : vs s = false
  · rw [if_pos hv] at h; cases h
  rw [if_neg hv] at h
  by_cases hz : sized s z = false
  · rw [if_pos hz] at h; cases h
  have hz2 : sized s z = true := by simpa using hz
  obtain ⟨s0, rfl, hsh⟩ := vs_yes (by simpa using hv : vs s = true)
  unfold sized at hz2
  rw [Bool.and_eq_true, decide_eq_true_eq, List.length_map] at hz2
  obtain ⟨z0, rfl, hzb⟩ := szOk_nat hz2.2
  exact ⟨s0, z0, rfl, rfl, hsh, by have := hz2.1; rwa [List.length_map] at this, hzb⟩
def CutsPost (w : World) (zc : Int) (L : List (Int × Int × Int)) (e : Ending) (w' : World) : Prop :=
  Below w.heap.size w w' ∧ ∃ (q : Option Addr) (n c : Nat), e = .returned (.tuple #[.slice q n c, .int .i64 zc]) ∧ L.length = n ∧ RdC w' q L
theorem cuts_no {w w' : World} {z : Int} (h : Below w.heap.size w w') : CutsPost w z [] (.returned (.tuple #[.slice none 0 0, .int .i64 z])) w' := ⟨h, none, 0, 0, rfl, rfl, ⟨fun z hz => (by cases hz), .inl rfl⟩⟩
def CutRow (W : World) (G n i : Nat) (L : List (Int × Int × Int)) : Prop := ∃ cs : Array Value, W.heap[G]? = some (.cells cs 66 (0, 0)) ∧ cs.size = n * 3 ∧ ∀ j, j < i → cs[j * 3]? = some (.int .i64 (L.getD j (0, 0, 0)).1) ∧ cs[j * 3 + 1]? = some (.int .i64 (L.getD j (0, 0, 0)).2.1) ∧ cs[j * 3 + 2]? = some (.int .i64 (L.getD j (0, 0, 0)).2.2)
theorem CutRow.step {W : World} {G n i : Nat} {L : List (Int × Int × Int)} {x y z : Int} (h : CutRow W G n i L) (hi : i < n) (e : L.getD i (0, 0, 0) = (x, y, z)) : CutRow (((W.setCell ⟨G, i * 3, none⟩ (.int .i64 x)).setCell ⟨G, i * 3 + 1, none⟩ (.int .i64 y)).setCell ⟨G, i * 3 + 2, none⟩ (.int .i64 z)) G n (i + 1) L := by
  obtain ⟨cs, h1, h2, h3⟩ := h
  have e1 := heap_set W G (i * 3) (.int .i64 x) _ _ h1
  have e2 := heap_set _ G (i * 3 + 1) (.int .i64 y) _ _ e1
  have e3 := heap_set _ G (i * 3 + 2) (.int .i64 z) _ _ e2
  refine ⟨_, e3, by simp [h2], fun j hj => ?_⟩
  simp only [Array.getElem?_setIfInBounds, Array.size_setIfInBounds, h2]
  by_cases ej : j = i
  · subst ej
    rw [e]
    refine ⟨?_, ?_, ?_⟩
    · rw [if_neg (by omega), if_neg (by omega), if_pos rfl, if_pos (by omega)]
    · rw [if_neg (by omega), if_pos rfl, if_pos (by omega)]
    · rw [if_pos rfl, if_pos (by omega)]
  · obtain ⟨a1, a2, a3⟩ := h3 j (by omega)
    refine ⟨?_, ?_, ?_⟩
    · rw [if_neg (by omega), if_neg (by omega), if_neg (by omega)]; exact a1
    · rw [if_neg (by omega), if_neg (by omega), if_neg (by omega)]; exact a2
    · rw [if_neg (by omega), if_neg (by omega), if_neg (by omega)]; exact a3
theorem CutRow.old {W : World} {G n i : Nat} {L : List (Int × Int × Int)} (h : CutRow W G n i L) (hi : i < n) : ∃ u0 u1 u2, W.cell? ⟨G, i * 3, none⟩ = some u0 ∧ W.cell? ⟨G, i * 3 + 1, none⟩ = some u1 ∧ W.cell? ⟨G, i * 3 + 2, none⟩ = some u2 ∧ W.frozen? ⟨G, i * 3, none⟩ = false ∧ W.frozen? ⟨G, i * 3 + 1, none⟩ = false ∧ W.frozen? ⟨G, i * 3 + 2, none⟩ = false := by
  obtain ⟨cs, h1, h2, -⟩ := h
  have g : ∀ k, k < n * 3 → W.cell? ⟨G, k, none⟩ = some (cs.getD k (.int .i64 0)) := fun k hk => by
    have : k < cs.size := by omega
    simp [World.cell?, h1, Array.getD, this]
  have f : ∀ k, W.frozen? ⟨G, k, none⟩ = false := fun k => by simp [World.frozen?, h1]
  exact ⟨_, _, _, g _ (by omega), g _ (by omega), g _ (by omega), f _, f _, f _⟩
theorem CutRow.reads {W : World} {G n : Nat} {L : List (Int × Int × Int)} (h : CutRow W G n n L) (hl : L.length = n) (hwf : ∀ z ∈ L, -9223372036854775808 ≤ z.2.1 ∧ z.2.1 ≤ 9223372036854775807) : RdC W (some ⟨G, 0, none⟩) L := by
  obtain ⟨cs, h1, h2, h3⟩ := h
  refine ⟨hwf, .inr ⟨G, 0, rfl, (Array.getElem?_eq_some_iff.1 h1).1, fun j hj => ?_⟩⟩
  obtain ⟨a1, a2, a3⟩ := h3 j (by omega)
  rw [Nat.zero_add]
  exact ⟨by simp [World.cell?, h1, a1], by simp [World.cell?, h1, a2], by simp [World.cell?, h1, a3]⟩
theorem boxL_wf {s z ix : List Nat} (hz : ∀ x ∈ z, 1 ≤ x ∧ x ≤ 1024) : ∀ c ∈ boxL s z ix, -9223372036854775808 ≤ c.2.1 ∧ c.2.1 ≤ 9223372036854775807 := fun c hc => by
  obtain ⟨k, -, rfl⟩ := List.mem_map.1 hc
  have h1 : z.getD k 0 ≤ 1024 := getD_bound (fun x hx => (hz x hx).2)
  show -9223372036854775808 ≤ ((min (z.getD k 0) (s.getD k 0 - ix.getD k 0 * z.getD k 0) : Nat) : Int) ∧ ((min (z.getD k 0) (s.getD k 0 - ix.getD k 0 * z.getD k 0) : Nat) : Int) ≤ 9223372036854775807
  omega
theorem info64 : (Tryz.prog.info? 66).map (fun i => (i.zero, i.size, i.bytes)) = some (some (.agg #[.int .i64 0, .int .i64 0, .int .i64 0]), 3, 24) := by kernel_rfl
theorem make_cuts (n : Nat) (hn : n ≤ 1000) : ∃ Z : Array Value, Z.size = n * 3 ∧ ∀ W, (Instr.makeSlice 36 (.int .i64 (n : Int)) (.int .i64 (n : Int))).run Tryz.prog W = .ok (.slice (some ⟨W.heap.size, 0, none⟩) n n) (W.alloc (.cells Z 66)) := by
  obtain ⟨i0, hi, hz0, hz1, hz2⟩ := info_parts info64
  refine ⟨madeCells (Value.cells (.agg #[.int .i64 0, .int .i64 0, .int .i64 0])) (n * 3), size_madeCells _ _, fun W => ?_⟩
  have h := run_make (P := Tryz.prog) W 36 66 i0 (.agg #[.int .i64 0, .int .i64 0, .int .i64 0]) Tryz.underlying36 hi hz0 .i64 .i64 (n : Int) (n : Int) (by omega) (by omega) (by rw [hz2]; omega) (by omega)
  rw [hz1, Int.toNat_natCast] at h
  exact h
theorem box_all (p q r : Option Addr) (c d f n k m : Nat) (s z ix : List Int) (w : World) (hs : Hid (s.length = n)) (hz : Hid (z.length = k)) (hi : Hid (ix.length = m)) (hp : Rd w p s) (hq : Rd w q z) (hr : Rd w r ix) :
    Calls Tryz.prog 32 #[.slice p n c, .slice q k d, .slice r m f] w (CutsPost w (boxR s z ix).1 (boxR s z ix).2) := by
  have HP := Lib.hid hp
  have HQ := Lib.hid hq
  have HR := Lib.hid hr
  obtain ⟨v, HV⟩ : ∃ v, Hid (v = chkV s z) := ⟨_, Lib.hid rfl⟩
  have H70 : Hid (Calls Tryz.prog 73 #[.slice p n c, .slice q k d] w fun e w' => w = w' ∧ e = .returned (.int .i64 v)) := Lib.hid (by rw [HV.out]; exact check_any p q c d n k s z w hs hz hp hq)
  have HBR := Lib.hid (Below.refl w.heap.size w)
  clear hp hq hr
  by_cases hv : v = 0
  case neg =>
    have e0 : boxR s z ix = (v, []) := by unfold boxR; rw [if_pos (by rw [← HV.out]; exact hv), HV.out]
    rw [e0]
    have hv2 : (v != 0) = true := by rw [bne_iff_ne]; exact hv
    clear e0
    go_enter Tryz.func32, Tryz.ntmps32
    go_wp2_with fail
    refine (H70.out).mono ?_
    rintro e w' ⟨rfl, rfl⟩
    go_wp2_with fail
    refine bodyPost_ret (v := .tuple #[.slice none 0 0, .int .i64 v]) ?_ rfl (cuts_no HBR.out)
    simp [results, Tryz.f32, go_sem]
  subst hv
  obtain ⟨s0, z0, rfl, rfl, hsh, hzl, hzb⟩ := chk_zero HV.out.symm
  have hsn : s0.length = n := by rw [← hs.out, List.length_map]
  have hkn : k = n := by rw [← hz.out, List.length_map, hzl, hsn]
  subst hkn
  have hn4 : k ≤ 4 := by rw [← hsn]; exact hsh.1
  have HSN := Lib.hid hsn
  have HZN : Hid (z0.length = k) := Lib.hid (by rw [hzl, hsn])
  have HSB : Hid (∀ x ∈ s0, x ≤ 1024) := Lib.hid hsh.2.1
  have HZB := Lib.hid hzb
  have HZL := Lib.hid hzl
  obtain ⟨u, HU⟩ : ∃ u, Hid (u = ixOk (nums s0 z0) ix) := ⟨_, Lib.hid rfl⟩
  have H71 : Hid (Calls Tryz.prog 74 #[.slice p k c, .slice q k d] w (NumsPost w k (nums s0 z0))) := Lib.hid (counts_all p q c d k s0 z0 w hn4 HSN HZN HSB HZB HP.out HQ.out)
  have HNB : Hid (∀ x ∈ nums s0 z0, (x : Int) ≤ 9223372036854775807) := Lib.hid (fun x hx => by
    obtain ⟨j, hj, rfl⟩ := List.mem_map.1 hx
    have hj2 := List.mem_range.1 hj
    have h1 : 1 ≤ z0.getD j 0 := by
      rw [List.getD_eq_getElem?_getD, List.getElem?_eq_getElem (by rw [HZL.out]; exact hj2)]
      exact (HZB.out _ (List.getElem_mem _)).1
    have h2 := cdiv_le (a := s0.getD j 0) h1
    have h3 : s0.getD j 0 ≤ 1024 := getD_bound HSB.out
    omega)
  have e1 : boxR (s0.map Int.ofNat) (z0.map Int.ofNat) ix = if u = false then (61, []) else (0, boxL s0 z0 (ix.map Int.toNat)) := by
    unfold boxR
    rw [if_neg (by rw [← HV.out]; simp), toNat_map, toNat_map, ← HU.out]
  rw [e1]
  clear e1 hsn hzl hsh hzb
  by_cases hu : u = false
  · subst hu
    rw [if_pos rfl]
    go_enter Tryz.func32, Tryz.ntmps32
    go_wp2_with fail
    refine (H70.out).mono ?_
    rintro e w' ⟨rfl, rfl⟩
    go_wp2_with fail
    refine (H71.out).mono ?_
    rintro e w1 ⟨hb1, g, hg, rfl, hrow⟩
    have HB1 := Lib.hid hb1
    have H50 : Hid (Calls Tryz.prog 53 #[.slice (some ⟨g, 0, none⟩) k k, .slice r m f] w1 fun e w' => w1 = w' ∧ e = .returned (.bool false)) := Lib.hid (by
      have := isix_any (some ⟨g, 0, none⟩) r k f k m (nums s0 z0) ix w1 (Lib.hid (by rw [nums_len, HSN.out])) hi hn4 (rdn_row hrow HNB.out) (HR.out.below hb1)
      rwa [← HU.out] at this)
    clear hb1 hrow
    go_wp2_with fail
    refine (H50.out).mono ?_
    rintro e w' ⟨rfl, rfl⟩
    go_wp2_with fail
    refine bodyPost_ret (v := .tuple #[.slice none 0 0, .int .i64 61]) ?_ rfl (cuts_no HB1.out)
    simp [results, Tryz.f32, go_sem]
  obtain rfl : u = true := by simpa using hu
  rw [if_neg (by simp)]
  obtain ⟨i0, rfl, hix⟩ := ixOk_nat HU.out.symm
  rw [toNat_map]
  have hm : m = k := by rw [← hi.out, List.length_map, hix.1, nums_len, HSN.out]
  subst hm
  have HIX := Lib.hid hix
  have HIL : Hid (i0.length = m) := Lib.hid (by rw [hix.1, nums_len, HSN.out])
  have hni : (m : Int) ≤ 4 := by omega
  obtain ⟨Z, hZ, hmk⟩ := make_cuts m (by omega)
  have HZS := Lib.hid hZ
  clear hZ
  clear hix hu
  go_enter Tryz.func32, Tryz.ntmps32
  go_wp2_with fail
  refine (H70.out).mono ?_
  rintro e w' ⟨rfl, rfl⟩
  go_wp2_with fail
  refine (H71.out).mono ?_
  rintro e w1 ⟨hb1, g, hg, rfl, hrow⟩
  have HB1 := Lib.hid hb1
  have H50 : Hid (Calls Tryz.prog 53 #[.slice (some ⟨g, 0, none⟩) m m, .slice r m f] w1 fun e w' => w1 = w' ∧ e = .returned (.bool true)) := Lib.hid (by
    have := isix_any (some ⟨g, 0, none⟩) r m f m m (nums s0 z0) (i0.map Int.ofNat) w1 (Lib.hid (by rw [nums_len, HSN.out])) (Lib.hid (by rw [List.length_map, HIL.out])) hn4 (rdn_row hrow HNB.out) (HR.out.below hb1)
    rwa [← HU.out] at this)
  clear hb1 hrow
  go_wp2_with fail
  refine (H50.out).mono ?_
  rintro e w' ⟨rfl, rfl⟩
  obtain ⟨G, HG⟩ : ∃ G, Hid (G = w1.heap.size) := ⟨_, Lib.hid rfl⟩
  obtain ⟨W2, HW2⟩ : ∃ W2, Hid (w1.alloc (.cells Z 66) = W2) := ⟨_, Lib.hid rfl⟩
  have HB2 : Hid (Below w.heap.size w W2) := Lib.hid (HB1.out.trans ((show Below w1.heap.size w1 W2 by rw [← HW2.out]; exact (Below.refl _ w1).alloc (Nat.le_refl _) _).mono HB1.out.size))
  have HC2 : Hid (CutRow W2 G m 0 (boxL s0 z0 i0)) := Lib.hid ⟨_, by rw [← HW2.out, HG.out]; exact World.alloc_heap_new _ _, HZS.out, fun j hj => by omega⟩
  have HGW : Hid (w.heap.size ≤ G) := Lib.hid (by rw [HG.out]; exact HB1.out.size)
  go_wp2_with fail
  rw [HW2.out, ← HG.out]
  clear hmk
  go_loopw [30] (fun iv wr => ∃ i : Nat, i ≤ m ∧ iv = .int .i64 i ∧ Hid (Below w.heap.size w wr) ∧ Hid (CutRow wr G m i (boxL s0 z0 i0))) (fun iv _ => m - (Go.RowKit.intOf iv).toNat)
  case atStart => exact ⟨0, Nat.zero_le _, rfl, HB2, HC2⟩
  case round =>
    obtain ⟨i, hi9, rfl, HB, HC⟩ := hrel
    have ii : (i : Int) ≤ (m : Int) := by omega
    by_cases hlt : i < m
    · have ilt : (i : Int) < (m : Int) := by omega
      have his : i < s0.length := by rw [HSN.out]; exact hlt
      have hiz : i < z0.length := by rw [HZN.out]; exact hlt
      have hii : i < i0.length := by rw [HIL.out]; exact hlt
      obtain ⟨b1, o1, x, e1, hb1, hc1, HX⟩ := RdN.at (w := w) (l := s0) HP.out his
      obtain ⟨b2, o2, y, e2, hb2, hc2, HY⟩ := RdN.at (w := w) (l := z0) HQ.out hiz
      obtain ⟨b3, o3, a, e3, hb3, hc3, HA⟩ := RdN.at (w := w) (l := i0) HR.out hii
      subst e1 e2 e3
      have hx1 : x ≤ 1024 := by rw [HX.out]; exact getD_bound HSB.out
      have hy1 : y ≤ 1024 := by rw [HY.out]; exact getD_bound (fun x hx => (HZB.out x hx).2)
      have hlt2 : a * y < x := by rw [HA.out, HY.out, HX.out]; exact chunk_lt HZL.out HZB.out HIX.out his
      obtain ⟨t, HT⟩ : ∃ t, Hid (t = a * y) := ⟨_, rfl⟩
      have hmul : (a : Int) * (y : Int) = (t : Int) := by rw [HT.out]; exact (Int.natCast_mul a y).symm
      rw [← HT.out] at hlt2
      obtain ⟨j, HJ⟩ : ∃ j, Hid (j = x - t) := ⟨_, rfl⟩
      have hsub : (x : Int) - (t : Int) = (j : Int) := by rw [HJ.out]; omega
      obtain ⟨o, HO⟩ : ∃ o, Hid (o = min y j) := ⟨_, rfl⟩
      have hmin1 : min (y : Int) (j : Int) = (o : Int) := by rw [HO.out]; omega
      have hmin2 : min (j : Int) (y : Int) = (o : Int) := by rw [HO.out]; omega
      have it : (t : Int) ≤ 1024 := by omega
      have ij : (j : Int) ≤ 1024 := by rw [HJ.out]; omega
      have io : (o : Int) ≤ 1024 := by rw [HO.out]; omega
      have ix : (x : Int) ≤ 1024 := by omega
      have iy : (y : Int) ≤ 1024 := by omega
      have HEQ : Hid ((boxL s0 z0 i0).getD i (0, 0, 0) = ((t : Int), (o : Int), 1)) := Lib.hid (by
        rw [boxL_at his]; unfold boxAt
        rw [← HX.out, ← HY.out, ← HA.out, ← HT.out, ← HJ.out, ← HO.out])
      have d1 : wr.cell? ⟨b1, o1 + i, none⟩ = some (.int .i64 (x : Int)) := (HB.out.cell (p := ⟨b1, o1 + i, none⟩) hb1).trans hc1
      have d2 : wr.cell? ⟨b2, o2 + i, none⟩ = some (.int .i64 (y : Int)) := (HB.out.cell (p := ⟨b2, o2 + i, none⟩) hb2).trans hc2
      have d3 : wr.cell? ⟨b3, o3 + i, none⟩ = some (.int .i64 (a : Int)) := (HB.out.cell (p := ⟨b3, o3 + i, none⟩) hb3).trans hc3
      obtain ⟨u0, u1, u2, r0, r1, r2, f0, f1, f2⟩ := HC.out.old hlt
      obtain ⟨W5, HW5⟩ : ∃ W5, Hid (((wr.setCell ⟨G, i * 3, none⟩ (.int .i64 (t : Int))).setCell ⟨G, i * 3 + 1, none⟩ (.int .i64 (o : Int))).setCell ⟨G, i * 3 + 2, none⟩ (.int .i64 1) = W5) := ⟨_, Lib.hid rfl⟩
      have HC5 : Hid (CutRow W5 G m (i + 1) (boxL s0 z0 i0)) := Lib.hid (by rw [← HW5.out]; exact HC.out.step hlt HEQ.out)
      have HB5 : Hid (Below w.heap.size w W5) := Lib.hid (by
        rw [← HW5.out]
        exact ((HB.out.setCell (p := ⟨G, i * 3, none⟩) HGW.out _).setCell (p := ⟨G, i * 3 + 1, none⟩) HGW.out _).setCell (p := ⟨G, i * 3 + 2, none⟩) HGW.out _)
      clear hb1 hb2 hb3 hc1 hc2 hc3 hx1 hy1 hlt2
      go_wp2_with fail
      rw [HW5.out]
      go_roundw
      case rel => exact ⟨i + 1, by omega, by go_num, HB5, HC5⟩
      case measure => simp [Go.RowKit.intOf]; omega
    · obtain rfl : i = m := by omega
      have ilt : ¬ (i : Int) < (i : Int) := by omega
      have hfin : Hid (CutsPost w 0 (boxL s0 z0 i0) (.returned (.tuple #[.slice (some ⟨G, 0, none⟩) i i, .int .i64 0])) wr) := Lib.hid ⟨HB.out, some ⟨G, 0, none⟩, i, i, rfl, by rw [boxL_len, HSN.out], HC.out.reads (by rw [boxL_len, HSN.out]) (boxL_wf HZB.out)⟩
      go_wp2_with fail
      refine bodyPost_ret (v := .tuple #[.slice (some ⟨G, 0, none⟩) i i, .int .i64 0]) ?_ rfl hfin.out
      simp [results, Tryz.f32, go_sem]
end Go.Proofs.YtigidchicloleaaGreatDoor.Arr
