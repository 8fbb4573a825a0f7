/- The chunks of a shape. -/
import Derived.Test.YtigidchicloleaaGreatDoorGV
import Derived.Test.YtigidchicloleaaGreatDoorJD
set_option maxHeartbeats 2000000
set_option maxRecDepth 100000
namespace Go.Proofs.YtigidchicloleaaGreatDoor.Arr
open Go.RowKit Go.Shelf
open Go.Lib
attribute [local go_sem] Oper.semAt_some
def chunksL (s z : List Nat) : List (List Nat) := (List.range (prod (nums s z))).map (ixOf (nums s z))
def chunksR (s z : List Int) : Int × List (List Nat) := if chkV s z ≠ 0 then (chkV s z, []) else (0, chunksL (s.map Int.toNat) (z.map Int.toNat))
theorem prod_le2 : ∀ {a b : List Nat}, a.length = b.length → (∀ k, k < a.length → a.getD k 0 ≤ b.getD k 0) → prod a ≤ prod b
  | [], [], _, _ => Nat.le_refl _
  | x :: a, y :: b, hl, h => by
    rw [prod_cons, prod_cons]
    exact Nat.mul_le_mul (h 0 (by simp)) (prod_le2 (by simpa using hl) (fun k hk => h (k + 1) (by simpa using hk)))
theorem nums_le {s z : List Nat} (hz : z.length = s.length) (hzb : ∀ x ∈ z, 1 ≤ x ∧ x ≤ 1024) {k : Nat} (hk : k < s.length) : (nums s z).getD k 0 ≤ s.getD k 0 := by
  rw [nums_at hk]
  refine cdiv_le ?_
  rw [List.getD_eq_getElem?_getD, List.getElem?_eq_getElem (by rw [hz]; exact hk)]
  exact (hzb _ (List.getElem_mem _)).1
theorem nums_shp {s z : List Nat} (hs : Shp s) (hz : z.length = s.length) (hzb : ∀ x ∈ z, 1 ≤ x ∧ x ≤ 1024) : Shp (nums s z) := by
  refine ⟨by rw [nums_len]; exact hs.1, fun x hx => ?_, Nat.le_trans (prod_le2 (nums_len s z) (fun k hk => nums_le hz hzb (by rw [← nums_len s z]; exact hk))) hs.2.2⟩
  obtain ⟨k, hk, e⟩ := mem_getD hx
  rw [nums_len] at hk
  rw [← e]
  exact Nat.le_trans (nums_le hz hzb hk) (getD_bound hs.2.1)
structure ChI (W3 : World) (G : Nat) (L : Nat → List Nat) (pre : List (Nat × Nat)) (W : World) : Prop where
  old : W3.grownBy W (some G)
  row : ∃ pv cv n, W.heap[G]? = some (.cells #[.slice pv n cv] 46 (0, 0)) ∧ LI (W3.heap.size + 3) (W3.heap.size + 3) pv cv n (pre.map (fun y => L y.1)) W
theorem ChI.above {W3 A B : World} {G : Nat} {L : Nat → List Nat} {pre : List (Nat × Nat)} (h : ChI W3 G L pre A) (hG : G < W3.heap.size) {row : Option Nat} (hg : A.grownBy B row) (hr : ∀ r, row = some r → W3.heap.size ≤ r ∧ r ≤ W3.heap.size + 2) : ChI W3 G L pre B := by
  obtain ⟨pv, cv, n, h1, h2⟩ := h.row
  have h3 : B.heap[G]? = some (.cells #[.slice pv n cv] 46 (0, 0)) := (hg.block G (Array.getElem?_eq_some_iff.1 h1).1 (by intro e; have := hr G e.symm; omega)).trans h1
  cases row with
  | none => exact ⟨h.old.trans (⟨hg.os, hg.tape, hg.output, hg.size, fun k hk _ => hg.block k hk (by intro e; cases e)⟩ : A.grownBy B (some G)), pv, cv, n, h3, h2.keep hg⟩
  | some r =>
    have hr2 := hr r rfl
    exact ⟨gb_trans_new h.old hg hr2.1, pv, cv, n, h3, h2.other hg (fun o _ _ => by omega)⟩
theorem chunks_any (p q : Option Addr) (c d n k : Nat) (s z : List Int) (w : World) (hs : Hid (s.length = n)) (hz : Hid (z.length = k)) (hp : Rd w p s) (hq : Rd w q z) :
    Calls Tryz.prog 30 #[.slice p n c, .slice q k d] w (LstPost w (chunksR s z).1 (chunksR s z).2) := by
  have HP := Lib.hid hp
  have HQ := Lib.hid hq
  obtain ⟨v, HV⟩ : ∃ v, Hid (v = chkV s z) := ⟨_, Lib.hid rfl⟩
  have H70 : Hid (Calls Tryz.prog 73 #[.slice p n c, .slice q k d] w fun e w' => w = w' ∧ e = .returned (.int .i64 v)) := Lib.hid (by rw [HV.out]; exact check_any p q c d n k s z w hs hz hp hq)
  have HBR := Lib.hid (Below.refl w.heap.size w)
  clear hp hq
  by_cases hv : v = 0
  case neg =>
    have e0 : chunksR s z = (v, []) := by unfold chunksR; rw [if_pos (by rw [← HV.out]; exact hv), HV.out]
    rw [e0]
    have hv2 : (v != 0) = true := by rw [bne_iff_ne]; exact hv
    clear e0
    refine (callsIn_wide (n := 9)).1 ?_
    refine callsIn_of_wp_marks Tryz.func30 rfl trivial ?_ rfl
    simp only [Tryz.ntmps30, List.size_toArray, List.length_cons, List.length_nil, Nat.reduceAdd, Nat.reduceSub, Array.replicate_succ, Array.replicate_zero, List.push_toArray, List.append_toArray, List.nil_append, List.cons_append]
    refine wpIn_wide.2 ?_
    go_wp2_with fail
    refine (H70.out).mono ?_
    rintro e w' ⟨rfl, rfl⟩
    go_wp2_with fail
    refine ⟨.tuple #[.slice none 0 0, .int .i64 v], ?_, lst_no HBR.out⟩
    simp [results, Tryz.f30, go_sem]
  subst hv
  obtain ⟨s0, z0, rfl, rfl, hsh, hzl, hzb⟩ := chk_zero HV.out.symm
  have hsn : s0.length = n := by rw [← hs.out, List.length_map]
  have hkn : k = n := by rw [← hz.out, List.length_map, hzl, hsn]
  subst hkn
  have hn4 : k ≤ 4 := by rw [← hsn]; exact hsh.1
  have HSN := Lib.hid hsn
  have HZN : Hid (z0.length = k) := Lib.hid (by rw [hzl, hsn])
  have HSB : Hid (∀ x ∈ s0, x ≤ 1024) := Lib.hid hsh.2.1
  have HZB := Lib.hid hzb
  have e1 : chunksR (s0.map Int.ofNat) (z0.map Int.ofNat) = (0, chunksL s0 z0) := by
    unfold chunksR
    rw [if_neg (by rw [← HV.out]; simp), toNat_map, toNat_map]
  rw [e1]
  obtain ⟨C, HC⟩ : ∃ C, Hid (nums s0 z0 = C) := ⟨_, Lib.hid rfl⟩
  have HCS : Hid (Shp C) := Lib.hid (by rw [← HC.out]; exact nums_shp hsh hzl hzb)
  have HCN : Hid (C.length = k) := Lib.hid (by rw [← HC.out, nums_len, hsn])
  obtain ⟨L, HL⟩ : ∃ L : Nat → List Nat, Hid (L = ixOf C) := ⟨_, Lib.hid rfl⟩
  have eL : chunksL s0 z0 = (List.range (prod C)).map L := by unfold chunksL; rw [HC.out, HL.out]
  rw [eL]
  have HP4 : Hid (prod C ≤ 4096) := Lib.hid HCS.out.2.2
  clear e1 eL hsn hzl hsh hzb
  obtain ⟨m, rfl⟩ : ∃ m, m = k := ⟨_, rfl⟩
  obtain ⟨G, HG⟩ : ∃ G, Hid (G = w.heap.size) := ⟨_, Lib.hid rfl⟩
  obtain ⟨W1, HW1⟩ : ∃ W1, Hid (w.alloc (.cells #[.slice none 0 0] 46) = W1) := ⟨_, Lib.hid rfl⟩
  have HB1 : Hid (Below w.heap.size w W1) := Lib.hid (by rw [← HW1.out]; exact (Below.refl _ w).alloc (Nat.le_refl _) _)
  have HG1 : Hid (W1.heap[G]? = some (.cells #[.slice none 0 0] 46 (0, 0))) := Lib.hid (by rw [← HW1.out, HG.out]; exact World.alloc_heap_new _ _)
  have H71 : Hid (Calls Tryz.prog 74 #[.slice p m c, .slice q m d] W1 (NumsPost W1 m C)) := Lib.hid (by
    rw [← HC.out]; exact counts_all p q c d m s0 z0 W1 hn4 HSN HZN HSB HZB (RdN.below HP.out HB1.out) (RdN.below HQ.out HB1.out))
  refine (callsIn_wide (n := 9)).1 ?_
  refine callsIn_of_wp_marks Tryz.func30 rfl trivial ?_ rfl
  simp only [Tryz.ntmps30, List.size_toArray, List.length_cons, List.length_nil, Nat.reduceAdd, Nat.reduceSub, Array.replicate_succ, Array.replicate_zero, List.push_toArray, List.append_toArray, List.nil_append, List.cons_append]
  refine wpIn_wide.2 ?_
  go_wp2_with fail
  refine (H70.out).mono ?_
  rintro e w' ⟨rfl, rfl⟩
  go_wp2_with fail
  rw [HW1.out, ← HG.out]
  refine (H71.out).mono ?_
  rintro e W2 ⟨hb2, gc, hgc, rfl, hrow2⟩
  have HB2 := Lib.hid hb2
  have HR2 := Lib.hid hrow2
  have HGC := Lib.hid hgc
  clear hb2 hrow2 hgc
  go_wp2_with fail
  refine ((callsIn_wide (n := 9)).1 (indexes_in 9 _ _ _ _)).mono ?_
  rintro e W3 ⟨rfl, e3⟩
  obtain ⟨Bb, HBb⟩ : ∃ Bb, Hid (Bb = W2.heap.size) := ⟨_, Lib.hid rfl⟩
  rw [← HBb.out]
  have HB23 : Hid (Below W2.heap.size W2 W3) := Lib.hid (by rw [e3]; exact (Below.refl _ _).alloc (Nat.le_refl _) _)
  have HK4 : Hid (W3.heap[Bb]? = some (.cells #[.slice (some ⟨gc, 0, none⟩) m m] 22 (0, 0))) := Lib.hid (by rw [e3, HBb.out]; exact World.alloc_heap_new _ _)
  have HS3 : Hid (W3.heap.size = Bb + 1) := Lib.hid (by rw [e3, HBb.out]; simp)
  clear e3
  have HB13 : Hid (Below W1.heap.size W1 W3) := Lib.hid (HB2.out.trans (HB23.out.mono HB2.out.size))
  have HBW3 : Hid (Below w.heap.size w W3) := Lib.hid (HB1.out.trans (HB13.out.mono HB1.out.size))
  have HG3 : Hid (W3.heap[G]? = some (.cells #[.slice none 0 0] 46 (0, 0))) := Lib.hid ((HB13.out.block G (Array.getElem?_eq_some_iff.1 HG1.out).1).trans HG1.out)
  have HGL : Hid (G < W3.heap.size) := Lib.hid (Array.getElem?_eq_some_iff.1 HG3.out).1
  have hg1 := (Array.getElem?_eq_some_iff.1 HG1.out).1
  have hr2 := (Array.getElem?_eq_some_iff.1 HR2.out).1
  have HBG : Hid (Bb ≠ G) := Lib.hid (by have := HB2.out.size; rw [HBb.out]; omega)
  have HBBL : Hid (Bb < W3.heap.size) := Lib.hid (by rw [HS3.out]; omega)
  obtain ⟨p0, HP0⟩ : ∃ p0 : Option Addr, Hid (p0 = some ⟨gc, 0, none⟩) := ⟨_, Lib.hid rfl⟩
  have HPC : Hid (RdN W3 p0 C) := Lib.hid (by
    rw [HP0.out]
    exact rdn_row ((HB23.out.block gc hr2).trans HR2.out) (fun x hx => by have := HCS.out.2.1 x hx; omega))
  have HPB : Hid (∀ b off, p0 = some ⟨b, off, none⟩ → 0 < C.length → b < W3.heap.size ∧ b ≠ G ∧ b < Bb) := Lib.hid (fun b off e _ => by
    rw [HP0.out] at e; cases e
    have := HGC.out; have := HB23.out.size; have := HBb.out
    omega)
  have HCI0 : Hid (ChI W3 G L [] W3) := Lib.hid ⟨⟨rfl, rfl, rfl, Nat.le_refl _, fun _ _ _ => rfl⟩, none, 0, 0, HG3.out, LI.start _ _ _⟩
  rw [← HP0.out]
  rw [← HP0.out] at HK4
  clear hg1 hr2
  go_wp2_with fail
  refine (wpIn_wide (n := 9)).1 ?_
  refine wpIn_rangeFunc_cells rfl (by omega) (gf := 92) (lb := #[.pointer (some ⟨Bb, 0, none⟩)]) rfl trivial (enters_of Tryz.func92 (by kernel_rfl) rfl)
    (indexes_seq _ (by omega) Bb (W3.heap.size + 2) m m p0 C hn4 HCN (Lib.hid HCS.out.2.1) HP4.out W3 (Nat.le_refl _) HK4.out HPC.out)
    (fun x A l o o' ho hc hat => hat.put ho hc) (Below.refl _ _) (fun _ => rfl)
    (fun pre W => ChI W3 G L pre W)
    (fun pre A B r h hg hr => h.above HGL.out hg hr)
    HCI0.out ?a1 ?assign ?body ?done
  case assign =>
    intro lo x W K hK
    gi_wp2
    exact hK
  case body =>
    rintro lo pre ⟨i, g⟩ W hCI hAt hpre
    obtain ⟨pv, cv, k0, hx, hli⟩ := hCI.row
    have HCI := Lib.hid hCI
    have HAT := Lib.hid hAt
    have HLI := Lib.hid hli
    have HX := Lib.hid hx
    have hi4 : i < prod C := hAt.lt
    have hk0 : k0 ≤ 100000 := by
      have h1 := hli.len
      have h2 := congrArg List.length hpre
      rw [List.length_map, List.length_range] at h2
      rw [List.length_map] at h1
      have := HP4.out
      simp only at h2
      omega
    have HW3 : Hid (W3.heap.size + 3 ≤ W.heap.size) := Lib.hid (by
      have h1 := (Array.getElem?_eq_some_iff.1 hAt.row).1
      have h2 := hAt.new
      simp only at h1 h2
      omega)
    have HO3 : Hid (W3.heap.size ≤ W.heap.size) := Lib.hid hCI.old.size
    have HLI2 : Hid ((L i).length = m) := Lib.hid (by rw [HL.out, ixOf_len, HCN.out])
    have HLL := HLI2
    have hsm : ∀ x ∈ L i, x ≤ 1024 := fun x hx => by
      rw [HL.out] at hx
      have := ixOf_small hi4 HCS.out.2.1 x hx; omega
    have HSM := Lib.hid hsm
    obtain ⟨vd, HVD⟩ : ∃ vd, Hid (W.drew = vd) := ⟨_, Lib.hid rfl⟩
    have HBvd : Hid (Below W.heap.size W vd) := Lib.hid (by rw [← HVD.out]; exact ⟨rfl, rfl, rfl, Nat.le_refl _, fun _ _ => rfl⟩)
    have HGB : Hid (∀ X, Below W.heap.size W X → X.heap[G]? = some (.cells #[.slice pv k0 cv] 46 (0, 0))) := Lib.hid (fun X hX => (hX.block G (Array.getElem?_eq_some_iff.1 HX.out).1).trans HX.out)
    have HG0 : Hid (∀ X, Below W.heap.size W X → X.cell? ⟨G, 0, none⟩ = some (.slice pv k0 cv)) := Lib.hid (fun X hX => by
      have := HGB.out X hX
      simp [World.cell?, this])
    have hgr : vd.heap[g]? = some (.cells (ixC (L i)) 3 (0, 0)) := by
      have h1 := hAt.row
      simp only at h1
      rw [HL.out]
      exact (HBvd.out.block g (Array.getElem?_eq_some_iff.1 h1).1).trans h1
    have H72 : Hid (Calls Tryz.prog 75 #[.slice (some ⟨g, 0, none⟩) m m] vd (ClonePost m (L i) vd)) := Lib.hid (clone_any (some ⟨g, 0, none⟩) m m (L i) vd (Lib.hid HLI2.out) hn4 HSM (rdn_row hgr (fun x hx => by have := HSM.out x hx; omega)))
    clear hCI hAt hpre hx hli hi4 hsm hgr
    gi_wp2
    refine region_round (S := fun _ => True) (by kernel_rfl) (by kernel_rfl) (fun ⟨_, _, h⟩ => h) trivial (fun hHeld => ?_)
    rw [HVD.out]
    refine wpAnyH_take (i := 1) (v := ?v1) rfl (by kernel_rfl) (by kernel_rfl) (by kernel_rfl) (fun _ _ _ h => h) (Or.inl ⟨by rfl, ?hy1⟩) (by assumption) ?rest1
    case hy1 =>
      intro W' hSw
      clear hSw
      go_simp
      with_reducible rfl
    simp only [List.getElem_toArray, List.getElem_cons_zero, List.getElem_cons_succ, Act.put, List.setIfInBounds_toArray, List.set_cons_zero, List.set_cons_succ]
    refine wpAnyH_ready (rs := [0, 2]) (by kernel_rfl) (by simp) ?_
    refine AllReadyH.cons (i := 0) rfl (fun K hK => ?_) (AllReadyH.cons (i := 2) rfl (fun K hK => ?_) AllReadyH.nil)
    · have g1 : (vd).cell? ⟨G, 0, none⟩ = some (.slice pv k0 cv) := HG0.out _ HBvd.out
      go_simp
      refine hK.out _ _ trivial (fun hHeld => ?_)
      clear hK K
      refine wpAnyH_ready (rs := [2]) (by kernel_rfl) (by simp) ?_
      refine AllReadyH.cons (i := 2) rfl (fun K hK => ?_) AllReadyH.nil
      go_simp
      refine (H72.out).mono ?_
      rintro e v1 ⟨hb1, q1, d1, rfl, hq1, hq2, hq3, hq4⟩
      have HBv1 : Hid (Below W.heap.size W v1) := Lib.hid (HBvd.out.trans (hb1.mono HBvd.out.size))
      have HQ1 := Lib.hid hq1
      have HQ4 := Lib.hid hq4
      clear hb1 hq1 hq2 hq3 hq4
      refine hK.out _ _ trivial (fun hHeld => ?_)
      clear hK K
      refine wpAnyH_ready (rs := [3]) (by kernel_rfl) (by simp) ?_
      refine AllReadyH.cons (i := 3) rfl (fun K hK => ?_) AllReadyH.nil
      obtain ⟨v2, HUv2⟩ : ∃ U, Hid (v1.alloc (.cells #[.slice q1 m d1] 22) = U) := ⟨_, Lib.hid rfl⟩
      obtain ⟨gU, HgU⟩ : ∃ g, Hid (g = v1.heap.size) := ⟨_, Lib.hid rfl⟩
      have HB12 : Hid (Below v1.heap.size v1 v2) := Lib.hid (by rw [← HUv2.out]; exact (Below.refl _ _).alloc (Nat.le_refl _) _)
      have HBv2 : Hid (Below W.heap.size W v2) := Lib.hid (HBv1.out.trans (HB12.out.mono HBv1.out.size))
      have HUC : Hid (v2.cell? ⟨gU, 0, none⟩ = some (.slice q1 m d1)) := Lib.hid (by
        rw [← HUv2.out, HgU.out]; have := World.alloc_heap_new v1 (.cells #[.slice q1 m d1] 22); unfold World.cell?; simp only [this]; rfl)
      go_simp
      try rw [HUv2.out]
      try rw [← HgU.out]
      refine hK.out _ _ trivial (fun hHeld => ?_)
      clear hK K
      refine wpAnyH_ready (rs := [4]) (by kernel_rfl) (by simp) ?_
      refine AllReadyH.cons (i := 4) rfl (fun K hK => ?_) AllReadyH.nil
      rw [if_pos (by rfl)]
      obtain ⟨vals, hown, hels⟩ := HLI.out.row
      have HOU : Hid (v2.ownsRow (W3.heap.size + 3) 22 1 (.slice pv k0 cv) k0 vals) := Lib.hid (hown.kept (gb_of_below HBv2.out none) (by cases pv <;> simp [Value.ownBlock]))
      have HEL : Hid (Els (W3.heap.size + 3) (Value.slice pv k0 cv).ownBlock v2 (pre.map (fun y => L y.1)) vals) := Lib.hid (hels.move HBv2.out.size (fun b o _ h3 hb _ => ⟨HBv2.out.block b (Array.getElem?_eq_some_iff.1 hb).1, h3⟩))
      have HOLT : Hid (∀ b, (Value.slice pv k0 cv).ownBlock = some b → b < W.heap.size) := Lib.hid (fun b e => (hown.lt b e).2)
      clear hown hels
      refine op_append_1l (.tmp 22) (.tmp 25) rfl (W3.heap.size + 3) pv cv k0 vals rfl HOU.out gU q1 m d1 rfl HUC.out hk0 (Nat.le_trans HW3.out HBv2.out.size) ?_
      intro gv cv' w9 hown9 hg9 h59
      have hli : LI (W3.heap.size + 3) (W3.heap.size + 3) (some ⟨gv, 0, none⟩) cv' (k0 + 1) ((pre ++ [(i, g)]).map (fun y => L y.1)) w9 := by
        rw [List.map_append]
        refine LI.step (m := m) (p := q1) (c := d1) (l := L i) HLI.out.len HOU.out HEL.out HLL.out (HQ1.out.below HB12.out) (fun b off e h0 => ?_) hown9 hg9 h59
        have h1 := HQ4.out b off e
        have h2 := HBvd.out.size
        have h3 := HW3.out
        exact ⟨by omega, fun e2 => by have := HOLT.out b e2; omega⟩
      have hG9 : w9.heap[G]? = some (.cells #[.slice pv k0 cv] 46 (0, 0)) := by
        refine (hg9.block G (Nat.lt_of_lt_of_le HGL.out (Nat.le_trans HO3.out HBv2.out.size)) ?_).trans (HGB.out _ HBv2.out)
        intro e
        obtain ⟨h1, -⟩ := own_type HOU.out e.symm
        have := HGL.out; omega
      have k1 : w9.cell? ⟨G, 0, none⟩ = some (.slice pv k0 cv) := by simp [World.cell?, hG9]
      have z1 : w9.frozen? ⟨G, 0, none⟩ = false := by simp [World.frozen?, hG9]
      obtain ⟨W9, HW9⟩ : ∃ W9, Hid (w9.setCell ⟨G, 0, none⟩ (.slice (some ⟨gv, 0, none⟩) (k0 + 1) cv') = W9) := ⟨_, Lib.hid rfl⟩
      have HFIN : Hid (KeepsOthers W W9 ∧ IxAt C p0 m m Bb (W3.heap.size + 2) (i, g) W9 ∧ ChI W3 G L (pre ++ [(i, g)]) W9) := Lib.hid (by
        have hgs : w9.grownBy W9 (some G) := by rw [← HW9.out]; exact gb_set _ _ _ _
        have hblk : ∀ b, b < W.heap.size → b ≠ G → (Value.slice pv k0 cv).ownBlock ≠ some b → W9.heap[b]? = W.heap[b]? := fun b h1 h2 h3 =>
          (hgs.block b (Nat.lt_of_lt_of_le h1 (Nat.le_trans HBv2.out.size hg9.size)) (by intro e; injection e with e; exact h2 e)).trans
            ((hg9.block b (Nat.lt_of_lt_of_le h1 HBv2.out.size) (fun e => h3 e.symm)).trans (HBv2.out.block b h1))
        have hsz : W.heap.size ≤ W9.heap.size := Nat.le_trans HBv2.out.size (Nat.le_trans hg9.size hgs.size)
        have hno : ∀ b cs, W.heap[b]? = some (.cells cs 3 (0, 0)) ∨ b < W3.heap.size + 3 → (Value.slice pv k0 cv).ownBlock ≠ some b := fun b cs h e => by
          obtain ⟨h1, cs', h2⟩ := own_type HOU.out e
          rcases h with h | h
          · rw [HBv2.out.block b (Array.getElem?_eq_some_iff.1 h).1, h] at h2; cases h2
          · omega
        have hgl := HGL.out
        have hw3 := HW3.out
        refine ⟨(KeepsOthers.of_grownBy (gb_of_below HBv2.out none) (fun j o e => by cases e)).trans ((KeepsOthers.of_grownBy hg9 (fun j o e hj => ?_)).trans (by rw [← HW9.out]; exact KeepsOthers.setCell _ _ _)), ⟨?_, ?_, ?_, HAT.out.new, HAT.out.lt⟩, ?_, ?_⟩
        · obtain ⟨-, cs', h2⟩ := own_type HOU.out e
          rw [h2] at hj; cases hj; rfl
        · have h1 := HAT.out.row
          have h2 := HAT.out.new
          exact (hblk g (Array.getElem?_eq_some_iff.1 h1).1 (by simp only at h2; omega) (hno g _ (.inl h1))).trans h1
        · have h1 := HAT.out.box
          have h2 := HBBL.out
          exact (hblk Bb (Array.getElem?_eq_some_iff.1 h1).1 (by have := HBG.out; omega) (hno Bb #[] (.inr (by omega)))).trans h1
        · refine HAT.out.shape.keep hsz (fun b off e h0 => ?_)
          have h2 := HPB.out b off e h0
          exact hblk b (by omega) (by omega) (hno b #[] (.inr (by omega)))
        · have o1 := HCI.out.old.trans (gb_of_below HBv2.out (some G))
          refine ⟨hgs.os.trans (hg9.os.trans o1.os), hgs.tape.trans (hg9.tape.trans o1.tape), hgs.output.trans (hg9.output.trans o1.output), Nat.le_trans o1.size (Nat.le_trans hg9.size hgs.size), fun b h1 h2 => ?_⟩
          have h3 : b ≠ G := fun e => h2 (by rw [e])
          exact (hblk b (by omega) h3 (hno b #[] (.inr (by omega)))).trans (HCI.out.old.block b h1 h2)
        · refine ⟨some ⟨gv, 0, none⟩, cv', k0 + 1, by rw [← HW9.out]; exact heap_set w9 G 0 _ _ _ hG9, ?_⟩
          refine hli.other hgs (fun o _ _ => by omega))
      clear hown9 hg9 hli hG9 h59
      refine hK.out _ _ trivial (fun hHeld => ?_)
      clear hK K
      refine wpAnyH_ready (rs := [5]) (by kernel_rfl) (by simp) ?_
      refine AllReadyH.cons (i := 5) rfl (fun K hK => ?_) AllReadyH.nil
      go_simp
      try rw [HW9.out]
      refine hK.out _ _ trivial (fun hHeld => ?_)
      clear hK K
      refine wpAnyH_done (by kernel_rfl) ?_ _
      clear hHeld
      gi_wp2
      exact HFIN.out
    · go_simp
      refine (H72.out).mono ?_
      rintro e v1 ⟨hb1, q1, d1, rfl, hq1, hq2, hq3, hq4⟩
      have HBv1 : Hid (Below W.heap.size W v1) := Lib.hid (HBvd.out.trans (hb1.mono HBvd.out.size))
      have HQ1 := Lib.hid hq1
      have HQ4 := Lib.hid hq4
      clear hb1 hq1 hq2 hq3 hq4
      refine hK.out _ _ trivial (fun hHeld => ?_)
      clear hK K
      refine wpAnyH_ready (rs := [0, 3]) (by kernel_rfl) (by simp) ?_
      refine AllReadyH.cons (i := 0) rfl (fun K hK => ?_) (AllReadyH.cons (i := 3) rfl (fun K hK => ?_) AllReadyH.nil)
      · have g1 : (v1).cell? ⟨G, 0, none⟩ = some (.slice pv k0 cv) := HG0.out _ HBv1.out
        go_simp
        refine hK.out _ _ trivial (fun hHeld => ?_)
        clear hK K
        refine wpAnyH_ready (rs := [3]) (by kernel_rfl) (by simp) ?_
        refine AllReadyH.cons (i := 3) rfl (fun K hK => ?_) AllReadyH.nil
        obtain ⟨v2, HUv2⟩ : ∃ U, Hid (v1.alloc (.cells #[.slice q1 m d1] 22) = U) := ⟨_, Lib.hid rfl⟩
        obtain ⟨gU, HgU⟩ : ∃ g, Hid (g = v1.heap.size) := ⟨_, Lib.hid rfl⟩
        have HB12 : Hid (Below v1.heap.size v1 v2) := Lib.hid (by rw [← HUv2.out]; exact (Below.refl _ _).alloc (Nat.le_refl _) _)
        have HBv2 : Hid (Below W.heap.size W v2) := Lib.hid (HBv1.out.trans (HB12.out.mono HBv1.out.size))
        have HUC : Hid (v2.cell? ⟨gU, 0, none⟩ = some (.slice q1 m d1)) := Lib.hid (by
          rw [← HUv2.out, HgU.out]; have := World.alloc_heap_new v1 (.cells #[.slice q1 m d1] 22); unfold World.cell?; simp only [this]; rfl)
        go_simp
        try rw [HUv2.out]
        try rw [← HgU.out]
        refine hK.out _ _ trivial (fun hHeld => ?_)
        clear hK K
        refine wpAnyH_ready (rs := [4]) (by kernel_rfl) (by simp) ?_
        refine AllReadyH.cons (i := 4) rfl (fun K hK => ?_) AllReadyH.nil
        rw [if_pos (by rfl)]
        obtain ⟨vals, hown, hels⟩ := HLI.out.row
        have HOU : Hid (v2.ownsRow (W3.heap.size + 3) 22 1 (.slice pv k0 cv) k0 vals) := Lib.hid (hown.kept (gb_of_below HBv2.out none) (by cases pv <;> simp [Value.ownBlock]))
        have HEL : Hid (Els (W3.heap.size + 3) (Value.slice pv k0 cv).ownBlock v2 (pre.map (fun y => L y.1)) vals) := Lib.hid (hels.move HBv2.out.size (fun b o _ h3 hb _ => ⟨HBv2.out.block b (Array.getElem?_eq_some_iff.1 hb).1, h3⟩))
        have HOLT : Hid (∀ b, (Value.slice pv k0 cv).ownBlock = some b → b < W.heap.size) := Lib.hid (fun b e => (hown.lt b e).2)
        clear hown hels
        refine op_append_1l (.tmp 22) (.tmp 25) rfl (W3.heap.size + 3) pv cv k0 vals rfl HOU.out gU q1 m d1 rfl HUC.out hk0 (Nat.le_trans HW3.out HBv2.out.size) ?_
        intro gv cv' w9 hown9 hg9 h59
        have hli : LI (W3.heap.size + 3) (W3.heap.size + 3) (some ⟨gv, 0, none⟩) cv' (k0 + 1) ((pre ++ [(i, g)]).map (fun y => L y.1)) w9 := by
          rw [List.map_append]
          refine LI.step (m := m) (p := q1) (c := d1) (l := L i) HLI.out.len HOU.out HEL.out HLL.out (HQ1.out.below HB12.out) (fun b off e h0 => ?_) hown9 hg9 h59
          have h1 := HQ4.out b off e
          have h2 := HBvd.out.size
          have h3 := HW3.out
          exact ⟨by omega, fun e2 => by have := HOLT.out b e2; omega⟩
        have hG9 : w9.heap[G]? = some (.cells #[.slice pv k0 cv] 46 (0, 0)) := by
          refine (hg9.block G (Nat.lt_of_lt_of_le HGL.out (Nat.le_trans HO3.out HBv2.out.size)) ?_).trans (HGB.out _ HBv2.out)
          intro e
          obtain ⟨h1, -⟩ := own_type HOU.out e.symm
          have := HGL.out; omega
        have k1 : w9.cell? ⟨G, 0, none⟩ = some (.slice pv k0 cv) := by simp [World.cell?, hG9]
        have z1 : w9.frozen? ⟨G, 0, none⟩ = false := by simp [World.frozen?, hG9]
        obtain ⟨W9, HW9⟩ : ∃ W9, Hid (w9.setCell ⟨G, 0, none⟩ (.slice (some ⟨gv, 0, none⟩) (k0 + 1) cv') = W9) := ⟨_, Lib.hid rfl⟩
        have HFIN : Hid (KeepsOthers W W9 ∧ IxAt C p0 m m Bb (W3.heap.size + 2) (i, g) W9 ∧ ChI W3 G L (pre ++ [(i, g)]) W9) := Lib.hid (by
          have hgs : w9.grownBy W9 (some G) := by rw [← HW9.out]; exact gb_set _ _ _ _
          have hblk : ∀ b, b < W.heap.size → b ≠ G → (Value.slice pv k0 cv).ownBlock ≠ some b → W9.heap[b]? = W.heap[b]? := fun b h1 h2 h3 =>
            (hgs.block b (Nat.lt_of_lt_of_le h1 (Nat.le_trans HBv2.out.size hg9.size)) (by intro e; injection e with e; exact h2 e)).trans
              ((hg9.block b (Nat.lt_of_lt_of_le h1 HBv2.out.size) (fun e => h3 e.symm)).trans (HBv2.out.block b h1))
          have hsz : W.heap.size ≤ W9.heap.size := Nat.le_trans HBv2.out.size (Nat.le_trans hg9.size hgs.size)
          have hno : ∀ b cs, W.heap[b]? = some (.cells cs 3 (0, 0)) ∨ b < W3.heap.size + 3 → (Value.slice pv k0 cv).ownBlock ≠ some b := fun b cs h e => by
            obtain ⟨h1, cs', h2⟩ := own_type HOU.out e
            rcases h with h | h
            · rw [HBv2.out.block b (Array.getElem?_eq_some_iff.1 h).1, h] at h2; cases h2
            · omega
          have hgl := HGL.out
          have hw3 := HW3.out
          refine ⟨(KeepsOthers.of_grownBy (gb_of_below HBv2.out none) (fun j o e => by cases e)).trans ((KeepsOthers.of_grownBy hg9 (fun j o e hj => ?_)).trans (by rw [← HW9.out]; exact KeepsOthers.setCell _ _ _)), ⟨?_, ?_, ?_, HAT.out.new, HAT.out.lt⟩, ?_, ?_⟩
          · obtain ⟨-, cs', h2⟩ := own_type HOU.out e
            rw [h2] at hj; cases hj; rfl
          · have h1 := HAT.out.row
            have h2 := HAT.out.new
            exact (hblk g (Array.getElem?_eq_some_iff.1 h1).1 (by simp only at h2; omega) (hno g _ (.inl h1))).trans h1
          · have h1 := HAT.out.box
            have h2 := HBBL.out
            exact (hblk Bb (Array.getElem?_eq_some_iff.1 h1).1 (by have := HBG.out; omega) (hno Bb #[] (.inr (by omega)))).trans h1
          · refine HAT.out.shape.keep hsz (fun b off e h0 => ?_)
            have h2 := HPB.out b off e h0
            exact hblk b (by omega) (by omega) (hno b #[] (.inr (by omega)))
          · have o1 := HCI.out.old.trans (gb_of_below HBv2.out (some G))
            refine ⟨hgs.os.trans (hg9.os.trans o1.os), hgs.tape.trans (hg9.tape.trans o1.tape), hgs.output.trans (hg9.output.trans o1.output), Nat.le_trans o1.size (Nat.le_trans hg9.size hgs.size), fun b h1 h2 => ?_⟩
            have h3 : b ≠ G := fun e => h2 (by rw [e])
            exact (hblk b (by omega) h3 (hno b #[] (.inr (by omega)))).trans (HCI.out.old.block b h1 h2)
          · refine ⟨some ⟨gv, 0, none⟩, cv', k0 + 1, by rw [← HW9.out]; exact heap_set w9 G 0 _ _ _ hG9, ?_⟩
            refine hli.other hgs (fun o _ _ => by omega))
        clear hown9 hg9 hli hG9 h59
        refine hK.out _ _ trivial (fun hHeld => ?_)
        clear hK K
        refine wpAnyH_ready (rs := [5]) (by kernel_rfl) (by simp) ?_
        refine AllReadyH.cons (i := 5) rfl (fun K hK => ?_) AllReadyH.nil
        go_simp
        try rw [HW9.out]
        refine hK.out _ _ trivial (fun hHeld => ?_)
        clear hK K
        refine wpAnyH_done (by kernel_rfl) ?_ _
        clear hHeld
        gi_wp2
        exact HFIN.out
      · obtain ⟨v2, HUv2⟩ : ∃ U, Hid (v1.alloc (.cells #[.slice q1 m d1] 22) = U) := ⟨_, Lib.hid rfl⟩
        obtain ⟨gU, HgU⟩ : ∃ g, Hid (g = v1.heap.size) := ⟨_, Lib.hid rfl⟩
        have HB12 : Hid (Below v1.heap.size v1 v2) := Lib.hid (by rw [← HUv2.out]; exact (Below.refl _ _).alloc (Nat.le_refl _) _)
        have HBv2 : Hid (Below W.heap.size W v2) := Lib.hid (HBv1.out.trans (HB12.out.mono HBv1.out.size))
        have HUC : Hid (v2.cell? ⟨gU, 0, none⟩ = some (.slice q1 m d1)) := Lib.hid (by
          rw [← HUv2.out, HgU.out]; have := World.alloc_heap_new v1 (.cells #[.slice q1 m d1] 22); unfold World.cell?; simp only [this]; rfl)
        go_simp
        try rw [HUv2.out]
        try rw [← HgU.out]
        refine hK.out _ _ trivial (fun hHeld => ?_)
        clear hK K
        refine wpAnyH_ready (rs := [0]) (by kernel_rfl) (by simp) ?_
        refine AllReadyH.cons (i := 0) rfl (fun K hK => ?_) AllReadyH.nil
        have g1 : (v2).cell? ⟨G, 0, none⟩ = some (.slice pv k0 cv) := HG0.out _ HBv2.out
        go_simp
        refine hK.out _ _ trivial (fun hHeld => ?_)
        clear hK K
        refine wpAnyH_ready (rs := [4]) (by kernel_rfl) (by simp) ?_
        refine AllReadyH.cons (i := 4) rfl (fun K hK => ?_) AllReadyH.nil
        rw [if_pos (by rfl)]
        obtain ⟨vals, hown, hels⟩ := HLI.out.row
        have HOU : Hid (v2.ownsRow (W3.heap.size + 3) 22 1 (.slice pv k0 cv) k0 vals) := Lib.hid (hown.kept (gb_of_below HBv2.out none) (by cases pv <;> simp [Value.ownBlock]))
        have HEL : Hid (Els (W3.heap.size + 3) (Value.slice pv k0 cv).ownBlock v2 (pre.map (fun y => L y.1)) vals) := Lib.hid (hels.move HBv2.out.size (fun b o _ h3 hb _ => ⟨HBv2.out.block b (Array.getElem?_eq_some_iff.1 hb).1, h3⟩))
        have HOLT : Hid (∀ b, (Value.slice pv k0 cv).ownBlock = some b → b < W.heap.size) := Lib.hid (fun b e => (hown.lt b e).2)
        clear hown hels
        refine op_append_1l (.tmp 22) (.tmp 25) rfl (W3.heap.size + 3) pv cv k0 vals rfl HOU.out gU q1 m d1 rfl HUC.out hk0 (Nat.le_trans HW3.out HBv2.out.size) ?_
        intro gv cv' w9 hown9 hg9 h59
        have hli : LI (W3.heap.size + 3) (W3.heap.size + 3) (some ⟨gv, 0, none⟩) cv' (k0 + 1) ((pre ++ [(i, g)]).map (fun y => L y.1)) w9 := by
          rw [List.map_append]
          refine LI.step (m := m) (p := q1) (c := d1) (l := L i) HLI.out.len HOU.out HEL.out HLL.out (HQ1.out.below HB12.out) (fun b off e h0 => ?_) hown9 hg9 h59
          have h1 := HQ4.out b off e
          have h2 := HBvd.out.size
          have h3 := HW3.out
          exact ⟨by omega, fun e2 => by have := HOLT.out b e2; omega⟩
        have hG9 : w9.heap[G]? = some (.cells #[.slice pv k0 cv] 46 (0, 0)) := by
          refine (hg9.block G (Nat.lt_of_lt_of_le HGL.out (Nat.le_trans HO3.out HBv2.out.size)) ?_).trans (HGB.out _ HBv2.out)
          intro e
          obtain ⟨h1, -⟩ := own_type HOU.out e.symm
          have := HGL.out; omega
        have k1 : w9.cell? ⟨G, 0, none⟩ = some (.slice pv k0 cv) := by simp [World.cell?, hG9]
        have z1 : w9.frozen? ⟨G, 0, none⟩ = false := by simp [World.frozen?, hG9]
        obtain ⟨W9, HW9⟩ : ∃ W9, Hid (w9.setCell ⟨G, 0, none⟩ (.slice (some ⟨gv, 0, none⟩) (k0 + 1) cv') = W9) := ⟨_, Lib.hid rfl⟩
        have HFIN : Hid (KeepsOthers W W9 ∧ IxAt C p0 m m Bb (W3.heap.size + 2) (i, g) W9 ∧ ChI W3 G L (pre ++ [(i, g)]) W9) := Lib.hid (by
          have hgs : w9.grownBy W9 (some G) := by rw [← HW9.out]; exact gb_set _ _ _ _
          have hblk : ∀ b, b < W.heap.size → b ≠ G → (Value.slice pv k0 cv).ownBlock ≠ some b → W9.heap[b]? = W.heap[b]? := fun b h1 h2 h3 =>
            (hgs.block b (Nat.lt_of_lt_of_le h1 (Nat.le_trans HBv2.out.size hg9.size)) (by intro e; injection e with e; exact h2 e)).trans
              ((hg9.block b (Nat.lt_of_lt_of_le h1 HBv2.out.size) (fun e => h3 e.symm)).trans (HBv2.out.block b h1))
          have hsz : W.heap.size ≤ W9.heap.size := Nat.le_trans HBv2.out.size (Nat.le_trans hg9.size hgs.size)
          have hno : ∀ b cs, W.heap[b]? = some (.cells cs 3 (0, 0)) ∨ b < W3.heap.size + 3 → (Value.slice pv k0 cv).ownBlock ≠ some b := fun b cs h e => by
            obtain ⟨h1, cs', h2⟩ := own_type HOU.out e
            rcases h with h | h
            · rw [HBv2.out.block b (Array.getElem?_eq_some_iff.1 h).1, h] at h2; cases h2
            · omega
          have hgl := HGL.out
          have hw3 := HW3.out
          refine ⟨(KeepsOthers.of_grownBy (gb_of_below HBv2.out none) (fun j o e => by cases e)).trans ((KeepsOthers.of_grownBy hg9 (fun j o e hj => ?_)).trans (by rw [← HW9.out]; exact KeepsOthers.setCell _ _ _)), ⟨?_, ?_, ?_, HAT.out.new, HAT.out.lt⟩, ?_, ?_⟩
          · obtain ⟨-, cs', h2⟩ := own_type HOU.out e
            rw [h2] at hj; cases hj; rfl
          · have h1 := HAT.out.row
            have h2 := HAT.out.new
            exact (hblk g (Array.getElem?_eq_some_iff.1 h1).1 (by simp only at h2; omega) (hno g _ (.inl h1))).trans h1
          · have h1 := HAT.out.box
            have h2 := HBBL.out
            exact (hblk Bb (Array.getElem?_eq_some_iff.1 h1).1 (by have := HBG.out; omega) (hno Bb #[] (.inr (by omega)))).trans h1
          · refine HAT.out.shape.keep hsz (fun b off e h0 => ?_)
            have h2 := HPB.out b off e h0
            exact hblk b (by omega) (by omega) (hno b #[] (.inr (by omega)))
          · have o1 := HCI.out.old.trans (gb_of_below HBv2.out (some G))
            refine ⟨hgs.os.trans (hg9.os.trans o1.os), hgs.tape.trans (hg9.tape.trans o1.tape), hgs.output.trans (hg9.output.trans o1.output), Nat.le_trans o1.size (Nat.le_trans hg9.size hgs.size), fun b h1 h2 => ?_⟩
            have h3 : b ≠ G := fun e => h2 (by rw [e])
            exact (hblk b (by omega) h3 (hno b #[] (.inr (by omega)))).trans (HCI.out.old.block b h1 h2)
          · refine ⟨some ⟨gv, 0, none⟩, cv', k0 + 1, by rw [← HW9.out]; exact heap_set w9 G 0 _ _ _ hG9, ?_⟩
            refine hli.other hgs (fun o _ _ => by omega))
        clear hown9 hg9 hli hG9 h59
        refine hK.out _ _ trivial (fun hHeld => ?_)
        clear hK K
        refine wpAnyH_ready (rs := [5]) (by kernel_rfl) (by simp) ?_
        refine AllReadyH.cons (i := 5) rfl (fun K hK => ?_) AllReadyH.nil
        go_simp
        try rw [HW9.out]
        refine hK.out _ _ trivial (fun hHeld => ?_)
        clear hK K
        refine wpAnyH_done (by kernel_rfl) ?_ _
        clear hHeld
        gi_wp2
        exact HFIN.out
  case done =>
    rintro D9 xs W hD hS hCI hK
    obtain ⟨pv, cv, k0, hx, hli⟩ := hCI.row
    have HK := Lib.hid hK
    have g0 : W.cell? ⟨G, 0, none⟩ = some (.slice pv k0 cv) := by simp [World.cell?, hx]
    have hgD : W.grownBy (W.putObj D9 (.deferred none)) (some D9) := grownBy_putObj' W D9 (.deferred none)
    have hli2 := hli.other hgD (fun o h1 h2 => by rw [hK] at h1; cases h1; cases h2)
    have hmap : xs.map (fun y => L y.1) = (List.range (prod C)).map L := by rw [← hS, List.map_map]; rfl
    rw [hmap] at hli2
    have HFIN : Hid (LstPost w 0 ((List.range (prod C)).map L) (.returned (.tuple #[.slice pv k0 cv, .int .i64 0])) (W.putObj D9 (.deferred none))) := Lib.hid (by
      refine ⟨⟨hgD.os.trans (hCI.old.os.trans HBW3.out.os), hgD.tape.trans (hCI.old.tape.trans HBW3.out.tape), hgD.output.trans (hCI.old.output.trans HBW3.out.output), Nat.le_trans HBW3.out.size (Nat.le_trans hCI.old.size hgD.size), fun b hb => ?_⟩, pv, k0, cv, rfl, hli2.len, hli2.reads⟩
      have h1 := HBW3.out.size
      have h2 := hCI.old.size
      rw [hgD.block b (by omega) (by intro e; injection e with e; omega), hCI.old.block b (by omega) (by intro e; injection e with e; rw [HG.out] at e; omega)]
      exact HBW3.out.block b hb)
    clear hli hli2 hgD hx hCI hK hmap
    go_wp2_with fail
    refine ⟨by simp, .inl ⟨_, _, rfl, run_takeDeferred HK.out, ?_⟩⟩
    refine ⟨.tuple #[.slice pv k0 cv, .int .i64 0], ?_, HFIN.out⟩
    simp [results, Tryz.f30, go_sem]
end Go.Proofs.YtigidchicloleaaGreatDoor.Arr
