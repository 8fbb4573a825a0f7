/- The chunks that a cut meets along a dimension. -/
import Derived.Test.YtigidchicloleaaGreatDoorJF
import Derived.Test.YtigidchicloleaaGreatDoorShelfC
import Derived.Test.YtigidchicloleaaGreatDoorGK
import Derived.Lib.LazyBuf
set_option maxHeartbeats 2000000
set_option maxRecDepth 100000
namespace Go.Proofs.YtigidchicloleaaGreatDoor.Arr
open Go.RowKit Go.Shelf
open Go.Lib
attribute [local go_sem] Oper.semAt_some
theorem sorted_eq : ∀ {a b : List Int}, a.Pairwise (· < ·) → b.Pairwise (· < ·) → (∀ x, x ∈ a ↔ x ∈ b) → a = b
  | [], [], _, _, _ => rfl
  | [], y :: b, _, _, h => absurd ((h y).2 (by simp)) (by simp)
  | x :: a, [], _, _, h => absurd ((h x).1 (by simp)) (by simp)
  | x :: a, y :: b, ha, hb, h => by
    rw [List.pairwise_cons] at ha hb
    have e : x = y := by
      have h1 := (h x).1 (by simp)
      have h2 := (h y).2 (by simp)
      rcases List.mem_cons.1 h1 with e1 | e1
      · exact e1
      · rcases List.mem_cons.1 h2 with e2 | e2
        · exact e2.symm
        · have := hb.1 x e1
          have := ha.1 y e2
          omega
    subst e
    rw [sorted_eq ha.2 hb.2 (fun z => ⟨fun hz => by
      rcases List.mem_cons.1 ((h z).1 (List.mem_cons_of_mem _ hz)) with e | e
      · subst e; have := ha.1 z hz; omega
      · exact e, fun hz => by
      rcases List.mem_cons.1 ((h z).2 (List.mem_cons_of_mem _ hz)) with e | e
      · subst e; have := hb.1 z hz; omega
      · exact e⟩)]
theorem compact_sorted {zs : List Int} (h : ∀ i j, i ≤ j → j < zs.length → zs.toArray[i]! ≤ zs.toArray[j]!) : (Lib.compact zs).Pairwise (· < ·) := by
  unfold Lib.compact Lib.compactUpTo
  rw [List.pairwise_map]
  have hr : ((List.range zs.length).filter (Lib.keeps zs.toArray)).Pairwise (· < ·) := (List.pairwise_lt_range).filter _
  refine List.Pairwise.imp_of_mem ?_ hr
  intro i j _ hj hij
  obtain ⟨hj1, hj2⟩ := List.mem_filter.1 hj
  have hjl := List.mem_range.1 hj1
  unfold Lib.keeps at hj2
  rw [decide_eq_true_eq] at hj2
  rcases hj2 with e | e
  · omega
  · have h1 := h i (j - 1) (by omega) (by omega)
    have h2 := h (j - 1) j (by omega) hjl
    have h3 : zs.toArray[j]! ≠ zs.toArray[j - 1]! := e
    omega
theorem compact_mem {zs : List Int} {x : Int} : x ∈ Lib.compact zs ↔ x ∈ zs := by
  unfold Lib.compact Lib.compactUpTo
  constructor
  · intro hx
    obtain ⟨j, hj, rfl⟩ := List.mem_map.1 hx
    have hjl := List.mem_range.1 (List.mem_filter.1 hj).1
    have e : zs.toArray[j]! = zs[j] := by simp [hjl]
    rw [e]; exact List.getElem_mem _
  · intro hx
    obtain ⟨j, hj, rfl⟩ := List.getElem_of_mem hx
    have key : ∀ j, (hj : j < zs.length) → zs[j] ∈ ((List.range zs.length).filter (Lib.keeps zs.toArray)).map (fun j => zs.toArray[j]!) := fun j => by
      induction j with
      | zero =>
        intro hj
        refine List.mem_map.2 ⟨0, List.mem_filter.2 ⟨List.mem_range.2 hj, by simp [Lib.keeps]⟩, by simp [hj]⟩
      | succ j ih =>
        intro hj
        by_cases e : Lib.keeps zs.toArray (j + 1) = true
        · exact List.mem_map.2 ⟨j + 1, List.mem_filter.2 ⟨List.mem_range.2 hj, e⟩, by simp [hj]⟩
        · have hk : zs[j + 1] = zs[j] := by
            unfold Lib.keeps at e
            rw [decide_eq_true_eq] at e
            have h1 : ¬ zs.toArray[j + 1]! ≠ zs.toArray[j + 1 - 1]! := fun h => e (.inr h)
            have h2 := Classical.not_not.1 h1
            have hj2 : j < zs.length := by omega
            simpa [hj, hj2] using h2
          rw [hk]; exact ih (by omega)
    exact key j hj
def metZ (z a n st : Nat) : List Nat := (List.range n).map (fun i => (a + i * st) / z)
def metL (s z a n st : Nat) : List Nat := (List.range ((s + z - 1) / z)).filter (fun c => (List.range n).any (fun i => decide ((a + i * st) / z = c)))
theorem metZ_at {z a n st i : Nat} (hi : i < n) : (metZ z a n st).getD i 0 = (a + i * st) / z := by
  unfold metZ
  rw [List.getD_eq_getElem?_getD, List.getElem?_map, List.getElem?_range hi]; rfl
theorem metZ_len (z a n st : Nat) : (metZ z a n st).length = n := by simp [metZ]
theorem met_compact {s z a n st : Nat} (hz : 1 ≤ z) (h : ∀ i, i < n → a + i * st < s) : Lib.compact ((metZ z a n st).map Int.ofNat) = (metL s z a n st).map Int.ofNat := by
  refine sorted_eq (compact_sorted (fun i j hij hj => ?_)) ?_ (fun x => ?_)
  · rw [List.length_map, metZ_len] at hj
    have e : ∀ k, k < n → ((metZ z a n st).map Int.ofNat).toArray[k]! = (((a + k * st) / z : Nat) : Int) := fun k hk => by
      have : k < ((metZ z a n st).map Int.ofNat).length := by rw [List.length_map, metZ_len]; exact hk
      simp [metZ, hk]
    rw [e i (by omega), e j hj]
    have h1 : i * st ≤ j * st := Nat.mul_le_mul_right st hij
    have h2 : (a + i * st) / z ≤ (a + j * st) / z := Nat.div_le_div_right (by omega)
    omega
  · rw [List.pairwise_map]
    refine List.Pairwise.imp ?_ ((List.pairwise_lt_range (n := (s + z - 1) / z)).filter _)
    intro a b hab
    show ((a : Nat) : Int) < ((b : Nat) : Int)
    omega
  · rw [compact_mem, List.mem_map, List.mem_map]
    constructor
    · rintro ⟨y, hy, rfl⟩
      refine ⟨y, ?_, rfl⟩
      obtain ⟨i, hi, rfl⟩ := List.mem_map.1 hy
      have hin := List.mem_range.1 hi
      refine List.mem_filter.2 ⟨List.mem_range.2 ?_, List.any_eq_true.2 ⟨i, hi, by simp⟩⟩
      have h1 := h i hin
      have h2 := Nat.div_mul_le_self (a + i * st) z
      show (a + i * st) / z + 1 ≤ _
      rw [Nat.le_div_iff_mul_le (by omega), Nat.add_mul, Nat.one_mul]
      omega
    · rintro ⟨y, hy, rfl⟩
      refine ⟨y, ?_, rfl⟩
      obtain ⟨i, hi, e⟩ := List.any_eq_true.1 (List.mem_filter.1 hy).2
      rw [decide_eq_true_eq] at e
      exact List.mem_map.2 ⟨i, hi, e⟩
def MetPost (w : World) (M : List Nat) (e : Ending) (w' : World) : Prop := Below w.heap.size w w' ∧ ∃ q len c, e = .returned (.slice q len c) ∧ M.length = len ∧ RdN w' q M ∧ ∀ b off, q = some ⟨b, off, none⟩ → w.heap.size ≤ b
theorem cut_in {s : Nat} {a n st : Int} (h : cutOk s a n st = true) : ∃ a0 n0 t0 : Nat, a = a0 ∧ n = n0 ∧ st = t0 ∧ a0 ≤ s ∧ 1 ≤ t0 ∧ ∀ i, i < n0 → a0 + i * t0 < s := by
  obtain ⟨h1, h2, h3, h4, h5⟩ := last_le h
  obtain ⟨a0, rfl⟩ := Int.eq_ofNat_of_zero_le h1
  obtain ⟨n0, rfl⟩ := Int.eq_ofNat_of_zero_le h2
  obtain ⟨t0, rfl⟩ := Int.eq_ofNat_of_zero_le (show 0 ≤ st by omega)
  refine ⟨a0, n0, t0, rfl, rfl, rfl, by omega, by omega, fun i hi => ?_⟩
  have h6 := h5 (by omega)
  have h7 : i * t0 ≤ (n0 - 1) * t0 := Nat.mul_le_mul_right t0 (by omega)
  have h8 : ((n0 : Int) - 1) * (t0 : Int) = (((n0 - 1) * t0 : Nat) : Int) := by
    rw [Int.natCast_mul, Int.natCast_sub (by omega)]; rfl
  rw [h8] at h6
  omega
theorem metL_lt {s z a n st x : Nat} (hx : x ∈ metL s z a n st) : x < (s + z - 1) / z := List.mem_range.1 (List.mem_filter.1 hx).1
theorem metL_len (s z a n st : Nat) : (metL s z a n st).length ≤ (s + z - 1) / z := by
  have := List.length_filter_le (fun c => (List.range n).any (fun i => decide ((a + i * st) / z = c))) (List.range ((s + z - 1) / z))
  rwa [List.length_range] at this
theorem metby_any (s y a n t : Nat) (w : World) (hs : s ≤ 1024) (hy1 : 1 ≤ y) (hy2 : y ≤ 1024) (ha : a ≤ s) (hn : n ≤ 1024) (hc : Hid (∀ i, i < n → a + i * t < s)) :
    Calls Tryz.prog 79 #[.agg #[.int .i64 (a : Int), .int .i64 (n : Int), .int .i64 (t : Int)], .int .i64 (y : Int)] w (MetPost w (metL s y a n t)) := by
  obtain ⟨A, HA⟩ : ∃ A, Hid (A = w.heap.size) := ⟨_, Lib.hid rfl⟩
  obtain ⟨W0, HW0⟩ : ∃ W0, Hid (w.alloc (.cells #[.int .i64 (a : Int), .int .i64 (n : Int), .int .i64 (t : Int)] 66) = W0) := ⟨_, Lib.hid rfl⟩
  have HB0 : Hid (Below w.heap.size w W0) := Lib.hid (by rw [← HW0.out]; exact (Below.refl _ w).alloc (Nat.le_refl _) _)
  have HX0 : Hid (W0.heap[A]? = some (.cells #[.int .i64 (a : Int), .int .i64 (n : Int), .int .i64 (t : Int)] 66 (0, 0))) := Lib.hid (by rw [← HW0.out, HA.out]; exact World.alloc_heap_new w _)
  have HBX : Hid (∀ W, Below W0.heap.size W0 W → Below w.heap.size w W ∧ W.cell? ⟨A, 0, none⟩ = some (.int .i64 (a : Int)) ∧ W.cell? ⟨A, 1, none⟩ = some (.int .i64 (n : Int)) ∧ W.cell? ⟨A, 2, none⟩ = some (.int .i64 (t : Int))) := Lib.hid (fun W hW => by
    have h0 := (hW.block A (Array.getElem?_eq_some_iff.1 HX0.out).1).trans HX0.out
    exact ⟨HB0.out.trans (hW.mono HB0.out.size), by simp [World.cell?, h0], by simp [World.cell?, h0], by simp [World.cell?, h0]⟩)
  have hni : (n : Int) ≤ 1024 := by omega
  have iy : (y : Int) ≤ 1024 := by omega
  have iyn : ¬ (y : Int) = 0 := by omega
  have ia : (a : Int) ≤ 1024 := by omega
  obtain ⟨Z, HZ⟩ : ∃ Z, Hid (Z = metZ y a n t) := ⟨_, Lib.hid rfl⟩
  have HZL : Hid (Z.length = n) := Lib.hid (by rw [HZ.out, metZ_len])
  obtain ⟨M, HM⟩ : ∃ M, Hid (M = metL s y a n t) := ⟨_, Lib.hid rfl⟩
  have HZM : Hid (Lib.compact (Z.map Int.ofNat) = M.map Int.ofNat) := Lib.hid (by rw [HZ.out, HM.out]; exact met_compact hy1 hc.out)
  have HZB : Hid (∀ x ∈ Z, x ≤ 1024) := Lib.hid (fun x hx => by
    rw [HZ.out] at hx
    obtain ⟨i, hi, rfl⟩ := List.mem_map.1 hx
    have h1 := hc.out i (List.mem_range.1 hi)
    have h2 := Nat.div_le_self (a + i * t) y
    omega)
  have HMB : Hid (∀ x ∈ M, x ≤ 1024) := Lib.hid (fun x hx => by
    rw [HM.out] at hx
    have h1 := metL_lt hx
    have h2 := cdiv_le (a := s) hy1
    omega)
  rw [← HM.out]
  have HS0 : Hid (W0.ownsRow w.heap.size 3 1 (.slice none 0 0) 0 ((Z.take 0).map (fun x => Value.int .i64 ((x : Nat) : Int)))) := Lib.hid ⟨by simp, .inl ⟨rfl, rfl⟩⟩
  have HBR := Lib.hid (Below.refl W0.heap.size W0)
  obtain ⟨-, b0, b1, b2⟩ := HBX.out W0 HBR.out
  go_enter Tryz.func79, Tryz.ntmps79
  go_wp2_with fail
  rw [HW0.out, ← HA.out]
  go_wp2_with fail
  clear b0 b1 b2
  go_loopw [5, 9] (fun rv iv wr => ∃ (i : Nat) (pv : Option Addr) (cv : Nat), i ≤ n ∧ iv = .int .i64 i ∧ rv = .slice pv i cv ∧ Hid (Below W0.heap.size W0 wr) ∧ Hid (wr.ownsRow w.heap.size 3 1 (.slice pv i cv) i ((Z.take i).map (fun x => Value.int .i64 ((x : Nat) : Int)))) ∧ Hid (∀ k, (Value.slice pv i cv).ownBlock = some k → W0.heap.size ≤ k)) (fun _ iv _ => n - (Go.RowKit.intOf iv).toNat)
  case atStart => exact ⟨0, none, 0, Nat.zero_le _, rfl, rfl, HBR, HS0, Lib.hid (fun k e => by cases e)⟩
  case round =>
    obtain ⟨i, pv, cv, hi, rfl, rfl, HB, HO, HOB⟩ := hrel
    have ii : (i : Int) ≤ (n : Int) := by omega
    obtain ⟨hbw, b0, b1, b2⟩ := HBX.out wr HB.out
    have HBW := Lib.hid hbw
    clear hbw
    by_cases hlt : i < n
    · have ilt : (i : Int) < (n : Int) := by omega
      obtain ⟨m, HMU⟩ : ∃ m, Hid (m = i * t) := ⟨_, rfl⟩
      have hmul : (i : Int) * (t : Int) = (m : Int) := by rw [HMU.out]; exact (Int.natCast_mul i t).symm
      have hb3 := hc.out i hlt
      rw [← HMU.out] at hb3
      obtain ⟨v, HVV⟩ : ∃ v, Hid (v = a + m) := ⟨_, rfl⟩
      have hadd : (a : Int) + (m : Int) = (v : Int) := by rw [HVV.out]; omega
      obtain ⟨u, HUU⟩ : ∃ u, Hid (u = v / y) := ⟨_, rfl⟩
      have hdiv : (v : Int).tdiv (y : Int) = (u : Int) := by rw [HUU.out]; exact (Int.ofNat_tdiv v y).symm
      have im : (m : Int) ≤ 1024 := by omega
      have iv : (v : Int) ≤ 1024 := by rw [HVV.out]; omega
      have iu : (u : Int) ≤ 1024 := by have := Nat.div_le_self v y; rw [HUU.out]; omega
      have hzu : Z.getD i 0 = u := by rw [HZ.out, metZ_at hlt, HUU.out, HVV.out, HMU.out]
      obtain ⟨U, HUA⟩ : ∃ U, Hid (wr.alloc (.cells #[.int .i64 (u : Int)] 3) = U) := ⟨_, Lib.hid rfl⟩
      obtain ⟨gU, HGU⟩ : ∃ g, Hid (g = wr.heap.size) := ⟨_, Lib.hid rfl⟩
      have hbU : Below wr.heap.size wr U := by rw [← HUA.out]; exact (Below.refl _ _).alloc (Nat.le_refl _) _
      have HBU := Lib.hid hbU
      have HUC : Hid (U.heap[gU]? = some (.cells (ixC [u]) 3 (0, 0))) := Lib.hid (by rw [← HUA.out, HGU.out]; exact World.alloc_heap_new _ _)
      have HRU : Hid (RdN U (some ⟨gU, 0, none⟩) [u]) := Lib.hid (rdn_row HUC.out (fun x hx => by obtain rfl := List.mem_singleton.1 hx; omega))
      obtain ⟨T, HT⟩ : ∃ T, Hid (T = Z.take i) := ⟨_, Lib.hid rfl⟩
      have htl : T.length = i := by rw [HT.out, List.length_take, HZL.out]; omega
      have HTL := Lib.hid htl
      have HOU : Hid (U.ownsRow w.heap.size 3 1 (.slice pv i cv) T.length (T.map (fun x => Value.int .i64 ((x : Nat) : Int)))) := Lib.hid (by
        rw [HTL.out, HT.out]; exact HO.out.kept (gb_of_below hbU none) (by cases pv <;> simp [Value.ownBlock]))
      have HSZ : Hid (w.heap.size ≤ U.heap.size) := Lib.hid (Nat.le_trans HBW.out.size hbU.size)
      have HLN : Hid (T.length + 1 ≤ 100000) := Lib.hid (by rw [htl]; omega)
      have HTS : Hid (T ++ [u] = Z.take (i + 1)) := Lib.hid (by rw [HT.out, take_succ' (by rw [HZL.out]; exact hlt), hzu])
      clear hbU hb3 htl hzu
      go_wp2_with (first | (rw [HUA.out, ← HGU.out]; at_builtin; refine wpList_append_ns rfl (.tmp 12) (.tmp 22) rfl w.heap.size _ T rfl HOU.out (some ⟨gU, 0, none⟩) 1 1 [u] rfl rfl HRU.out HLN.out HSZ.out ?_))
      intro v' w4 hown hg hge
      rw [HTL.out] at hown
      have hown : w4.ownsRow w.heap.size 3 1 v' (i + 1) ((Z.take (i + 1)).map (fun x => Value.int .i64 ((x : Nat) : Int))) := by
        rw [← HTS.out, List.map_append]; exact hown
      obtain ⟨gv, cv', rfl⟩ : ∃ g c, v' = .slice (some ⟨g, 0, none⟩) (i + 1) c := by
        obtain ⟨-, ⟨-, e⟩ | ⟨g, cap, _, e, -⟩⟩ := id hown
        · omega
        · exact ⟨g, cap, e⟩
      have HO4 := Lib.hid hown
      have HB4 : Hid (Below W0.heap.size W0 w4) := Lib.hid ⟨hg.os.trans (HBU.out.os.trans HB.out.os), hg.tape.trans (HBU.out.tape.trans HB.out.tape), hg.output.trans (HBU.out.output.trans HB.out.output), Nat.le_trans HB.out.size (Nat.le_trans HBU.out.size hg.size), fun b hb => by
        have h1 := HB.out.size
        have h2 := HBU.out.size
        rw [hg.block b (by omega) (fun e => by have := HOB.out b e.symm; omega), HBU.out.block b (by omega)]
        exact HB.out.block b hb⟩
      have HOB4 : Hid (∀ k, (Value.slice (some ⟨gv, 0, none⟩) (i + 1) cv').ownBlock = some k → W0.heap.size ≤ k) := Lib.hid (fun k e => by
        obtain ⟨-, ⟨e1, -⟩ | ⟨g, cap, cur, e1, h1, h2, -⟩⟩ := id HO4.out
        · cases e1
        · cases e1
          cases e
          have h3 := (HB4.out.block A (Array.getElem?_eq_some_iff.1 HX0.out).1).trans HX0.out
          have h4 : gv ≠ A := fun e => by rw [e, h3] at h2; cases h2
          have h5 : W0.heap.size = w.heap.size + 1 := by rw [← HW0.out]; simp
          have := HA.out
          have h6 : w.heap.size ≤ gv := h1
          show W0.heap.size ≤ gv
          omega)
      clear hown hg hge b0 b1 b2
      go_wp2_with fail
      go_roundw
      case rel => exact ⟨i + 1, some ⟨gv, 0, none⟩, cv', by omega, by go_num, rfl, HB4, HO4, HOB4⟩
      case measure => simp [Go.RowKit.intOf]; omega
    · obtain rfl : i = n := by omega
      have ilt : ¬ (i : Int) < (i : Int) := by omega
      rcases Nat.eq_zero_or_pos i with h0 | h0
      · subst h0
        have H89 : Hid (Calls Tryz.prog 94 #[.slice pv 0 cv] wr fun e w' => e = .returned (.slice pv 0 cv) ∧ w' = wr) := Lib.hid (Tryz.slices_Compact_int_empty pv cv wr)
        have HM0 : Hid (M = []) := Lib.hid (by
          have h := HZM.out
          rw [List.eq_nil_of_length_eq_zero HZL.out] at h
          exact List.map_eq_nil_iff.1 h.symm)
        have hfin : Hid (MetPost w M (.returned (.slice pv 0 cv)) wr) := Lib.hid ⟨HBW.out, pv, 0, cv, rfl, by rw [HM0.out]; rfl, ⟨fun z hz => (by rw [HM0.out] at hz; cases hz), .inl (by rw [HM0.out]; rfl)⟩, fun b off e => by
          obtain ⟨-, ⟨e1, -⟩ | ⟨g, cap, _, e1, hg, -⟩⟩ := id HO.out
          · rw [e] at e1; cases e1
          · rw [e] at e1; cases e1; exact hg⟩
        clear b0 b1 b2
        go_wp2_with fail
        refine (H89.out).mono ?_
        rintro e w' ⟨rfl, rfl⟩
        go_wp2_with fail
        go_ret
        exact hfin.out
      · obtain ⟨g, cur, rfl, hg, hcap⟩ : ∃ g cur, pv = some ⟨g, 0, none⟩ ∧ (w.heap.size ≤ g ∧ wr.heap[g]? = some (.cells cur 3 (0, 0))) ∧ i ≤ cv := by
          obtain ⟨-, ⟨-, e⟩ | ⟨g, cap, cur, e, h1, h2, h3, -⟩⟩ := id HO.out
          · omega
          · injection e with e1 _ e3
            subst e3
            exact ⟨g, cur, e1, ⟨h1, h2⟩, h3⟩
        have hzl : (Z.map Int.ofNat).length = i := by rw [List.length_map, HZL.out]
        have hcell : ∀ j, j < (Z.map Int.ofNat).length → wr.cell? ⟨g, 0 + j, none⟩ = some (.int .i64 ((Z.map Int.ofNat).getD j 0)) := fun j hj => by
          rw [hzl] at hj
          rw [Nat.zero_add, HO.out.cellAt j (by omega), List.getElem?_map, List.getElem?_take_of_lt hj, List.getElem?_eq_getElem (by rw [HZL.out]; exact hj), List.getD_eq_getElem?_getD, List.getElem?_map, List.getElem?_eq_getElem (by rw [HZL.out]; exact hj)]
          rfl
        have H89 := Lib.hid (Tryz.slices_Compact_int_cells g 0 i cv (Z.map Int.ofNat) wr (by omega) (by omega) hcap hcell (fun j hj => by rw [Nat.zero_add]; exact HO.out.frozenAt j))
        have HG := Lib.hid hg
        have HCELL := Lib.hid hcell
        have HZL2 := Lib.hid hzl
        clear b0 b1 b2 hg hcell hcap hzl
        go_wp2_with fail
        refine (H89.out).mono ?_
        rintro e w' ⟨rfl, qn, rfl⟩
        rw [List.take_of_length_le (by rw [HZL2.out]; exact Nat.le_refl _), HZM.out]
        have hml : M.length ≤ i := by
          have h1 := congrArg List.length HZM.out
          rw [List.length_map] at h1
          have h2 : (Lib.compact (Z.map Int.ofNat)).length ≤ (Z.map Int.ofNat).length := by
            unfold Lib.compact Lib.compactUpTo
            rw [List.length_map]
            have := List.length_filter_le (Lib.keeps (Z.map Int.ofNat).toArray) (List.range (Z.map Int.ofNat).length)
            rwa [List.length_range] at this
          rw [HZL2.out] at h2
          omega
        obtain ⟨vs9, HVS⟩ : ∃ vs9, Hid (vs9 = List.map (Value.int .i64) (M.map Int.ofNat ++ List.replicate (i - (M.map Int.ofNat).length) 0)) := ⟨_, Lib.hid rfl⟩
        have hvl : vs9.length = i := by rw [HVS.out, List.length_map, List.length_append, List.length_replicate, List.length_map]; omega
        have hthere : ∀ j, j < vs9.length → ((wr.drewN qn).cell? ⟨g, 0 + j, none⟩).isSome = true := fun j hj => by
          have h1 := HCELL.out j (by rw [HZL2.out, ← hvl]; exact hj)
          show ((wr.drewN qn).cell? ⟨g, 0 + j, none⟩).isSome = true
          have h2 : (wr.drewN qn).cell? ⟨g, 0 + j, none⟩ = wr.cell? ⟨g, 0 + j, none⟩ := by
            refine World.cell?_of_block ?_
            rw [World.heap_drewN]
          rw [h2, h1]; rfl
        have hin := World.cell?_setCells_in g vs9 0 (wr.drewN qn) hthere
        have hfin : Hid (MetPost w M (.returned (.slice (some ⟨g, 0, none⟩) M.length cv)) ((wr.drewN qn).setCells g 0 vs9)) := Lib.hid (by
          have hbd : Below w.heap.size w (wr.drewN qn) := HBW.out.trans ⟨rfl, rfl, rfl, Nat.le_refl _, fun _ _ => rfl⟩
          have hb9 := below_setCells (B := w.heap.size) (b := g) (a := w) HG.out.1 vs9 0 _ hbd
          refine ⟨hb9, some ⟨g, 0, none⟩, _, cv, rfl, rfl, ⟨fun z hz => ?_, .inr ⟨g, 0, rfl, ?_, fun j hj => ?_⟩⟩, fun b off e => by cases e; exact HG.out.1⟩
          · obtain ⟨x, hx, rfl⟩ := List.mem_map.1 hz
            have := HMB.out x hx
            exact ⟨by have := Int.natCast_nonneg x; show _ ≤ ((x : Nat) : Int); omega, by show ((x : Nat) : Int) ≤ _; omega⟩
          · exact Nat.lt_of_lt_of_le (Array.getElem?_eq_some_iff.1 HG.out.2).1 (Nat.le_trans (by simp) (below_setCells (B := 0) (b := g) (a := wr.drewN qn) (Nat.zero_le _) vs9 0 _ (Below.refl 0 _)).size)
          · rw [List.length_map] at hj
            have h1 := hin j (by rw [hvl]; omega)
            rw [h1]
            have h2 : vs9[j]'(by rw [hvl]; omega) = .int .i64 ((M.map Int.ofNat).getD j 0) := by
              simp only [HVS.out]
              rw [List.getElem_map, List.getElem_append_left (by rw [List.length_map]; exact hj), List.getD_eq_getElem?_getD, List.getElem?_eq_getElem (by rw [List.length_map]; exact hj)]
              rfl
            rw [h2])
        rw [← HVS.out]
        clear hml hvl hthere hin
        go_wp2_with fail
        go_ret
        exact hfin.out
end Go.Proofs.YtigidchicloleaaGreatDoor.Arr
