/- Fill: what functions leave that answer an array; the program's Fill. -/
import Derived.Test.YtigidchicloleaaGreatDoorHB
import Derived.Laws.ResultCell
set_option maxHeartbeats 4000000
set_option maxRecDepth 100000
namespace Go.Proofs.YtigidchicloleaaGreatDoor.Arr
open Go.RowKit Go.Shelf
open Go.Lib
attribute [local go_sem] Oper.semAt_some
def ArrPost (w : World) (z : Int) (s1 : List Nat) (l1 : List (List UInt8)) (e : Ending) (w' : World) : Prop :=
  Below w.heap.size w w' ∧ ∃ (q1 q2 : Option Addr) (n1 d1 m1 d2 : Nat), e = .returned (.tuple #[.agg #[.slice q1 n1 d1, .slice q2 m1 d2], .int .i64 z]) ∧ s1.length = n1 ∧ l1.length = m1 ∧ RdN w' q1 s1 ∧ RdS w' q2 l1
theorem arr_no {w w' : World} {z : Int} (h : Below w.heap.size w w') : ArrPost w z [] [] (.returned (.tuple #[.agg #[.slice none 0 0, .slice none 0 0], .int .i64 z])) w' :=
  ⟨h, none, none, 0, 0, 0, 0, rfl, rfl, rfl, ⟨fun z hz => (by cases hz), .inl rfl⟩, .inl rfl⟩
def fillV (s : List Int) (v : List UInt8) : Int × List Nat × List (List UInt8) :=
  if vs s = false then (60, [], []) else if isV v = false then (2, [], []) else (0, s.map Int.toNat, List.replicate (prod (s.map Int.toNat)) v)
theorem hent47 : ∀ args W, (callFunc 50 args).run Tryz.prog W = .ok (.enter 50 args) W := by
  intro args W
  have h1 : ¬ Tryz.f50.name = "runtime.NumGoroutine" := of_decide_eq_false (by kernel_rfl)
  have h2 : ¬ Tryz.f50.body = none := fun h => by
    have h3 : Tryz.f50.body.isNone = false := by kernel_rfl
    rw [h] at h3; cases h3
  simp [callFunc, h1, h2]
theorem fill1_any (A g n : Nat) (v : List UInt8) (W : World) (h : W.heap[A]? = some (.cells #[.string ⟨List.toArray v⟩] 9 (0, 0))) :
    Calls Tryz.prog 50 #[.slice (some ⟨g, 0, none⟩) n n, .pointer (some ⟨A, 0, none⟩)] W fun e W' => W = W' ∧ e = .returned (.string ⟨List.toArray v⟩) := by
  have hc : W.cell? ⟨A, 0, none⟩ = some (.string ⟨List.toArray v⟩) := by simp [World.cell?, h]
  clear h
  go_enter Tryz.func50, Tryz.ntmps50
  go_wp2_with fail
  go_ret
  exact ⟨rfl, rfl⟩
theorem map_const_range (N : Nat) (v : List UInt8) : (List.range N).map (fun _ => v) = List.replicate N v := by
  rw [List.eq_replicate_iff]
  exact ⟨by simp, fun b hb => by obtain ⟨_, _, e⟩ := List.mem_map.1 hb; exact e.symm⟩
theorem fill_any (p : Option Addr) (c n : Nat) (s : List Int) (v : List UInt8) (w : World) (he : Env w) (hs : Hid (s.length = n)) (hp : Rd w p s) :
    Calls Tryz.prog 15 #[.slice p n c, .string ⟨List.toArray v⟩] w (ArrPost w (fillV s v).1 (fillV s v).2.1 (fillV s v).2.2) := by
  have HP := Lib.hid hp
  have HE := Lib.hid he
  obtain ⟨A, HA⟩ : ∃ A, Hid (A = w.heap.size) := ⟨_, Lib.hid rfl⟩
  obtain ⟨W0, HW0⟩ : ∃ W0, Hid ((w.alloc (.cells #[.string ⟨List.toArray v⟩] 9)).alloc (.cells #[.slice none 0 0, .slice none 0 0] 25) = W0) := ⟨_, Lib.hid rfl⟩
  have HB0 : Hid (Below w.heap.size w W0) := Lib.hid (by rw [← HW0.out]; exact ((Below.refl _ w).alloc (Nat.le_refl _) _).alloc (by simp) _)
  have HRB : Hid (w.heap.size ≤ A + 1) := Lib.hid (by rw [HA.out]; omega)
  have HS0 : Hid (W0.heap.size = A + 1 + 1) := Lib.hid (by rw [← HW0.out, HA.out]; simp)
  have HA0 : Hid (W0.heap[A]? = some (.cells #[.string ⟨List.toArray v⟩] 9 (0, 0))) := Lib.hid (by
    rw [← HW0.out, HA.out, (Below.alloc (Below.refl (w.alloc (.cells #[.string ⟨List.toArray v⟩] 9)).heap.size _) (Nat.le_refl _) _).block w.heap.size (by simp)]
    exact World.alloc_heap_new w _)
  have HA1 : Hid (W0.heap[A + 1]? = some (.cells #[.slice none 0 0, .slice none 0 0] 25 (0, 0))) := Lib.hid (by
    rw [← HW0.out, HA.out, show w.heap.size + 1 = (w.alloc (.cells #[.string ⟨List.toArray v⟩] 9)).heap.size by simp]
    exact World.alloc_heap_new _ _)
  have H18 : Hid (Calls Tryz.prog 19 #[.slice p n c] W0 fun e w' => W0 = w' ∧ e = .returned (.bool (vs s))) := Lib.hid (by
    have := vshape_any p c s W0 (HP.out.below HB0.out)
    rwa [hs.out] at this)
  clear hp he
  by_cases hv : vs s = false
  · have e0 : fillV s v = (60, [], []) := by unfold fillV; rw [if_pos hv]
    rw [e0]
    rw [hv] at H18
    clear hv e0
    have HBk := HB0
    go_enter Tryz.func15, Tryz.ntmps15
    go_wp2_with fail
    rw [HW0.out, ← HA.out]
    refine (H18.out).mono ?_
    rintro e w1 ⟨rfl, rfl⟩
    have y1 := HA1.out
    have r0 : W0.cell? ⟨A + 1, 0, none⟩ = some (.slice none 0 0) := by simp [World.cell?, y1]
    have r1 : W0.cell? ⟨A + 1, 1, none⟩ = some (.slice none 0 0) := by simp [World.cell?, y1]
    have z0 : W0.frozen? ⟨A + 1, 0, none⟩ = false := by simp [World.frozen?, y1]
    have z1 : W0.frozen? ⟨A + 1, 1, none⟩ = false := by simp [World.frozen?, y1]
    have hE1 := heap_set W0 (A + 1) 0 (.slice none 0 0) _ _ y1
    have hE2 := heap_set _ (A + 1) 1 (.slice none 0 0) _ _ hE1
    obtain ⟨W7, hW7⟩ : ∃ W7, (W0.setCell ⟨A + 1, 0, none⟩ (.slice none 0 0)).setCell ⟨A + 1, 1, none⟩ (.slice none 0 0) = W7 := ⟨_, rfl⟩
    rw [hW7] at hE2
    have k0 : W7.cell? ⟨A + 1, 0, none⟩ = some (.slice none 0 0) := by simp [World.cell?, hE2]
    have k1 : W7.cell? ⟨A + 1, 1, none⟩ = some (.slice none 0 0) := by simp [World.cell?, hE2]
    have HFIN : Hid (ArrPost w 60 [] [] (.returned (.tuple #[.agg #[.slice none 0 0, .slice none 0 0], .int .i64 60])) W7) := Lib.hid (arr_no (by
      rw [← hW7]
      exact (HBk.out.setCell (p := ⟨A + 1, 0, none⟩) HRB.out _).setCell (p := ⟨A + 1, 1, none⟩) HRB.out _))
    clear hE1 hE2 y1
    go_wp2_with fail
    (try simp only [Exit.inBlock, Exit.then])
    refine bodyPost_ret (v := .tuple #[.agg #[.slice none 0 0, .slice none 0 0], .int .i64 60]) ?_ rfl HFIN.out
    rw [results_cell_tmp rfl]
    go_simp
  have hv2 : vs s = true := by simpa using hv
  rw [hv2] at H18
  obtain ⟨u, HU⟩ : ∃ u, Hid (u = isV v) := ⟨_, rfl⟩
  have H45 : Hid (Calls Tryz.prog 48 #[.string ⟨List.toArray v⟩] W0 fun e w' => Below W0.heap.size W0 w' ∧ e = .returned (.bool u)) := Lib.hid (by rw [HU.out]; exact isvalue_any v W0 (HE.out.below HB0.out))
  have cA : W0.cell? ⟨A, 0, none⟩ = some (.string ⟨List.toArray v⟩) := by simp [World.cell?, HA0.out]
  by_cases hu : u = false
  · subst hu
    have e0 : fillV s v = (2, [], []) := by unfold fillV; rw [if_neg hv, if_pos HU.out.symm]
    rw [e0]
    clear hv hv2 e0
    go_enter Tryz.func15, Tryz.ntmps15
    go_wp2_with fail
    rw [HW0.out, ← HA.out]
    refine (H18.out).mono ?_
    rintro e w1 ⟨rfl, rfl⟩
    go_wp2_with fail
    refine (H45.out).mono ?_
    rintro e w1 ⟨hb1, rfl⟩
    have HBk : Hid (Below w.heap.size w w1) := Lib.hid (HB0.out.trans (hb1.mono HB0.out.size))
    have y1 : w1.heap[A + 1]? = some (.cells #[.slice none 0 0, .slice none 0 0] 25 (0, 0)) := (hb1.block (A + 1) (by rw [HS0.out]; omega)).trans HA1.out
    clear hb1 cA
    have r0 : w1.cell? ⟨A + 1, 0, none⟩ = some (.slice none 0 0) := by simp [World.cell?, y1]
    have r1 : w1.cell? ⟨A + 1, 1, none⟩ = some (.slice none 0 0) := by simp [World.cell?, y1]
    have z0 : w1.frozen? ⟨A + 1, 0, none⟩ = false := by simp [World.frozen?, y1]
    have z1 : w1.frozen? ⟨A + 1, 1, none⟩ = false := by simp [World.frozen?, y1]
    have hE1 := heap_set w1 (A + 1) 0 (.slice none 0 0) _ _ y1
    have hE2 := heap_set _ (A + 1) 1 (.slice none 0 0) _ _ hE1
    obtain ⟨W7, hW7⟩ : ∃ W7, (w1.setCell ⟨A + 1, 0, none⟩ (.slice none 0 0)).setCell ⟨A + 1, 1, none⟩ (.slice none 0 0) = W7 := ⟨_, rfl⟩
    rw [hW7] at hE2
    have k0 : W7.cell? ⟨A + 1, 0, none⟩ = some (.slice none 0 0) := by simp [World.cell?, hE2]
    have k1 : W7.cell? ⟨A + 1, 1, none⟩ = some (.slice none 0 0) := by simp [World.cell?, hE2]
    have HFIN : Hid (ArrPost w 2 [] [] (.returned (.tuple #[.agg #[.slice none 0 0, .slice none 0 0], .int .i64 2])) W7) := Lib.hid (arr_no (by
      rw [← hW7]
      exact (HBk.out.setCell (p := ⟨A + 1, 0, none⟩) HRB.out _).setCell (p := ⟨A + 1, 1, none⟩) HRB.out _))
    clear hE1 hE2 y1
    go_wp2_with fail
    (try simp only [Exit.inBlock, Exit.then])
    refine bodyPost_ret (v := .tuple #[.agg #[.slice none 0 0, .slice none 0 0], .int .i64 2]) ?_ rfl HFIN.out
    rw [results_cell_tmp rfl]
    go_simp
  obtain rfl : u = true := by simpa using hu
  obtain ⟨s0, rfl, hsh⟩ := vs_yes hv2
  obtain ⟨N, HN⟩ : ∃ N, Hid (N = prod s0) := ⟨_, rfl⟩
  have hsn : s0.length = n := by rw [← hs.out, List.length_map]
  have hn4 : n ≤ 4 := by rw [← hsn]; exact hsh.1
  have hN4 : N ≤ 4096 := by rw [HN.out]; exact hsh.2.2
  have e0 : fillV (s0.map Int.ofNat) v = (0, s0, List.replicate N v) := by unfold fillV; rw [if_neg hv, if_neg (by rw [← HU.out]; simp), toNat_map, HN.out]
  rw [e0]
  have HSN := Lib.hid hsn
  have HSB : Hid (∀ x ∈ s0, x ≤ 1024) := Lib.hid hsh.2.1
  have HN4 := Lib.hid hN4
  clear hv hv2 e0 hsh hsn hN4
  go_enter Tryz.func15, Tryz.ntmps15
  go_wp2_with fail
  rw [HW0.out, ← HA.out]
  refine (H18.out).mono ?_
  rintro e w1 ⟨rfl, rfl⟩
  go_wp2_with fail
  refine (H45.out).mono ?_
  rintro e w1 ⟨hb1, rfl⟩
  have HB1 : Hid (Below w.heap.size w w1) := Lib.hid (HB0.out.trans (hb1.mono HB0.out.size))
  have HX1 : Hid (w1.heap[A]? = some (.cells #[.string ⟨List.toArray v⟩] 9 (0, 0))) := Lib.hid ((hb1.block A (by rw [HS0.out]; omega)).trans HA0.out)
  have HY1 : Hid (w1.heap[A + 1]? = some (.cells #[.slice none 0 0, .slice none 0 0] 25 (0, 0))) := Lib.hid ((hb1.block (A + 1) (by rw [HS0.out]; omega)).trans HA1.out)
  have HS1 : Hid (A + 1 + 1 ≤ w1.heap.size) := Lib.hid (by rw [← HS0.out]; exact hb1.size)
  clear hb1 cA
  have H46 : Hid (Calls Tryz.prog 49 #[.slice p n c, .func (.func 50) #[] #[.pointer (some ⟨A, 0, none⟩)]] w1 (BuildPost w1 n N s0 (fun _ => v) none (fun W => W.heap[A]? = some (.cells #[.string ⟨List.toArray v⟩] 9 (0, 0))))) := Lib.hid (by
    refine build_any p c n N 50 _ s0 _ none _ w1 hn4 HSN HSB HN HN4.out (HP.out.below HB1.out) (fun r e => by cases e) (fun b off e _ e2 => by cases e2) hent47 HX1.out (fun X Y r hX hg hr => ?_) ?_
    · have hlt := (Array.getElem?_eq_some_iff.1 hX).1
      exact (hg.block A hlt (by intro e; have := hr A e.symm; have := HS1.out; omega)).trans hX
    · intro i g W _ hW _ _
      refine (fill1_any A g n v W hW).mono ?_
      rintro e W' ⟨rfl, rfl⟩
      exact ⟨rfl, ⟨rfl, rfl, rfl, Nat.le_refl _, fun _ _ _ => rfl⟩, KeepsOthers.refl _, hW⟩)
  go_wp2_with fail
  refine (H46.out).mono ?_
  rintro e w6 ⟨hg6, -, q', d', V, rfl, hr1, hr2, hr3, hr4, hr5, hr6⟩
  have hs1 := HS1.out
  have hA := HA.out
  have y6 : w6.heap[A + 1]? = some (.cells #[.slice none 0 0, .slice none 0 0] 25 (0, 0)) := (hg6.block (A + 1) (by omega) (by intro e; cases e)).trans HY1.out
  have r0 : w6.cell? ⟨A + 1, 0, none⟩ = some (.slice none 0 0) := by simp [World.cell?, y6]
  have r1 : w6.cell? ⟨A + 1, 1, none⟩ = some (.slice none 0 0) := by simp [World.cell?, y6]
  have z0 : w6.frozen? ⟨A + 1, 0, none⟩ = false := by simp [World.frozen?, y6]
  have z1 : w6.frozen? ⟨A + 1, 1, none⟩ = false := by simp [World.frozen?, y6]
  have hE1 := heap_set w6 (A + 1) 0 (.slice q' n d') _ _ y6
  have hE2 := heap_set _ (A + 1) 1 (.slice (some ⟨V, 0, none⟩) N N) _ _ hE1
  obtain ⟨W7, hW7⟩ : ∃ W7, (w6.setCell ⟨A + 1, 0, none⟩ (.slice q' n d')).setCell ⟨A + 1, 1, none⟩ (.slice (some ⟨V, 0, none⟩) N N) = W7 := ⟨_, rfl⟩
  rw [hW7] at hE2
  have k0 : W7.cell? ⟨A + 1, 0, none⟩ = some (.slice q' n d') := by simp [World.cell?, hE2]
  have k1 : W7.cell? ⟨A + 1, 1, none⟩ = some (.slice (some ⟨V, 0, none⟩) N N) := by simp [World.cell?, hE2]
  have hg67 : w6.grownBy W7 (some (A + 1)) := by rw [← hW7]; exact (gb_set _ _ _ _).trans (gb_set _ _ _ _)
  have HFIN : Hid (ArrPost w 0 s0 (List.replicate N v) (.returned (.tuple #[.agg #[.slice q' n d', .slice (some ⟨V, 0, none⟩) N N], .int .i64 0])) W7) := Lib.hid (by
      have o2 : w.grownBy W7 none := gb_trans_new ((gb_of_below HB1.out none).trans hg6) hg67 HRB.out
      refine ⟨⟨o2.os, o2.tape, o2.output, o2.size, fun k hk => o2.block k hk (by intro e; cases e)⟩, q', _, n, d', N, N, rfl, HSN.out, by rw [List.length_replicate], ?_, ?_⟩
      · refine hr1.keep hg67.size (fun b off e h0 => ?_)
        obtain ⟨b', off', x, e', hb', -⟩ := hr1.at h0
        rw [e] at e'; cases e'
        exact hg67.block b hb' (by intro e2; injection e2 with e2; have := hr4 b off e; omega)
      · rw [← map_const_range]
        refine hr5.keep hg67.size (fun b off e h0 => ?_)
        obtain ⟨b', off', x, e', hb', -⟩ := hr5.at h0
        rw [e] at e'; cases e'
        cases e
        exact hg67.block V hb' (by intro e2; injection e2 with e2; omega))
  clear hr1 hr2 hr3 hr4 hr5 hr6 hg6 hg67 hE1 hE2 y6 H46 hs1 hA
  go_wp2_with fail
  (try simp only [Exit.inBlock, Exit.then])
  refine bodyPost_ret (v := .tuple #[.agg #[.slice q' n d', .slice (some ⟨V, 0, none⟩) N N], .int .i64 0]) ?_ rfl HFIN.out
  rw [results_cell_tmp rfl]
  go_simp
end Go.Proofs.YtigidchicloleaaGreatDoor.Arr
