/- spread. -/
import Derived.Test.YtaldangjhdddoaaGreatDoorIC
set_option maxHeartbeats 4000000
set_option maxRecDepth 100000
namespace Go.Proofs.YtaldangjhdddoaaGreatDoor.Arr
open Go.RowKit Go.Shelf
open Go.Lib
attribute [local go_sem] Oper.semAt_some
def sprV (s t axes : List Nat) (l : List (List UInt8)) : List (List UInt8) := (List.range (prod t)).map (fun i => l.getD (plc s (pk (ixOf t i) axes) 0) [])
def SpreadPost (w : World) (k : Nat) (t : List Nat) (V0 : List (List UInt8)) (e : Ending) (w' : World) : Prop :=
  Below w.heap.size w w' ∧ ∃ q d V, e = .returned (.agg #[.slice q k d, .slice (some ⟨V, 0, none⟩) (prod t) (prod t)]) ∧ RdN w' q t ∧ k ≤ d ∧ (q = none → d = 0) ∧ (∀ b off, q = some ⟨b, off, none⟩ → w.heap.size ≤ b) ∧ RdS w' (some ⟨V, 0, none⟩) V0 ∧ w.heap.size ≤ V
theorem hent91 : ∀ args W, (callFunc 91 args).run Tryz.prog W = .ok (.enter 91 args) W := by
  intro args W
  have h1 : ¬ Tryz.f91.name = "runtime.NumGoroutine" := of_decide_eq_false (by kernel_rfl)
  have h2 : ¬ Tryz.f91.body = none := fun h => by
    have h3 : Tryz.f91.body.isNone = false := by kernel_rfl
    rw [h] at h3; cases h3
  simp [callFunc, h1, h2]
theorem spread_any (p q xq yq : Option Addr) (c d n m k cx cy : Nat) (s t axes : List Nat) (l : List (List UInt8)) (w : World) (hn : n ≤ 4) (hm : m ≤ 5000) (hs : Hid (s.length = n)) (hsb : Hid (∀ x ∈ s, x ≤ 1024)) (h4 : prod s ≤ 4096) (hl : Hid (l.length = m)) (hmp : Hid (m = prod s)) (hk : k ≤ 4) (ht : Hid (t.length = k)) (htb : Hid (∀ x ∈ t, x ≤ 1024)) (ht4 : prod t ≤ 4096) (hal : Hid (axes.length = n)) (hab : Hid (∀ x ∈ axes, x < k)) (hpk : Hid (pk t axes = s))
    (hp : RdN w p s) (hq : RdS w q l) (hx : RdN w xq axes) (hy : RdN w yq t) :
    Calls Tryz.prog 78 #[.agg #[.slice p n c, .slice q m d], .slice xq n cx, .slice yq k cy] w (SpreadPost w k t (sprV s t axes l)) := by
  have HP := Lib.hid hp
  have HQ := Lib.hid hq
  have HX := Lib.hid hx
  have HY := Lib.hid hy
  have hni : (n : Int) ≤ 4 := by omega
  have hki : (k : Int) ≤ 4 := by omega
  have hmk := fun W => make_ints n (by omega) W
  obtain ⟨A, HA⟩ : ∃ A, Hid (A = w.heap.size) := ⟨_, Lib.hid rfl⟩
  obtain ⟨W4, HW4⟩ : ∃ W4, Hid (((((w.alloc (.cells #[.slice p n c, .slice q m d] 25)).alloc (.cells #[.slice xq n cx] 22)).alloc (.cells #[.slice none 0 0, .slice none 0 0] 25)).alloc (.cells (ixC (zn n)) 3)).alloc (.cells #[.slice (some ⟨A + 1 + 1 + 1, 0, none⟩) n n] 22) = W4) := ⟨_, Lib.hid rfl⟩
  have HB4 : Hid (Below w.heap.size w W4) := Lib.hid (by
    rw [← HW4.out]
    exact (((((Below.refl _ w).alloc (Nat.le_refl _) _).alloc (by simp) _).alloc (by simp; omega) _).alloc (by simp; omega) _).alloc (by simp; omega) _)
  have hs4 : W4.heap.size = A + 5 := by rw [← HW4.out, HA.out]; simp
  have b0 : W4.heap[A]? = some (.cells #[.slice p n c, .slice q m d] 25 (0, 0)) := by
    rw [← HW4.out, HA.out]; simp only [World.alloc, Array.getElem?_push, Array.size_push]
    repeat' (first | rw [if_pos (by omega)] | rw [if_neg (by omega)] | rfl)
  have b1 : W4.heap[A + 1]? = some (.cells #[.slice xq n cx] 22 (0, 0)) := by
    rw [← HW4.out, HA.out]; simp only [World.alloc, Array.getElem?_push, Array.size_push]
    repeat' (first | rw [if_pos (by omega)] | rw [if_neg (by omega)] | rfl)
  have b2 : W4.heap[A + 1 + 1]? = some (.cells #[.slice none 0 0, .slice none 0 0] 25 (0, 0)) := by
    rw [← HW4.out, HA.out]; simp only [World.alloc, Array.getElem?_push, Array.size_push]
    repeat' (first | rw [if_pos (by omega)] | rw [if_neg (by omega)] | rfl)
  have b3 : W4.heap[A + 1 + 1 + 1]? = some (.cells (ixC (zn n)) 3 (0, 0)) := by
    rw [← HW4.out, HA.out]; simp only [World.alloc, Array.getElem?_push, Array.size_push]
    repeat' (first | rw [if_pos (by omega)] | rw [if_neg (by omega)] | rfl)
  have b4 : W4.heap[A + 1 + 1 + 1 + 1]? = some (.cells #[.slice (some ⟨A + 1 + 1 + 1, 0, none⟩) n n] 22 (0, 0)) := by
    rw [← HW4.out, HA.out]; simp only [World.alloc, Array.getElem?_push, Array.size_push]
    repeat' (first | rw [if_pos (by omega)] | rw [if_neg (by omega)] | rfl)
  have HSP : Hid (Sp W4.heap.size A (A + 1) (A + 1 + 1 + 1 + 1) (A + 1 + 1 + 1) n m c d cx p q xq s axes l W4) := Lib.hid (by
    have h0 := HA.out
    refine ⟨b0, b1, b4, ⟨zn n, by simp [zn], b3⟩, HP.out.below HB4.out, HQ.out.below HB4.out, HX.out.below HB4.out, by omega, fun b off e h0 => ?_, fun b off e h0 => ?_, fun b off e h0 => ?_⟩
    · obtain ⟨b', off', x, e', hb', -⟩ := HP.out.at h0
      rw [e] at e'; cases e'; omega
    · obtain ⟨b', off', x, e', hb', -⟩ := HQ.out.at h0
      rw [e] at e'; cases e'; omega
    · obtain ⟨b', off', x, e', hb', -⟩ := HX.out.at h0
      rw [e] at e'; cases e'; omega)
  have HAW : Hid (w.heap.size ≤ A) := Lib.hid (by rw [HA.out]; exact Nat.le_refl _)
  have HS4 := Lib.hid hs4
  have Hb2 := Lib.hid b2
  have H46 : Hid (Calls Tryz.prog 46 #[.slice yq k cy, .func (.func 91) #[] #[.pointer (some ⟨A + 1, 0, none⟩), .pointer (some ⟨A + 1 + 1 + 1 + 1, 0, none⟩), .pointer (some ⟨A, 0, none⟩)]] W4 (BuildPost W4 k (prod t) t (fun i => l.getD (plc s (pk (ixOf t i) axes) 0) []) (some (A + 1 + 1 + 1)) (Sp W4.heap.size A (A + 1) (A + 1 + 1 + 1 + 1) (A + 1 + 1 + 1) n m c d cx p q xq s axes l))) := Lib.hid (by
    refine build_any yq cy k (prod t) 91 _ t _ (some (A + 1 + 1 + 1)) _ W4 hk ht htb (Lib.hid rfl) ht4 (HY.out.below HB4.out) (fun r e => by cases e; omega) (fun b off e h0 => ?_) hent91 HSP.out (fun X Y r hX hg hr => hX.above hg hr) ?_
    · obtain ⟨b', off', x, e', hb', -⟩ := HY.out.at (k := 0) (by rw [ht.out]; exact h0)
      rw [e] at e'; cases e'
      have := HA.out
      intro e2; injection e2 with e2; omega
    · intro i g' W hi hW hg' hg0
      exact (spread1_any W4.heap.size A (A + 1) (A + 1 + 1 + 1 + 1) (A + 1 + 1 + 1) n m k c d cx k g' p q xq s t axes (ixOf t i) l W hn hm hs hsb h4 hl hmp hk ht hal hab hpk (Lib.hid (ixOf_is t i hi).1) hW hg' hg0).mono (fun e W' ⟨h1, h2, h3, h4⟩ => ⟨h1, h2, h3, h4⟩))
  clear b0 b1 b2 b3 b4 hs4 hp hq hx hy
  go_enter Tryz.func78, Tryz.ntmps78
  go_wp2_with fail
  rw [← HA.out, HW4.out]
  refine (H46.out).mono ?_
  rintro e w6 ⟨hg6, -, q', d', V, rfl, hr1, hr2, hr3, hr4, hr5, hr6⟩
  have hsz := HS4.out
  have hAw := HAW.out
  have y6 : w6.heap[A + 1 + 1]? = some (.cells #[.slice none 0 0, .slice none 0 0] 25 (0, 0)) := (hg6.block (A + 1 + 1) (by omega) (by intro e; injection e with e; omega)).trans Hb2.out
  have r0 : w6.cell? ⟨A + 1 + 1, 0, none⟩ = some (.slice none 0 0) := by simp [World.cell?, y6]
  have r1 : w6.cell? ⟨A + 1 + 1, 1, none⟩ = some (.slice none 0 0) := by simp [World.cell?, y6]
  have z0 : w6.frozen? ⟨A + 1 + 1, 0, none⟩ = false := by simp [World.frozen?, y6]
  have z1 : w6.frozen? ⟨A + 1 + 1, 1, none⟩ = false := by simp [World.frozen?, y6]
  have hE1 := heap_set w6 (A + 1 + 1) 0 (.slice q' k d') _ _ y6
  have hE2 := heap_set _ (A + 1 + 1) 1 (.slice (some ⟨V, 0, none⟩) (prod t) (prod t)) _ _ hE1
  obtain ⟨W7, hW7⟩ : ∃ W7, (w6.setCell ⟨A + 1 + 1, 0, none⟩ (.slice q' k d')).setCell ⟨A + 1 + 1, 1, none⟩ (.slice (some ⟨V, 0, none⟩) (prod t) (prod t)) = W7 := ⟨_, rfl⟩
  rw [hW7] at hE2
  have k0 : W7.cell? ⟨A + 1 + 1, 0, none⟩ = some (.slice q' k d') := by simp [World.cell?, hE2]
  have k1 : W7.cell? ⟨A + 1 + 1, 1, none⟩ = some (.slice (some ⟨V, 0, none⟩) (prod t) (prod t)) := by simp [World.cell?, hE2]
  have hg67 : w6.grownBy W7 (some (A + 1 + 1)) := by rw [← hW7]; exact (gb_set _ _ _ _).trans (gb_set _ _ _ _)
  have HFIN : Hid (SpreadPost w k t (sprV s t axes l) (.returned (.agg #[.slice q' k d', .slice (some ⟨V, 0, none⟩) (prod t) (prod t)])) W7) := Lib.hid (by
    have o1 := gb_trans_new (gb_of_below HB4.out none) hg6 (by omega)
    have o2 := gb_trans_new o1 hg67 (by omega)
    refine ⟨⟨o2.os, o2.tape, o2.output, o2.size, fun k hk => o2.block k hk (by intro e; cases e)⟩, q', d', V, rfl, ?_, hr2, hr3, fun b off e => Nat.le_trans (by omega) (hr4 b off e), ?_, by omega⟩
    · refine hr1.keep hg67.size (fun b off e h0 => ?_)
      obtain ⟨b', off', x, e', hb', -⟩ := hr1.at h0
      rw [e] at e'; cases e'
      exact hg67.block b hb' (by intro e2; injection e2 with e2; have := hr4 b off e; omega)
    · refine hr5.keep hg67.size (fun b off e h0 => ?_)
      obtain ⟨b', off', x, e', hb', -⟩ := hr5.at h0
      rw [e] at e'; cases e'
      cases e
      exact hg67.block V hb' (by intro e2; injection e2 with e2; omega))
  clear hr1 hr2 hr3 hr4 hr5 hr6 hg6 hg67 hE1 hE2 y6 hsz hAw H46 HSP hmk
  go_wp2_with fail
  (try simp only [Exit.inBlock, Exit.then])
  refine bodyPost_ret (v := .agg #[.slice q' k d', .slice (some ⟨V, 0, none⟩) (prod t) (prod t)]) ?_ rfl HFIN.out
  simp [results, Tryz.f78, go_sem, k0, k1]
end Go.Proofs.YtaldangjhdddoaaGreatDoor.Arr
