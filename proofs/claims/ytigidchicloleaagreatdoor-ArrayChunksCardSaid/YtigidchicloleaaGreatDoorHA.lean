/- sane: the laws' own trial. -/
import Derived.Test.YtigidchicloleaaGreatDoorGQ
import Derived.Laws.ResultCell
set_option maxHeartbeats 4000000
set_option maxRecDepth 100000
namespace Go.Proofs.YtigidchicloleaaGreatDoor.Arr
open Go.RowKit Go.Shelf
open Go.Lib
attribute [local go_sem] Oper.semAt_some
def sS : List Nat := [2, 3]
def sL : List (List UInt8) := [[49], [50], [51], [52], [53], [54]]
def sC : List (Int × Int × Int) := [(0, 2, 1), (0, 2, 2)]
theorem s_valid : validA (sS.map Int.ofNat) sL = true := by kernel_rfl
theorem s_slab : slabOk sS sC = true := by kernel_rfl
theorem s_val : sliceV sS sL sC = [[49], [51], [52], [54]] := by kernel_rfl
theorem s_prod : prod (cnts sC) = 4 := by kernel_rfl
theorem sane_any (w : World) (he : Env w) :
    Calls Tryz.prog 14 #[] w fun e w' => Below w.heap.size w w' ∧ e = .returned (.bool true) := by
  have HE := Lib.hid he
  clear he
  go_enter Tryz.func14, Tryz.ntmps14
  go_wp2_with fail
  obtain ⟨A, HA⟩ : ∃ A, Hid (A = w.heap.size) := ⟨_, Lib.hid rfl⟩
  obtain ⟨W0, HW0⟩ : ∃ W0, Hid ((((w.alloc (.cells #[.int .i64 2, .int .i64 3] 3)).alloc (.cells #[.string ⟨#[49]⟩, .string ⟨#[50]⟩, .string ⟨#[51]⟩, .string ⟨#[52]⟩, .string ⟨#[53]⟩, .string ⟨#[54]⟩] 9)).alloc (.cells #[.slice (some ⟨w.heap.size, 0, none⟩) 2 2, .slice (some ⟨w.heap.size + 1, 0, none⟩) 6 6] 25)).alloc (.cells #[.int .i64 0, .int .i64 2, .int .i64 1, .int .i64 0, .int .i64 2, .int .i64 2] 66) = W0) := ⟨_, Lib.hid rfl⟩
  have HB0 : Hid (Below w.heap.size w W0) := Lib.hid (by rw [← HW0.out]; exact ((((Below.refl _ w).alloc (Nat.le_refl _) _).alloc (by simp) _).alloc (by simp; omega) _).alloc (by simp; omega) _)
  have b0 : W0.heap[w.heap.size]? = some (.cells #[.int .i64 2, .int .i64 3] 3 (0, 0)) := by
    rw [← HW0.out]; simp only [World.alloc, Array.getElem?_push, Array.size_push]
    repeat' (first | rw [if_pos (by omega)] | rw [if_neg (by omega)] | rfl)
  have b1 : W0.heap[w.heap.size + 1]? = some (.cells #[.string ⟨#[49]⟩, .string ⟨#[50]⟩, .string ⟨#[51]⟩, .string ⟨#[52]⟩, .string ⟨#[53]⟩, .string ⟨#[54]⟩] 9 (0, 0)) := by
    rw [← HW0.out]; simp only [World.alloc, Array.getElem?_push, Array.size_push]
    repeat' (first | rw [if_pos (by omega)] | rw [if_neg (by omega)] | rfl)
  have b3 : W0.heap[w.heap.size + 1 + 1 + 1]? = some (.cells #[.int .i64 0, .int .i64 2, .int .i64 1, .int .i64 0, .int .i64 2, .int .i64 2] 66 (0, 0)) := by
    rw [← HW0.out]; simp only [World.alloc, Array.getElem?_push, Array.size_push]
    repeat' (first | rw [if_pos (by omega)] | rw [if_neg (by omega)] | rfl)
  have sz : ∀ {k : Nat} {o : Obj}, W0.heap[k]? = some o → k < W0.heap.size := fun hh => (Array.getElem?_eq_some_iff.1 hh).1
  have r0 : RdN W0 (some ⟨w.heap.size, 0, none⟩) sS := ⟨fun z hz => by
      simp only [sS, List.map_cons, List.map_nil, List.mem_cons, List.not_mem_nil, or_false] at hz
      rcases hz with rfl | rfl <;> decide, .inr ⟨_, _, rfl, sz b0, fun j hj => by
      have hj2 : j < 2 := hj
      have e : j = 0 ∨ j = 1 := by omega
      rcases e with rfl | rfl <;> simp [World.cell?, b0, sS]⟩⟩
  have r1 : RdS W0 (some ⟨w.heap.size + 1, 0, none⟩) sL := .inr ⟨_, _, rfl, sz b1, fun j hj => by
      have hj2 : j < 6 := hj
      have e : j = 0 ∨ j = 1 ∨ j = 2 ∨ j = 3 ∨ j = 4 ∨ j = 5 := by omega
      rcases e with rfl | rfl | rfl | rfl | rfl | rfl <;> simp [World.cell?, b1, sL]⟩
  have r3 : RdC W0 (some ⟨w.heap.size + 1 + 1 + 1, 0, none⟩) sC := ⟨fun z hz => by
      simp only [sC, List.mem_cons, List.not_mem_nil, or_false] at hz
      rcases hz with rfl | rfl <;> decide, .inr ⟨_, _, rfl, sz b3, fun j hj => by
      have hj2 : j < 2 := hj
      have e : j = 0 ∨ j = 1 := by omega
      rcases e with rfl | rfl <;> simp [World.cell?, b3, sC]⟩⟩
  have hsh : Shp sS := by unfold Shp; decide
  have H23 := Lib.hid (slice_yes (some ⟨w.heap.size, 0, none⟩) (some ⟨w.heap.size + 1, 0, none⟩) (some ⟨w.heap.size + 1 + 1 + 1, 0, none⟩) 2 6 2 6 2 sS sC sL W0 (HE.out.below HB0.out) (Lib.hid rfl) (Lib.hid rfl) (by omega) (Lib.hid hsh) r0 r1 r3 s_valid (Lib.hid s_slab))
  clear b0 b1 b3 r0 r1 r3
  rw [HW0.out]
  refine (H23.out).mono ?_
  rintro e w1 ⟨hb1, q, d, V, rfl, -, -, -, -, hv, hV⟩
  rw [s_prod]
  rw [s_val] at hv
  have HB1 : Hid (Below w.heap.size w w1) := Lib.hid (HB0.out.trans (hb1.mono HB0.out.size))
  have v1 : w1.cell? ⟨V, 1, none⟩ = some (.string ⟨#[51]⟩) := by
    obtain ⟨b, off, x, e, -, hc, hx⟩ := hv.at (k := 1) (by decide)
    cases e; rw [hx.out] at hc; simpa using hc
  have v3 : w1.cell? ⟨V, 3, none⟩ = some (.string ⟨#[54]⟩) := by
    obtain ⟨b, off, x, e, -, hc, hx⟩ := hv.at (k := 3) (by decide)
    cases e; rw [hx.out] at hc; simpa using hc
  have hVs : V < w1.heap.size := by
    obtain ⟨b, off, x, e, hb, -⟩ := hv.at (k := 1) (by decide)
    cases e; exact hb
  have hBo := fun o => (Below.refl w1.heap.size w1).alloc (Nat.le_refl _) o
  have k1 : (w1.alloc (.cells #[.slice q 2 d, .slice (some ⟨V, 0, none⟩) 4 4] 25)).cell? ⟨V, 1, none⟩ = some (.string ⟨#[51]⟩) := ((hBo _).cell (p := ⟨V, 1, none⟩) hVs).trans v1
  have k3 : (w1.alloc (.cells #[.slice q 2 d, .slice (some ⟨V, 0, none⟩) 4 4] 25)).cell? ⟨V, 3, none⟩ = some (.string ⟨#[54]⟩) := ((hBo _).cell (p := ⟨V, 3, none⟩) hVs).trans v3
  have HBF : Hid (Below w.heap.size w (w1.alloc (.cells #[.slice q 2 d, .slice (some ⟨V, 0, none⟩) 4 4] 25))) := Lib.hid (HB1.out.trans ((hBo _).mono HB1.out.size))
  clear hb1 hv hV hBo sz v1 v3 hVs H23
  go_wp2_with fail
  go_ret
  exact ⟨HBF.out, rfl⟩
end Go.Proofs.YtigidchicloleaaGreatDoor.Arr
set_option maxHeartbeats 2000000
set_option maxRecDepth 100000
namespace Go.Proofs.YtigidchicloleaaGreatDoor.Arr
open Go.RowKit Go.Shelf
open Go.Lib
attribute [local go_sem] Oper.semAt_some
def bigT (s : List Int) : Bool := decide (10 < s.length) || (vs s && decide (200 < prod (s.map Int.toNat)))
theorem big_any (p : Option Addr) (c n : Nat) (s : List Int) (w : World) (hs : Hid (s.length = n)) (hp : Rd w p s) :
    Calls Tryz.prog 13 #[.slice p n c] w fun e w' => w = w' ∧ e = .returned (.bool (bigT s)) := by
  obtain ⟨v, HV⟩ : ∃ v, Hid (v = bigT s) := ⟨_, rfl⟩
  rw [← HV.out]
  have H19 : Hid (Calls Tryz.prog 20 #[.slice p n c] w fun e w' => w = w' ∧ e = .returned (.bool (vs s))) := Lib.hid (by
    have := rvshape_any p c s w hp
    rwa [hs.out] at this)
  have HP := Lib.hid hp
  clear hp
  by_cases h10 : 10 < n
  · have i10 : (10 : Int) < (n : Int) := by omega
    obtain rfl : v = true := by rw [HV.out]; unfold bigT; rw [decide_eq_true (by rw [hs.out]; exact h10), Bool.true_or]
    go_enter Tryz.func13, Tryz.ntmps13
    go_wp2_with fail
    go_ret
    exact ⟨rfl, rfl⟩
  have i10 : ¬ (10 : Int) < (n : Int) := by omega
  cases hv : vs s with
  | false =>
    obtain rfl : v = false := by rw [HV.out]; unfold bigT; rw [decide_eq_false (by rw [hs.out]; exact h10), hv]; rfl
    rw [hv] at H19
    clear hv
    go_enter Tryz.func13, Tryz.ntmps13
    go_wp2_with fail
    refine (H19.out).mono ?_
    rintro e w' ⟨rfl, rfl⟩
    go_wp2_with fail
    go_ret
    exact ⟨rfl, rfl⟩
  | true =>
    obtain ⟨m, rfl, hm⟩ := vs_yes hv
    obtain ⟨N, HN⟩ : ∃ N, Hid (N = prod m) := ⟨_, rfl⟩
    have H44 : Hid (Calls Tryz.prog 47 #[.slice p n c] w fun e w' => w = w' ∧ e = .returned (.int .i64 ((N : Nat) : Int))) := Lib.hid (by
      have := count_any p c m w hm.1 hm.2.1 HP.out
      rwa [show m.length = n by rw [← hs.out, List.length_map], ← HN.out] at this)
    have HF : Hid (v = decide ((200 : Int) < (N : Int))) := Lib.hid (by
      rw [HV.out]; unfold bigT
      rw [decide_eq_false (by rw [hs.out]; exact h10), hv, toNat_map, ← HN.out, Bool.false_or, Bool.true_and]
      exact decide_eq_decide.2 ⟨fun h => by omega, fun h => by omega⟩)
    rw [hv] at H19
    clear hv hm
    go_enter Tryz.func13, Tryz.ntmps13
    go_wp2_with fail
    refine (H19.out).mono ?_
    rintro e w' ⟨rfl, rfl⟩
    go_wp2_with fail
    refine (H44.out).mono ?_
    rintro e w' ⟨rfl, rfl⟩
    go_wp2_with fail
    go_ret
    exact ⟨rfl, by rw [HF.out]; rfl⟩
def ixOk (s : List Nat) (l : List Int) : Bool := decide (l.length = s.length) && (List.range s.length).all (fun k => decide (0 ≤ l.getD k 0) && decide (l.getD k 0 < (s.getD k 0 : Int)))
theorem ixOk_len {s : List Nat} {l : List Int} (h : l.length ≠ s.length) : ixOk s l = false := by unfold ixOk; rw [decide_eq_false h]; rfl
theorem ixOk_no {s : List Nat} {l : List Int} {k : Nat} (hk : k < s.length) (h : l.getD k 0 < 0 ∨ (s.getD k 0 : Int) ≤ l.getD k 0) : ixOk s l = false := by
  unfold ixOk
  have : (List.range s.length).all (fun k => decide (0 ≤ l.getD k 0) && decide (l.getD k 0 < (s.getD k 0 : Int))) = false := by
    rw [List.all_eq_false]
    refine ⟨k, List.mem_range.2 hk, ?_⟩
    rcases h with h | h
    · rw [decide_eq_false (p := 0 ≤ l.getD k 0) (by omega)]; simp
    · rw [decide_eq_false (p := l.getD k 0 < (s.getD k 0 : Int)) (by omega)]; simp
  rw [this, Bool.and_false]
theorem ixOk_yes {s : List Nat} {l : List Int} (hl : l.length = s.length) (h : ∀ k, k < s.length → 0 ≤ l.getD k 0 ∧ l.getD k 0 < (s.getD k 0 : Int)) : ixOk s l = true := by
  unfold ixOk
  rw [decide_eq_true hl, Bool.true_and, List.all_eq_true]
  intro k hk
  obtain ⟨h1, h2⟩ := h k (List.mem_range.1 hk)
  rw [decide_eq_true h1, decide_eq_true h2]; rfl
theorem ixOk_nat {s : List Nat} {l : List Int} (h : ixOk s l = true) : ∃ m : List Nat, l = m.map Int.ofNat ∧ IsIx s m := by
  have hlen : l.length = s.length := by
    by_cases e : l.length = s.length
    · exact e
    · rw [ixOk_len e] at h; cases h
  have hk : ∀ k, k < s.length → 0 ≤ l.getD k 0 ∧ l.getD k 0 < (s.getD k 0 : Int) := fun k hk => by
    by_cases e : l.getD k 0 < 0 ∨ (s.getD k 0 : Int) ≤ l.getD k 0
    · rw [ixOk_no hk e] at h; cases h
    · omega
  have e : l = (l.map Int.toNat).map Int.ofNat := by
    rw [List.map_map]
    refine ((List.map_congr_left fun z hz => ?_).trans (List.map_id l)).symm
    obtain ⟨k, hk1, e⟩ := List.getElem_of_mem hz
    have := (hk k (by omega)).1
    rw [List.getD_eq_getElem?_getD, List.getElem?_eq_getElem hk1, Option.getD_some, e] at this
    exact Int.toNat_of_nonneg this
  refine ⟨l.map Int.toNat, e, by rw [List.length_map, hlen], fun k hk1 => ?_⟩
  have h1 := hk k hk1
  rw [List.getD_eq_getElem?_getD, List.getElem?_map, List.getElem?_eq_getElem (by omega)]
  rw [List.getD_eq_getElem?_getD, List.getElem?_eq_getElem (by omega), Option.getD_some] at h1
  show Int.toNat _ < _
  omega
theorem isix_any (p q : Option Addr) (c d n m : Nat) (s : List Nat) (l : List Int) (w : World) (hs : Hid (s.length = n)) (hl : Hid (l.length = m)) (hn : n ≤ 4) (hp : RdN w p s) (hq : Rd w q l) :
    Calls Tryz.prog 53 #[.slice p n c, .slice q m d] w fun e w' => w = w' ∧ e = .returned (.bool (ixOk s l)) := by
  have HP := Lib.hid hp
  have HQ := Lib.hid hq
  obtain ⟨v, HV⟩ : ∃ v, Hid (v = ixOk s l) := ⟨_, rfl⟩
  rw [← HV.out]
  clear hp hq
  by_cases hlen : m = n
  case neg =>
    have hle : ¬ (m : Int) = (n : Int) := by omega
    obtain rfl : v = false := by rw [HV.out]; exact ixOk_len (by rw [hs.out, hl.out]; exact hlen)
    go_enter Tryz.func53, Tryz.ntmps53
    go_wp2_with fail
    go_ret
    exact ⟨rfl, rfl⟩
  subst hlen
  have hni : (m : Int) ≤ 4 := by omega
  have HNO : Hid (∀ k, k < m → l.getD k 0 < 0 ∨ (s.getD k 0 : Int) ≤ l.getD k 0 → v = false) := Lib.hid (fun k hk h => by rw [HV.out]; exact ixOk_no (by rw [hs.out]; exact hk) h)
  have HYES : Hid ((∀ k, k < m → 0 ≤ l.getD k 0 ∧ l.getD k 0 < (s.getD k 0 : Int)) → v = true) := Lib.hid (fun h => by rw [HV.out]; exact ixOk_yes (by rw [hs.out, hl.out]) (fun k hk => h k (by rw [← hs.out]; exact hk)))
  go_enter Tryz.func53, Tryz.ntmps53
  go_wp2_with fail
  go_loop [14] (fun iv => ∃ i : Nat, i ≤ m ∧ iv = .int .i64 i ∧ Hid (∀ k, k < i → 0 ≤ l.getD k 0 ∧ l.getD k 0 < (s.getD k 0 : Int))) (fun iv => m - (Go.RowKit.intOf iv).toNat)
  case atStart => exact ⟨0, Nat.zero_le _, rfl, Lib.hid (fun k hk => by omega)⟩
  case round =>
    obtain ⟨i, hi, rfl, HA⟩ := hrel
    have ii : (i : Int) ≤ (m : Int) := by omega
    by_cases hlt : i < m
    · have ilt : (i : Int) < (m : Int) := by omega
      obtain ⟨b1, o1, t, rfl, -, hc1, HT⟩ := HP.out.at (k := i) (by rw [hs.out]; exact hlt)
      obtain ⟨b2, o2, z, rfl, -, hc2, HZ, hz1, hz2⟩ := HQ.out.at (k := i) (by rw [hl.out]; exact hlt)
      by_cases hz0 : z < 0
      · obtain rfl : v = false := HNO.out i hlt (.inl (by rw [← HZ.out]; exact hz0))
        go_wp2_with fail
        go_ret
        exact ⟨rfl, rfl⟩
      · by_cases hzt : z < (t : Int)
        · have hst : Hid (∀ k, k < i + 1 → 0 ≤ l.getD k 0 ∧ l.getD k 0 < (s.getD k 0 : Int)) := Lib.hid (fun k hk => by
            by_cases e : k = i
            · rw [e, ← HZ.out, ← HT.out]; omega
            · exact HA.out k (by omega))
          have hzt2 : ¬ (t : Int) ≤ z := by omega
          go_wp2_with fail
          go_round
          case rel => exact ⟨i + 1, by omega, by go_num, hst⟩
          case measure => simp [Go.RowKit.intOf]; omega
        · have hzt2 : (t : Int) ≤ z := by omega
          obtain rfl : v = false := HNO.out i hlt (.inr (by rw [← HZ.out, ← HT.out]; exact hzt2))
          go_wp2_with fail
          go_ret
          exact ⟨rfl, rfl⟩
    · obtain rfl : i = m := by omega
      have ilt : ¬ (i : Int) < (i : Int) := by omega
      obtain rfl : v = true := HYES.out HA.out
      go_wp2_with fail
      go_ret
      exact ⟨rfl, rfl⟩
theorem risix_any (p q : Option Addr) (c d n m : Nat) (s : List Nat) (l : List Int) (w : World) (hs : Hid (s.length = n)) (hl : Hid (l.length = m)) (hn : n ≤ 4) (hp : RdN w p s) (hq : Rd w q l) :
    Calls Tryz.prog 55 #[.slice p n c, .slice q m d] w fun e w' => (∃ k, w.drewN k = w') ∧ e = .returned (.bool (ixOk s l)) := by
  have HP := Lib.hid hp
  have HQ := Lib.hid hq
  obtain ⟨v, HV⟩ : ∃ v, Hid (v = ixOk s l) := ⟨_, rfl⟩
  rw [← HV.out]
  clear hp hq
  by_cases hlen : m = n
  case neg =>
    have hle : ¬ (m : Int) = (n : Int) := by omega
    obtain rfl : v = false := by rw [HV.out]; exact ixOk_len (by rw [hs.out, hl.out]; exact hlen)
    go_enter Tryz.func55, Tryz.ntmps55
    go_wp2_with fail
    go_ret
    exact ⟨⟨0, rfl⟩, rfl⟩
  subst hlen
  have hni : (m : Int) ≤ 4 := by omega
  have HNO : Hid (∀ k, k < m → l.getD k 0 < 0 ∨ (s.getD k 0 : Int) ≤ l.getD k 0 → v = false) := Lib.hid (fun k hk h => by rw [HV.out]; exact ixOk_no (by rw [hs.out]; exact hk) h)
  have HYES : Hid ((∀ k, k < m → 0 ≤ l.getD k 0 ∧ l.getD k 0 < (s.getD k 0 : Int)) → v = true) := Lib.hid (fun h => by rw [HV.out]; exact ixOk_yes (by rw [hs.out, hl.out]) (fun k hk => h k (by rw [← hs.out]; exact hk)))
  go_enter Tryz.func55, Tryz.ntmps55
  go_wp2_with fail
  go_loopw [5] (fun iv wr => ∃ i k : Nat, i ≤ m ∧ iv = .int .i64 i ∧ wr = w.drewN k ∧ Hid (∀ k, k < i → 0 ≤ l.getD k 0 ∧ l.getD k 0 < (s.getD k 0 : Int))) (fun iv _ => m - (Go.RowKit.intOf iv).toNat)
  case atStart => exact ⟨0, 0, Nat.zero_le _, rfl, rfl, Lib.hid (fun k hk => by omega)⟩
  case round =>
    obtain ⟨i, r, hi, rfl, rfl, HA⟩ := hrel
    have ii : (i : Int) ≤ (m : Int) := by omega
    by_cases hlt : i < m
    · have ilt : (i : Int) < (m : Int) := by omega
      obtain ⟨b1, o1, t, rfl, -, hc1, HT⟩ := HP.out.at (k := i) (by rw [hs.out]; exact hlt)
      obtain ⟨b2, o2, z, rfl, -, hc2, HZ, hz1, hz2⟩ := HQ.out.at (k := i) (by rw [hl.out]; exact hlt)
      by_cases hz0 : z < 0
      · obtain rfl : v = false := HNO.out i hlt (.inl (by rw [← HZ.out]; exact hz0))
        go_wp2_with fail
        go_quiet (fail)
        go_wp2_with fail
        go_ret
        exact ⟨⟨_, (World.drewN_drewN ..).symm⟩, rfl⟩
      · by_cases hzt : z < (t : Int)
        · have hst : Hid (∀ k, k < i + 1 → 0 ≤ l.getD k 0 ∧ l.getD k 0 < (s.getD k 0 : Int)) := Lib.hid (fun k hk => by
            by_cases e : k = i
            · rw [e, ← HZ.out, ← HT.out]; omega
            · exact HA.out k (by omega))
          have hzt2 : ¬ (t : Int) ≤ z := by omega
          go_wp2_with fail
          go_quiet (fail)
          go_wp2_with fail
          go_roundw
          case rel => exact ⟨i + 1, _, by omega, by go_num, rfl, hst⟩
          case measure => simp [Go.RowKit.intOf]; omega
        · have hzt2 : (t : Int) ≤ z := by omega
          obtain rfl : v = false := HNO.out i hlt (.inr (by rw [← HZ.out, ← HT.out]; exact hzt2))
          go_wp2_with fail
          go_quiet (fail)
          go_wp2_with fail
          go_ret
          exact ⟨⟨_, (World.drewN_drewN ..).symm⟩, rfl⟩
    · obtain rfl : i = m := by omega
      have ilt : ¬ (i : Int) < (i : Int) := by omega
      obtain rfl : v = true := HYES.out HA.out
      go_wp2_with fail
      go_ret
      exact ⟨⟨_, rfl⟩, rfl⟩
end Go.Proofs.YtigidchicloleaaGreatDoor.Arr
