/- agrees, and the widths of arrays. -/
import Derived.Test.YtlcpcpmlfegejaaGreatDoorGQ
import Derived.Laws.ResultCell
import Derived.Test.YtlcpcpmlfegejaaGreatDoorZ05
import Derived.Test.YtlcpcpmlfegejaaGreatDoorLC
set_option maxHeartbeats 4000000
set_option maxRecDepth 100000
namespace Go.Proofs.YtlcpcpmlfegejaaGreatDoor.Arr
open Go.RowKit Go.Shelf
open Go.Lib
attribute [local go_sem] Oper.semAt_some
def wideT (s : List Int) (l : List (List UInt8)) : Bool := decide (10 < s.length) || (decide (100 < l.length) || l.any (fun x => decide (200 < x.length)))
theorem wide_any (p q : Option Addr) (c d n m : Nat) (s : List Int) (l : List (List UInt8)) (w : World) (hs : Hid (s.length = n)) (hl : Hid (l.length = m)) (hq : RdS w q l) :
    Calls Tryz.prog 12 #[.agg #[.slice p n c, .slice q m d]] w fun e w' => Below w.heap.size w w' ∧ e = .returned (.bool (wideT s l)) := by
  have HQ := Lib.hid hq
  obtain ⟨A, HA⟩ : ∃ A, Hid (A = w.heap.size) := ⟨_, Lib.hid rfl⟩
  obtain ⟨W0, HW0⟩ : ∃ W0, Hid (w.alloc (.cells #[.slice p n c, .slice q m d] 31) = W0) := ⟨_, Lib.hid rfl⟩
  have HB0 : Hid (Below w.heap.size w W0) := Lib.hid (by rw [← HW0.out]; exact (Below.refl _ w).alloc (Nat.le_refl _) _)
  have HX0 : Hid (W0.heap[A]? = some (.cells #[.slice p n c, .slice q m d] 31 (0, 0))) := Lib.hid (by rw [← HW0.out, HA.out]; exact World.alloc_heap_new w _)
  have HBX : Hid (∀ W, Below W0.heap.size W0 W → W.cell? ⟨A, 0, none⟩ = some (.slice p n c) ∧ W.cell? ⟨A, 1, none⟩ = some (.slice q m d) ∧ RdS W q l ∧ Below w.heap.size w W) := Lib.hid (fun W hW => by
    have h0 := (hW.block A (Array.getElem?_eq_some_iff.1 HX0.out).1).trans HX0.out
    have hb := HB0.out.trans (hW.mono HB0.out.size)
    exact ⟨by simp [World.cell?, h0], by simp [World.cell?, h0], HQ.out.below hb, hb⟩)
  obtain ⟨v, HV⟩ : ∃ v, Hid (v = wideT s l) := ⟨_, Lib.hid rfl⟩
  rw [← HV.out]
  have HN1 : Hid (10 < n → v = true) := Lib.hid (fun h => by rw [HV.out]; unfold wideT; rw [decide_eq_true (by rw [hs.out]; exact h), Bool.true_or])
  have HN2 : Hid (100 < m → v = true) := Lib.hid (fun h => by rw [HV.out]; unfold wideT; rw [decide_eq_true (p := 100 < l.length) (by rw [hl.out]; exact h), Bool.true_or, Bool.or_true])
  have HN3 : Hid (∀ k, k < m → 200 < (l.getD k []).length → v = true) := Lib.hid (fun k hk h => by
    have : l.any (fun x => decide (200 < x.length)) = true := List.any_eq_true.2 ⟨l.getD k [], by rw [List.getD_eq_getElem?_getD, List.getElem?_eq_getElem (by rw [hl.out]; exact hk)]; exact List.getElem_mem _, decide_eq_true h⟩
    rw [HV.out]; unfold wideT; rw [this, Bool.or_true, Bool.or_true])
  have HN4 : Hid (¬ 10 < n → ¬ 100 < m → (∀ k, k < m → ¬ 200 < (l.getD k []).length) → v = false) := Lib.hid (fun h1 h2 h3 => by
    have : l.any (fun x => decide (200 < x.length)) = false := List.any_eq_false.2 (fun x hx => by
      obtain ⟨k, hk, e⟩ := List.getElem_of_mem hx
      have := h3 k (by rw [← hl.out]; exact hk)
      rw [List.getD_eq_getElem?_getD, List.getElem?_eq_getElem hk, Option.getD_some, e] at this
      simpa using this)
    rw [HV.out]; unfold wideT; rw [this, decide_eq_false (by rw [hs.out]; exact h1), decide_eq_false (p := 100 < l.length) (by rw [hl.out]; exact h2)]; rfl)
  obtain ⟨b1, b2, -, hb⟩ := HBX.out W0 (Below.refl _ _)
  clear hq hb
  by_cases h10 : 10 < n
  · have i10 : (10 : Int) < (n : Int) := by omega
    obtain rfl : v = true := HN1.out h10
    go_enter Tryz.func12, Tryz.ntmps12
    go_wp2_with fail
    rw [HW0.out, ← HA.out]
    go_wp2_with fail
    go_ret
    exact ⟨by first | exact HB0.out | (rw [HA.out]; exact HB0.out), rfl⟩
  have i10 : ¬ (10 : Int) < (n : Int) := by omega
  by_cases h100 : 100 < m
  · have i100 : (100 : Int) < (m : Int) := by omega
    obtain rfl : v = true := HN2.out h100
    go_enter Tryz.func12, Tryz.ntmps12
    go_wp2_with fail
    rw [HW0.out, ← HA.out]
    go_wp2_with fail
    go_ret
    exact ⟨by first | exact HB0.out | (rw [HA.out]; exact HB0.out), rfl⟩
  have i100 : ¬ (100 : Int) < (m : Int) := by omega
  have mi : (m : Int) ≤ 100 := by omega
  go_enter Tryz.func12, Tryz.ntmps12
  go_wp2_with fail
  rw [HW0.out, ← HA.out]
  go_wp2_with fail
  clear b1 b2 i10 i100
  go_loopw [3] (fun iv wr => ∃ i : Nat, i ≤ m ∧ iv = .int .i64 i ∧ Hid (∀ k, k < i → ¬ 200 < (l.getD k []).length) ∧ Hid (Below W0.heap.size W0 wr)) (fun iv _ => m - (Go.RowKit.intOf iv).toNat)
  case atStart => exact ⟨0, Nat.zero_le _, rfl, Lib.hid (fun k hk => by omega), Lib.hid (Below.refl _ _)⟩
  case round =>
    obtain ⟨i, hi, rfl, HA2, HB⟩ := hrel
    have ii : (i : Int) ≤ (m : Int) := by omega
    obtain ⟨b1, b2, r1, hb⟩ := HBX.out _ HB.out
    have HBF := Lib.hid hb
    clear hb
    by_cases hlt : i < m
    · have ilt : (i : Int) < (m : Int) := by omega
      obtain ⟨a1, o1, x, e1, ha1, hx, HX⟩ := r1.at (k := i) (by rw [hl.out]; exact hlt)
      clear r1
      subst e1
      by_cases hw : 200 < x.length
      · have ixw : (200 : Int) < (x.length : Int) := by omega
        obtain rfl : v = true := HN3.out i hlt (by rw [← HX.out]; exact hw)
        go_wp2_with fail
        go_ret
        exact ⟨HBF.out, rfl⟩
      · have ixw : ¬ (200 : Int) < (x.length : Int) := by omega
        have hst : Hid (∀ k, k < i + 1 → ¬ 200 < (l.getD k []).length) := Lib.hid (fun k hk => by
          by_cases e : k = i
          · rw [e, ← HX.out]; exact hw
          · exact HA2.out k (by omega))
        go_wp2_with fail
        go_roundw
        case rel => exact ⟨i + 1, by omega, by go_num, hst, HB⟩
        case measure => simp [Go.RowKit.intOf]; omega
    · obtain rfl : i = m := by omega
      have ilt : ¬ (i : Int) < (i : Int) := by omega
      obtain rfl : v = false := HN4.out h10 h100 HA2.out
      clear r1
      go_wp2_with fail
      go_ret
      exact ⟨HBF.out, rfl⟩
end Go.Proofs.YtlcpcpmlfegejaaGreatDoor.Arr
set_option maxHeartbeats 4000000
set_option maxRecDepth 100000
namespace Go.Proofs.YtlcpcpmlfegejaaGreatDoor.Arr
open Go.RowKit Go.Shelf
open Go.Lib
attribute [local go_sem] Oper.semAt_some
def sS : List Nat := [2, 3]
def sL : List (List UInt8) := [[49], [50], [51], [52], [53], [54]]
def sC : List (Int × Int × Int) := [(0, 2, 1), (0, 2, 2)]
theorem s_valid : validA (sS.map Int.ofNat) sL = true := by kernel_rfl
theorem s_slab : slabOk sS sC = true := by kernel_rfl
theorem s_val : sliceV sS sL sC = [[49], [51], [52], [54]] := by kernel_rfl
theorem s_prod : prod (cnts sC) = 4 := by kernel_rfl
theorem sane_any (w : World) (he : Env w) :
    Calls Tryz.prog 9 #[] w fun e w' => Below w.heap.size w w' ∧ e = .returned (.bool true) := by
  have HE := Lib.hid he
  clear he
  go_enter Tryz.func9, Tryz.ntmps9
  go_wp2_with fail
  obtain ⟨A, HA⟩ : ∃ A, Hid (A = w.heap.size) := ⟨_, Lib.hid rfl⟩
  obtain ⟨W0, HW0⟩ : ∃ W0, Hid ((((w.alloc (.cells #[.int .i64 2, .int .i64 3] 3)).alloc (.cells #[.string ⟨#[49]⟩, .string ⟨#[50]⟩, .string ⟨#[51]⟩, .string ⟨#[52]⟩, .string ⟨#[53]⟩, .string ⟨#[54]⟩] 9)).alloc (.cells #[.slice (some ⟨w.heap.size, 0, none⟩) 2 2, .slice (some ⟨w.heap.size + 1, 0, none⟩) 6 6] 31)).alloc (.cells #[.int .i64 0, .int .i64 2, .int .i64 1, .int .i64 0, .int .i64 2, .int .i64 2] 53) = W0) := ⟨_, Lib.hid rfl⟩
  have HB0 : Hid (Below w.heap.size w W0) := Lib.hid (by rw [← HW0.out]; exact ((((Below.refl _ w).alloc (Nat.le_refl _) _).alloc (by simp) _).alloc (by simp; omega) _).alloc (by simp; omega) _)
  have b0 : W0.heap[w.heap.size]? = some (.cells #[.int .i64 2, .int .i64 3] 3 (0, 0)) := by
    rw [← HW0.out]; simp only [World.alloc, Array.getElem?_push, Array.size_push]
    repeat' (first | rw [if_pos (by omega)] | rw [if_neg (by omega)] | rfl)
  have b1 : W0.heap[w.heap.size + 1]? = some (.cells #[.string ⟨#[49]⟩, .string ⟨#[50]⟩, .string ⟨#[51]⟩, .string ⟨#[52]⟩, .string ⟨#[53]⟩, .string ⟨#[54]⟩] 9 (0, 0)) := by
    rw [← HW0.out]; simp only [World.alloc, Array.getElem?_push, Array.size_push]
    repeat' (first | rw [if_pos (by omega)] | rw [if_neg (by omega)] | rfl)
  have b3 : W0.heap[w.heap.size + 1 + 1 + 1]? = some (.cells #[.int .i64 0, .int .i64 2, .int .i64 1, .int .i64 0, .int .i64 2, .int .i64 2] 53 (0, 0)) := by
    rw [← HW0.out]; simp only [World.alloc, Array.getElem?_push, Array.size_push]
    repeat' (first | rw [if_pos (by omega)] | rw [if_neg (by omega)] | rfl)
  have sz : ∀ {k : Nat} {o : Obj}, W0.heap[k]? = some o → k < W0.heap.size := fun hh => (Array.getElem?_eq_some_iff.1 hh).1
  have r0 : RdN W0 (some ⟨w.heap.size, 0, none⟩) sS := ⟨fun z hz => by
      simp only [sS, List.map_cons, List.map_nil, List.mem_cons, List.not_mem_nil, or_false] at hz
      rcases hz with rfl | rfl <;> decide, .inr ⟨_, _, rfl, sz b0, fun j hj => by
      have hj2 : j < 2 := hj
      have e : j = 0 ∨ j = 1 := by omega
      rcases e with rfl | rfl <;> simp [World.cell?, b0, sS]⟩⟩
  have r1 : RdS W0 (some ⟨w.heap.size + 1, 0, none⟩) sL := .inr ⟨_, _, rfl, sz b1, fun j hj => by
      have hj2 : j < 6 := hj
      have e : j = 0 ∨ j = 1 ∨ j = 2 ∨ j = 3 ∨ j = 4 ∨ j = 5 := by omega
      rcases e with rfl | rfl | rfl | rfl | rfl | rfl <;> simp [World.cell?, b1, sL]⟩
  have r3 : RdC W0 (some ⟨w.heap.size + 1 + 1 + 1, 0, none⟩) sC := ⟨fun z hz => by
      simp only [sC, List.mem_cons, List.not_mem_nil, or_false] at hz
      rcases hz with rfl | rfl <;> decide, .inr ⟨_, _, rfl, sz b3, fun j hj => by
      have hj2 : j < 2 := hj
      have e : j = 0 ∨ j = 1 := by omega
      rcases e with rfl | rfl <;> simp [World.cell?, b3, sC]⟩⟩
  have hsh : Shp sS := by unfold Shp; decide
  have H23 := Lib.hid (slice_yes (some ⟨w.heap.size, 0, none⟩) (some ⟨w.heap.size + 1, 0, none⟩) (some ⟨w.heap.size + 1 + 1 + 1, 0, none⟩) 2 6 2 6 2 sS sC sL W0 (HE.out.below HB0.out) (Lib.hid rfl) (Lib.hid rfl) (by omega) (Lib.hid hsh) r0 r1 r3 s_valid (Lib.hid s_slab))
  clear b0 b1 b3 r0 r1 r3
  rw [HW0.out]
  refine (H23.out).mono ?_
  rintro e w1 ⟨hb1, q, d, V, rfl, -, -, -, -, hv, hV⟩
  rw [s_prod]
  rw [s_val] at hv
  have HB1 : Hid (Below w.heap.size w w1) := Lib.hid (HB0.out.trans (hb1.mono HB0.out.size))
  have v1 : w1.cell? ⟨V, 1, none⟩ = some (.string ⟨#[51]⟩) := by
    obtain ⟨b, off, x, e, -, hc, hx⟩ := hv.at (k := 1) (by decide)
    cases e; rw [hx.out] at hc; simpa using hc
  have v3 : w1.cell? ⟨V, 3, none⟩ = some (.string ⟨#[54]⟩) := by
    obtain ⟨b, off, x, e, -, hc, hx⟩ := hv.at (k := 3) (by decide)
    cases e; rw [hx.out] at hc; simpa using hc
  have hVs : V < w1.heap.size := by
    obtain ⟨b, off, x, e, hb, -⟩ := hv.at (k := 1) (by decide)
    cases e; exact hb
  have hBo := fun o => (Below.refl w1.heap.size w1).alloc (Nat.le_refl _) o
  have k1 : (w1.alloc (.cells #[.slice q 2 d, .slice (some ⟨V, 0, none⟩) 4 4] 31)).cell? ⟨V, 1, none⟩ = some (.string ⟨#[51]⟩) := ((hBo _).cell (p := ⟨V, 1, none⟩) hVs).trans v1
  have k3 : (w1.alloc (.cells #[.slice q 2 d, .slice (some ⟨V, 0, none⟩) 4 4] 31)).cell? ⟨V, 3, none⟩ = some (.string ⟨#[54]⟩) := ((hBo _).cell (p := ⟨V, 3, none⟩) hVs).trans v3
  have HBF : Hid (Below w.heap.size w (w1.alloc (.cells #[.slice q 2 d, .slice (some ⟨V, 0, none⟩) 4 4] 31))) := Lib.hid (HB1.out.trans ((hBo _).mono HB1.out.size))
  clear hb1 hv hV hBo sz v1 v3 hVs H23
  go_wp2_with fail
  go_ret
  exact ⟨HBF.out, rfl⟩
end Go.Proofs.YtlcpcpmlfegejaaGreatDoor.Arr
namespace Go.Proofs.YtlcpcpmlfegejaaGreatDoor.Arr
open Go.RowKit Go.Shelf
open Go.Lib
attribute [local go_sem] Oper.semAt_some
theorem isV_nil : isV [] = true := by kernel_rfl
theorem isV_num (x : List UInt8) (h : x.isEmpty = false) : isV x = (num x).isSome := by
  have : isV x = (x.isEmpty || (num x).isSome) := rfl
  rw [this, h, Bool.false_or]
theorem risvalue_any (x : List UInt8) (w : World) : Calls Tryz.prog 27 #[.string ⟨List.toArray x⟩] w fun e w' => Below w.heap.size w w' ∧ e = .returned (.bool (isV x)) := by
  by_cases h : x = []
  · subst h
    rw [isV_nil]
    exact (risv_nil w).mono (fun e w' h => ⟨h.2, h.1⟩)
  · have he : x.isEmpty = false := by cases x with
      | nil => exact absurd rfl h
      | cons a l => rfl
    rw [isV_num x he]
    refine (risv_some x h he _ w (Lib.hid fun W _ => rvalid_any ⟨x.toArray⟩ W)).mono (fun e w' h => ⟨h.2, ?_⟩)
    simpa using h.1
end Go.Proofs.YtlcpcpmlfegejaaGreatDoor.Arr
namespace Go.Proofs.YtlcpcpmlfegejaaGreatDoor.Arr
open Go.RowKit Go.Shelf
open Go.Lib
attribute [local go_sem] Oper.semAt_some
def strs (l : List (List UInt8)) : List Value := l.map (fun x => Value.string ⟨List.toArray x⟩)
theorem wpList_append_1s {w : World} {ops : Array Oper} {rest : List Oper} {o : Oper} {a : Act} {Q : Exit → Act → World → Prop} (hgd : o.guard = none) (s x : Operand)
    (ho : o.op = .call { callee := .builtin .append, args := #[s, x], argTypes := #[22, 22] })
    (B : Nat) (pv : Option Addr) (cv n : Nat) (X : List (List UInt8)) (hs : a.eval s = .slice pv n cv) (hown : w.ownsRow B 9 1 (.slice pv n cv) n (strs X))
    (g : Nat) (y : List UInt8) (hx : a.eval x = .slice (some ⟨g, 0, none⟩) 1 1) (hc : w.cell? ⟨g, 0, none⟩ = some (.string ⟨List.toArray y⟩)) (hlen : n ≤ 100000) (hB : B ≤ w.heap.size)
    (h : ∀ gv cv' w', w'.ownsRow B 9 1 (.slice (some ⟨gv, 0, none⟩) (n + 1) cv') (n + 1) (strs (X ++ [y])) → w.grownBy w' (Value.slice pv n cv).ownBlock → wpList Tryz.prog ops Q rest (a.put o.dst (.slice (some ⟨gv, 0, none⟩) (n + 1) cv')) w') : wpList Tryz.prog ops Q (o :: rest) a w := by
  obtain ⟨i0, hi, hz0, hz1, hz2⟩ := info_parts info9
  refine wpList_append_own_at _ hgd s x 22 ho B 9 i0 (.string ⟨#[]⟩) 1 16 Tryz.underlying22 hi hz0 hz1 hz2 rfl (by decide) _ _ _ hs hown ⟨g, 0, none⟩ 1 1 [.string ⟨List.toArray y⟩] hx rfl ?_ ?_ (by unfold maxLen; omega) (by omega) hB ?_
  · intro j u hj
    cases j with
    | zero => simp at hj; subst hj; exact hc
    | succ j => simp at hj
  · intro u hu
    obtain rfl := List.mem_singleton.1 hu
    rfl
  · intro v' w' h1 h2 _ _
    obtain ⟨gv, cv', rfl⟩ : ∃ g c, v' = .slice (some ⟨g, 0, none⟩) (n + 1) c := by
      obtain ⟨-, ⟨-, e⟩ | ⟨g, cap, _, e, -⟩⟩ := id h1
      · omega
      · exact ⟨g, cap, e⟩
    refine h gv cv' w' ?_ h2
    rw [strs, List.map_append]
    exact h1
end Go.Proofs.YtlcpcpmlfegejaaGreatDoor.Arr
set_option maxHeartbeats 8000000
set_option maxRecDepth 100000
namespace Go.Proofs.YtlcpcpmlfegejaaGreatDoor.Arr
open Go.RowKit Go.Shelf
open Go.Lib
attribute [local go_sem] Oper.semAt_some
theorem fn_nil (w : World) : (binOp BinOp.eql 55 .nilFunc .nilFunc).run Tryz.prog w = .ok (.bool true) w := by kernel_rfl
theorem fn_some (f : Fn) (first caps : Array Value) (w : World) : (binOp BinOp.eql 55 (.func f first caps) .nilFunc).run Tryz.prog w = .ok (.bool false) w := by kernel_rfl
def redV (l : List (List UInt8)) (red : Int) : List UInt8 × Int := if (1 ≤ red ∧ red ≤ 5) ∧ l.all isV = true then (redT red (numsL l), 0) else ([], 2)
def RedPost (r : List UInt8 × Int) (w : World) (e : Ending) (w' : World) : Prop := e = .returned (.tuple #[.string ⟨r.1.toArray⟩, .int .i64 r.2]) ∧ Below w.heap.size w w'
theorem isV_cases {x : List UInt8} (h : isV x = true) : x = [] ∨ ∃ q, num x = some q := by
  by_cases hx : x = []
  · exact .inl hx
  · rw [isV_num x (by simpa using hx), Option.isSome_iff_exists] at h
    exact .inr h
theorem read_val (x : List UInt8) (W : World) (hv : isV x = true) : Calls Tryz.prog 26 #[.string ⟨x.toArray⟩] W (NumPost (num x) W) := by
  rcases isV_cases hv with rfl | ⟨q, hq⟩
  · have e : readL [] = none := by decide
    refine (read_any ⟨[].toArray⟩ W (by decide)).mono fun e' w' h => ?_
    rw [num_nil]
    unfold ReadPost at h
    rw [show (⟨[].toArray⟩ : ByteArray).data.toList = [] from rfl, e] at h
    exact ⟨h.1, _, _, _, _, _, _, _, h.2, fun r h' => by cases h'⟩
  · rw [hq]
    have hq0 := hq
    unfold num at hq0
    rw [Option.map_eq_some_iff] at hq0
    obtain ⟨⟨s, n, d⟩, h1, rfl⟩ := hq0
    obtain ⟨h2, h3, h4⟩ := readQ_lt h1
    unfold readQ at h1
    split at h1
    · cases h1
    · rename_i hl
      split at h1
      · rename_i s0 n0 d0 hr
        split at h1
        · cases h1
          refine (read_any ⟨x.toArray⟩ W (by simp [ByteArray.size]; omega)).mono fun e' w' h => ?_
          unfold ReadPost at h
          rw [show (⟨x.toArray⟩ : ByteArray).data.toList = x from rfl, hr] at h
          obtain ⟨hb, z, rfl, hz⟩ := h
          have hz2 := hz
          obtain ⟨u, v, rfl, hu, hv2, -⟩ := hz2
          obtain ⟨p, m, c, rfl⟩ := hu.slice
          obtain ⟨p2, m2, c2, rfl⟩ := hv2.slice
          exact ⟨hb, _, _, _, _, _, _, _, rfl, fun r h' => by cases h'; exact ⟨_, _, _, hz, rfl, h4, h2, h3⟩⟩
        · cases h1
      · cases h1
theorem NumsIn.sl {W : World} {base : Nat} {v : Value} {xs : List C7} {qs : List Rat} (h : NumsIn W base v xs qs) (hm : qs.length ≤ 1000) : ∃ p c, v = .slice p qs.length c ∧ SlQ W p qs.length c qs := by
  by_cases hv : v = .slice none 0 0
  · obtain ⟨⟨-, hr⟩, -⟩ := h.row
    rcases hr with hr | ⟨g, cap, cur, rfl, -⟩
    · have h0 : qs.length = 0 := hr.2
      rw [h0]
      exact ⟨none, 0, hv, h0, by omega, by omega, .inl h0, .inl ⟨rfl, rfl⟩⟩
    · simp at hv
  · obtain ⟨g, c, rfl, hle, hrd⟩ := h.rd hv
    exact ⟨_, c, rfl, rfl, hm, hle, hrd, .inr ⟨g, 0, rfl⟩⟩
theorem reduced_no1 (p : Option Addr) (n c : Nat) (red : Int) (w : World) (h : red < 1 ∨ 5 < red) : Calls Tryz.prog 10 #[.slice p n c, .int .i64 red] w (RedPost ([], 2) w) := by
  have H := Lib.hid (reduction_no red h)
  clear h
  unfold RedPost
  go_enter Tryz.func10, Tryz.ntmps10
  go_wp2_with fail
  refine (H.out w).mono ?_
  rintro e w' ⟨rfl, rfl⟩
  have hf := fn_nil
  go_wp2_with fail
  go_ret2
  exact ⟨rfl, Below.refl _ _⟩
theorem reduced_no2 (p : Option Addr) (n c : Nat) (red : Int) (F : FuncId) (w : World) (HR : Hid (∀ W, Calls Tryz.prog 24 #[.int .i64 red] W fun e w' => W = w' ∧ e = .returned (.func (.func F) #[] #[])))
    (HA : Hid (Calls Tryz.prog 25 #[.slice p n c] w fun e w' => Below w.heap.size w w' ∧ e = .returned (.bool false))) : Calls Tryz.prog 10 #[.slice p n c, .int .i64 red] w (RedPost ([], 2) w) := by
  unfold RedPost
  go_enter Tryz.func10, Tryz.ntmps10
  go_wp2_with fail
  refine (HR.out w).mono ?_
  rintro e w' ⟨rfl, rfl⟩
  have hf := fn_some
  go_wp2_with fail
  refine HA.out.mono ?_
  rintro e w1 ⟨hb, rfl⟩
  have HB := Lib.hid hb
  clear hb
  go_wp2_with fail
  go_ret2
  exact ⟨rfl, HB.out⟩
theorem reduced_yes (p : Option Addr) (n c : Nat) (red : Int) (l : List (List UInt8)) (F : FuncId) (w : World) (HR : Hid (∀ W, Calls Tryz.prog 24 #[.int .i64 red] W fun e w' => W = w' ∧ e = .returned (.func (.func F) #[] #[])))
    (HF : Hid (RedFn F red)) (HA : Hid (Calls Tryz.prog 25 #[.slice p n c] w fun e w' => Below w.heap.size w w' ∧ e = .returned (.bool true)))
    (HV : Hid (∀ j, j < l.length → isV (l.getD j []) = true)) (HL : Hid (l.length = n)) (hn : n ≤ 1000) (ht : Tab w) (h : RdS w p l) : Calls Tryz.prog 10 #[.slice p n c, .int .i64 red] w (RedPost (redT red (numsL l), 0) w) := by
  obtain ⟨i0, hi, hz0, hz1, hz2⟩ := info_parts6 info66
  have HI := Lib.hid hi
  have HZ0 := Lib.hid hz0
  have HZ1 := Lib.hid hz1
  have HZ2 := Lib.hid hz2
  have HT := Lib.hid ht
  have HRD := Lib.hid h
  have hn1 : (n : Int) ≤ 1000 := by omega
  have hent := HF.out.1
  clear hi hz0 hz1 hz2 ht h
  unfold RedPost
  go_enter Tryz.func10, Tryz.ntmps10
  go_wp2_with fail
  refine (HR.out w).mono ?_
  rintro e w' ⟨rfl, rfl⟩
  have hf := fn_some
  go_wp2_with fail
  refine HA.out.mono ?_
  rintro e w1 ⟨hb, rfl⟩
  have HB1 := Lib.hid hb
  clear hb hf
  have HN1 : Hid (NumsIn w1 w1.heap.size (.slice none 0 0) [] (numsL (l.take 0)) ∧ Below w1.heap.size w1 w1) := Lib.hid ⟨⟨NRow.nil _ _ _ _, rfl, fun j hj => by simp [numsL] at hj⟩, Below.refl _ _⟩
  go_wp2_with fail
  go_loopw [7, 23] (fun v iv wr => ∃ (i : Nat) (xs : List C7), i ≤ n ∧ iv = .int .i64 (i : Int) ∧ Hid (NumsIn wr w1.heap.size v xs (numsL (l.take i)) ∧ Below w1.heap.size w1 wr)) (fun _ iv _ => n - (intOf iv).toNat)
  case atStart => exact ⟨0, [], Nat.zero_le _, rfl, HN1⟩
  case round =>
    obtain ⟨i, xs, hin, rfl, hnum⟩ := hrel
    have HNUM := Lib.hid hnum.out
    have HBW0 : Hid (Below w.heap.size w wr) := Lib.hid (HB1.out.trans (HNUM.out.2.mono HB1.out.size))
    clear hnum HN1
    by_cases hlt : i < n
    · obtain ⟨b, off, x, rfl, hbl, hcell, HX⟩ := HRD.out.at (k := i) (by have := HL.out; omega)
      have s0 : wr.cell? ⟨b, off + i, none⟩ = some (.string ⟨List.toArray x⟩) := (HBW0.out.cell (p := ⟨b, off + i, none⟩) hbl).trans hcell
      clear hcell
      have hi0 : (0 : Int) ≤ (i : Int) := by omega
      have hi1 : (i : Int) < (n : Int) := by omega
      have HREAD := Lib.hid (read_val x wr (by rw [HX.out]; exact HV.out i (by have := HL.out; omega)))
      have HTK := Lib.hid (numsL_take (ss := l) (i := i) (by have := HL.out; omega))
      rw [← HX.out] at HTK
      go_wp2_with fail
      refine HREAD.out.mono ?_
      rintro e w2 ⟨hb2, xb, xp, xn, xc, xr, xm, xd, rfl, hq⟩
      have HB2 := Lib.hid hb2
      have HQ := Lib.hid hq
      clear hb2 hq s0
      cases hnq : num x with
      | none =>
        rw [hnq] at HTK HQ
        go_wp2_with fail
        have HEND : Hid (NumsIn (w2.alloc (.cells #[.bool xb, .slice xp xn xc, .slice xr xm xd] 62)) w1.heap.size u7 xs (numsL (l.take (i + 1))) ∧ Below w1.heap.size w1 (w2.alloc (.cells #[.bool xb, .slice xp xn xc, .slice xr xm xd] 62))) := Lib.hid (by
          have hb := HNUM.out.2.trans (HB2.out.mono HNUM.out.2.size)
          rw [HTK.out]
          simp only [Option.toList_none, List.append_nil]
          exact ⟨(HNUM.out.1.below HB2.out).below (bea _ _), hb.alloc hb.size _⟩)
        go_roundw
        case rel => exact ⟨i + 1, xs, by omega, by go_num, HEND⟩
        case measure => simp [intOf]; omega
      | some q =>
        rw [hnq] at HTK HQ
        have HQ2 := Lib.hid (HQ.out q rfl)
        obtain ⟨W5, HW5⟩ : ∃ W5, Hid ((w2.alloc (.cells #[.bool xb, .slice xp xn xc, .slice xr xm xd] 62)).alloc (.cells #[.bool xb, .slice xp xn xc, .slice xr xm xd] 62) = W5) := ⟨_, Lib.hid rfl⟩
        have HB5 : Hid (Below w2.heap.size w2 W5) := Lib.hid (by rw [← HW5.out]; exact ((Below.refl _ _).alloc (Nat.le_refl _) _).alloc (by simp) _)
        have HN5 : Hid (NumsIn W5 w1.heap.size u7 xs (numsL (l.take i))) := Lib.hid ((HNUM.out.1.below HB2.out).below HB5.out)
        have HLE : Hid ((numsL (l.take i)).length ≤ 1000) := Lib.hid (by have := numsL_le (l.take i); have := HL.out; rw [List.length_take] at *; omega)
        have HBW : Hid (Below w1.heap.size w1 W5) := Lib.hid ((HNUM.out.2.trans (HB2.out.mono HNUM.out.2.size)).trans (HB5.out.mono (Nat.le_trans HNUM.out.2.size HB2.out.size)))
        have HNEWS : Hid (∀ j u, (encC (xb, xp, xn, xc, xr, xm, xd))[j]? = some u → W5.cell? ((⟨w2.heap.size + 1, 0, none⟩ : Addr).add j) = some u) := Lib.hid (fun j u hj => by
          have hh : W5.heap[w2.heap.size + 1]? = some (.cells #[.bool xb, .slice xp xn xc, .slice xr xm xd] 62 (0, 0)) := by
            rw [← HW5.out]
            have := heap_new (w2.alloc (.cells #[.bool xb, .slice xp xn xc, .slice xr xm xd] 62)) (.cells #[.bool xb, .slice xp xn xc, .slice xr xm xd] 62)
            simpa using this
          rw [Addr.add_mid, ceh hh, Nat.zero_add, List.getElem?_toArray]
          exact hj)
        have HBS : Hid (w1.heap.size ≤ W5.heap.size) := Lib.hid HBW.out.size
        go_wp2_with (at_builtin; rw [HW5.out]; refine wpList_append_N rfl _ _ 58 rfl w1.heap.size 62 i0 (.agg #[.bool false, .slice none 0 0, .slice none 0 0]) 3 56 Tryz.underlying58 HI.out HZ0.out HZ1.out HZ2.out rfl (by decide) zero_noU66 _ _ _ rfl HN5.out.row ⟨w2.heap.size + 1, 0, none⟩ 1 1 (encC (xb, xp, xn, xc, xr, xm, xd)) rfl rfl HNEWS.out (encC_one _) (encC_noU _) (by decide) (by have := HLE.out; unfold maxLen; omega) (by have := HLE.out; omega) HBS.out ?_; intro v6 w6 hr6 hg6; have HEND : Hid (NumsIn w6 w1.heap.size v6 (xs ++ [(xb, xp, xn, xc, xr, xm, xd)]) (numsL (l.take (i + 1))) ∧ Below w1.heap.size w1 w6) := Lib.hid (by rw [HTK.out]; exact ⟨HN5.out.more (HQ2.out.below HB5.out) hr6 hg6, HBW.out.grown hg6 HBW.out.size (fun k hk => HN5.out.row.own hk)⟩); clear hr6 hg6)
        go_roundw
        case rel => exact ⟨i + 1, _, by omega, by go_num, HEND⟩
        case measure => simp [intOf]; omega
    · obtain rfl : i = n := by omega
      have ht : numsL (l.take i) = numsL l := by rw [List.take_of_length_le (by have := HL.out; omega)]
      have hle : (numsL l).length ≤ 1000 := by have := numsL_le l; have := HL.out; omega
      obtain ⟨hnum, -⟩ := HNUM.out
      rw [ht] at hnum
      obtain ⟨g, c', hv, hsl⟩ := NumsIn.sl hnum hle
      subst hv
      have HCALL := Lib.hid (HF.out.2 g _ c' _ wr hsl (HT.out.below HBW0.out))
      obtain ⟨M, HM⟩ : ∃ M, Hid ((numsL l).length = M) := ⟨_, Lib.hid rfl⟩
      rw [HM.out] at HCALL ⊢
      clear hle ht hsl hnum HNUM
      go_wp2_with fail
      refine HCALL.out.mono ?_
      rintro e w7 ⟨rfl, hb7⟩
      have HB7 := Lib.hid (HBW0.out.trans (hb7.mono HBW0.out.size))
      clear hb7
      go_wp2_with fail
      go_ret2
      exact ⟨rfl, HB7.out⟩
theorem all_getD {l : List (List UInt8)} (h : l.all isV = true) (j : Nat) (hj : j < l.length) : isV (l.getD j []) = true := by
  rw [List.all_eq_true] at h
  rw [List.getD_eq_getElem?_getD, List.getElem?_eq_getElem hj]
  exact h _ (List.getElem_mem hj)
theorem reduced_any (p : Option Addr) (n c : Nat) (red : Int) (l : List (List UInt8)) (w : World) (he : Env w) (hl : l.length = n) (hn : n ≤ 1000) (h : RdS w p l) : Calls Tryz.prog 10 #[.slice p n c, .int .i64 red] w (RedPost (redV l red) w) := by
  by_cases hr : 1 ≤ red ∧ red ≤ 5
  · obtain ⟨F, hF, hR⟩ := reduction_any red hr.1 hr.2
    have hA := arevalues_any p c n l w he (Lib.hid hl) (by omega) h
    cases hv : l.all isV with
    | true =>
      have e : redV l red = (redT red (numsL l), 0) := by unfold redV; rw [if_pos ⟨hr, hv⟩]
      rw [e]
      rw [hv] at hA
      exact reduced_yes p n c red l F w (Lib.hid hR) (Lib.hid hF) (Lib.hid hA) (Lib.hid fun j hj => all_getD hv j hj) (Lib.hid hl) hn he.tab h
    | false =>
      have e : redV l red = ([], 2) := by unfold redV; rw [if_neg (by rw [hv]; simp)]
      rw [e]
      rw [hv] at hA
      exact reduced_no2 p n c red F w (Lib.hid hR) (Lib.hid hA)
  · have e : redV l red = ([], 2) := by unfold redV; rw [if_neg (fun h => hr h.1)]
    rw [e]
    exact reduced_no1 p n c red w (by omega)
end Go.Proofs.YtlcpcpmlfegejaaGreatDoor.Arr
