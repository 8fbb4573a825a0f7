/- The document's dictionary coder: plain bytes; how long two places agree. -/
import Derived.Test.YtpnofkefcoaojaaGreatDoorKC
import Derived.Test.YtpnofkefcoaojaaGreatDoorWDS
import Derived.BigQuiet
import Derived.Test.YtpnofkefcoaojaaGreatDoorWDV
namespace Go.Proofs.YtpnofkefcoaojaaGreatDoor
open Go.RowKit
open Go.Lib
def spF : Nat → List UInt8 → List UInt8
  | 0, _ => []
  | f + 1, l => if l.length = 0 then [] else UInt8.ofNat (min l.length 128 - 1) :: (l.take (min l.length 128) ++ spF f (l.drop (min l.length 128)))
def spL (l : List UInt8) : List UInt8 := spF l.length l
theorem spF_more : ∀ (f : Nat) (l : List UInt8), l.length ≤ f → spF f l = spL l := by
  intro f
  induction f using Nat.strongRecOn with
  | _ f ih =>
    intro l hl
    cases f with
    | zero =>
      have h0 : l.length = 0 := by omega
      rw [spL, h0]
    | succ f =>
      unfold spL
      by_cases h0 : l.length = 0
      · rw [spF, if_pos h0, h0, spF]
      · obtain ⟨g, hg⟩ : ∃ g, l.length = g + 1 := ⟨l.length - 1, by omega⟩
        have hd : (l.drop (min l.length 128)).length ≤ g := by rw [List.length_drop]; omega
        rw [hg, spF, spF, if_neg h0, if_neg h0, ih f (by omega) _ (by omega)]
        by_cases hgf : g = f
        · rw [hgf, ih f (by omega) _ (by omega)]
        · rw [ih g (by omega) _ hd]
theorem spL_nil : spL [] = [] := rfl
theorem spL_step {l : List UInt8} (h : 0 < l.length) : spL l = UInt8.ofNat (min l.length 128 - 1) :: (l.take (min l.length 128) ++ spL (l.drop (min l.length 128))) := by
  obtain ⟨g, hg⟩ : ∃ g, l.length = g + 1 := ⟨l.length - 1, by omega⟩
  have hd : (l.drop (min l.length 128)).length ≤ g := by rw [List.length_drop]; omega
  rw [spL, hg, spF, if_neg (by omega), spF_more g _ hd, hg]
def Agree (l : List UInt8) (a d j : Nat) : Prop := a + j < l.length ∧ l.getD (a + j) 0 = l.getD (a + j - d) 0
structure IsRun (l : List UInt8) (a d n : Nat) : Prop where
  le : n ≤ 131
  same : ∀ j, j < n → Agree l a d j
  stop : n = 131 ∨ ¬ Agree l a d n
theorem IsRun.one {l : List UInt8} {a d n m : Nat} (h : IsRun l a d n) (k : IsRun l a d m) : n = m := by
  rcases Nat.lt_trichotomy n m with hl | he | hg
  · rcases h.stop with h1 | h1
    · have := k.le; omega
    · exact absurd (k.same n hl) h1
  · exact he
  · rcases k.stop with h1 | h1
    · have := h.le; omega
    · exact absurd (h.same m hg) h1
end Go.Proofs.YtpnofkefcoaojaaGreatDoor
namespace Go.Proofs.YtpnofkefcoaojaaGreatDoor
open Go.RowKit
open Go.Lib
theorem byte_bs (w : World) (y : UInt8) : Bs (w.alloc (.cells #[.int .u8 (y.toNat : Int)] 5)) (some ⟨w.heap.size, 0, none⟩) [y] := by
  refine .inr ⟨w.heap.size, 0, rfl, by simp, fun j hj => ?_⟩
  obtain rfl : j = 0 := by simp at hj; omega
  have := World.alloc_heap_new w (.cells #[.int .u8 (y.toNat : Int)] 5)
  simp only [World.cell?, this]
  rfl
structure Came (w : World) (p : Option Addr) (len c : Nat) (l : List UInt8) : Prop where
  hl : l.length = len
  hc : len ≤ c
  lies : Bs w p l
theorem Came.rest {w : World} {b0 off len c : Nat} {l : List UInt8} (h : Came w (some ⟨b0, off, none⟩) len c l) {m : Nat} (hm : m ≤ len) (hc : m < c) : Came w (some ⟨b0, off + m, none⟩) (len - m) (c - m) (l.drop m) :=
  ⟨by rw [List.length_drop, h.hl], by have := h.hc; omega, bs_tail h.lies m (by rw [h.hl]; exact hm) rfl⟩
end Go.Proofs.YtpnofkefcoaojaaGreatDoor
namespace Go.Proofs.YtpnofkefcoaojaaGreatDoor
open Go.RowKit
open Go.Lib
instance (l : List UInt8) (a d j : Nat) : Decidable (Agree l a d j) := by unfold Agree; infer_instance
def rnC (l : List UInt8) (a d : Nat) : Nat → Nat
  | 0 => 0
  | f + 1 => if Agree l a d (131 - (f + 1)) then 1 + rnC l a d f else 0
def rn (l : List UInt8) (a d : Nat) : Nat := rnC l a d 131
theorem rnC_run (l : List UInt8) (a d : Nat) : ∀ f, f ≤ 131 → rnC l a d f ≤ f ∧ (∀ j, j < rnC l a d f → Agree l a d (131 - f + j)) ∧ (rnC l a d f = f ∨ ¬ Agree l a d (131 - f + rnC l a d f))
  | 0, _ => ⟨Nat.le_refl _, (fun j h => by cases h), .inl rfl⟩
  | f + 1, hf => by
    obtain ⟨h1, h2, h3⟩ := rnC_run l a d f (by omega)
    rw [rnC]
    by_cases h : Agree l a d (131 - (f + 1))
    · rw [if_pos h]
      refine ⟨by omega, fun j hj => ?_, ?_⟩
      · by_cases hj0 : j = 0
        · rw [hj0, Nat.add_zero]; exact h
        · have := h2 (j - 1) (by omega)
          rwa [show 131 - f + (j - 1) = 131 - (f + 1) + j by omega] at this
      · rcases h3 with h3 | h3
        · exact .inl (by omega)
        · exact .inr (by rwa [show 131 - f + rnC l a d f = 131 - (f + 1) + (1 + rnC l a d f) by omega] at h3)
    · rw [if_neg h]
      exact ⟨Nat.zero_le _, (fun j hj => by omega), .inr (by rw [Nat.add_zero]; exact h)⟩
theorem rn_run (l : List UInt8) (a d : Nat) : IsRun l a d (rn l a d) := by
  obtain ⟨h1, h2, h3⟩ := rnC_run l a d 131 (Nat.le_refl _)
  refine ⟨h1, fun j hj => ?_, ?_⟩
  · have := h2 j hj
    rwa [Nat.sub_self, Nat.zero_add] at this
  · rcases h3 with h3 | h3
    · exact .inl h3
    · exact .inr (by rwa [Nat.sub_self, Nat.zero_add] at h3)
theorem rn_le (l : List UInt8) (a d : Nat) : rn l a d ≤ 131 := (rn_run l a d).le
def best (l : List UInt8) (a : Nat) : Nat → Nat × Nat
  | 0 => (0, 0)
  | D + 1 => if (best l a D).1 < rn l a (D + 1) then (rn l a (D + 1), D + 1) else best l a D
theorem best_le (l : List UInt8) (a : Nat) : ∀ D, (best l a D).1 ≤ 131 ∧ (best l a D).2 ≤ D
  | 0 => ⟨Nat.zero_le _, Nat.le_refl _⟩
  | D + 1 => by
    have h := best_le l a D
    rw [best]
    split
    · exact ⟨rn_le _ _ _, Nat.le_refl _⟩
    · exact ⟨h.1, Nat.le_succ_of_le h.2⟩
end Go.Proofs.YtpnofkefcoaojaaGreatDoor
namespace Go.Proofs.YtpnofkefcoaojaaGreatDoor
open Go.RowKit
open Go.Lib
theorem spL_len : ∀ (k : Nat) (l : List UInt8), l.length ≤ k → (spL l).length ≤ 2 * l.length
  | 0, l, h => by
    obtain rfl := List.eq_nil_of_length_eq_zero (Nat.le_zero.1 h)
    exact Nat.le_refl _
  | k + 1, l, h => by
    by_cases h0 : 0 < l.length
    · have h1 := spL_len k (l.drop (min l.length 128)) (by rw [List.length_drop]; omega)
      rw [List.length_drop] at h1
      rw [spL_step h0, List.length_cons, List.length_append, List.length_take]; omega
    · obtain rfl := List.eq_nil_of_length_eq_zero (by omega : l.length = 0)
      exact Nat.le_refl _
theorem rn_fits (l : List UInt8) (a d : Nat) (h : a ≤ l.length) : a + rn l a d ≤ l.length := by
  rcases Nat.eq_zero_or_pos (rn l a d) with h0 | h0
  · omega
  · have := ((rn_run l a d).same (rn l a d - 1) (by omega)).1; omega
theorem best_fits (l : List UInt8) (a : Nat) (h : a ≤ l.length) : ∀ D, a + (best l a D).1 ≤ l.length
  | 0 => h
  | D + 1 => by
    rw [best]
    split
    · exact rn_fits l a _ h
    · exact best_fits l a h D
def tok (n d : Nat) : List UInt8 := [UInt8.ofNat (124 + n), UInt8.ofNat (d / 256), UInt8.ofNat (d % 256)]
def dcF (l : List UInt8) : Nat → Nat → Nat → List UInt8
  | 0, fr, _ => spL (l.drop fr)
  | f + 1, fr, a =>
    if a < l.length then
      if (best l a a).1 < 4 then dcF l f fr (a + 1)
      else spL ((l.drop fr).take (a - fr)) ++ (tok (best l a a).1 (best l a a).2 ++ dcF l f (a + (best l a a).1) (a + (best l a a).1))
    else spL (l.drop fr)
def dicL (l : List UInt8) : List UInt8 := dcF l l.length 0 0
theorem dcF_end {l : List UInt8} {a : Nat} (h : ¬ a < l.length) (f fr : Nat) : dcF l f fr a = spL (l.drop fr) := by
  cases f with
  | zero => rfl
  | succ f => rw [dcF, if_neg h]
theorem tok_bs (w : World) (x y z : UInt8) : Bs (w.alloc (.cells #[.int .u8 (x.toNat : Int), .int .u8 (y.toNat : Int), .int .u8 (z.toNat : Int)] 5)) (some ⟨w.heap.size, 0, none⟩) [x, y, z] := by
  refine .inr ⟨w.heap.size, 0, rfl, by simp, fun j hj => ?_⟩
  have : j = 0 ∨ j = 1 ∨ j = 2 := by simp at hj; omega
  have h := World.alloc_heap_new w (.cells #[.int .u8 (x.toNat : Int), .int .u8 (y.toNat : Int), .int .u8 (z.toNat : Int)] 5)
  simp only [World.cell?, h]
  rcases this with rfl | rfl | rfl <;> rfl
end Go.Proofs.YtpnofkefcoaojaaGreatDoor
set_option maxHeartbeats 2000000
set_option maxRecDepth 100000
namespace Go.Proofs.YtpnofkefcoaojaaGreatDoor
open Go.RowKit Go.Shelf
open Go.Lib
attribute [local go_sem] Oper.semAt_some
theorem chunk_in (m : Nat) (p : Option Addr) (len c : Nat) (w : World) :
    CallsIn Fence.wide m Tryz.prog 193 #[.slice p len c, .int .i64 128] w fun e w' => e = .returned (.func (.func 226) #[] #[.pointer (some ⟨w.heap.size, 0, none⟩), .pointer (some ⟨w.heap.size + 1, 0, none⟩)]) ∧ w' = (w.alloc (.cells #[.slice p len c] 39)).alloc (.cells #[.int .i64 128] 3) := by
  refine callsIn_of_wp Tryz.func193 rfl trivial ?_ rfl
  simp only [Tryz.ntmps193, List.size_toArray, List.length_cons, List.length_nil, Nat.reduceAdd, Nat.reduceSub, Array.replicate_succ, Array.replicate_zero, List.push_toArray, List.append_toArray, List.nil_append, List.cons_append]
  gi_wp2
  go_ret
  exact ⟨rfl, rfl⟩
abbrev ptL (len t : Nat) : Nat := min (len - 128 * t) 128
abbrev ptE (b0 off len k : Nat) (x : Pl k) : Array Value := #[.slice (some ⟨b0, off + 128 * x.1, none⟩) (ptL len x.1) (ptL len x.1)]
theorem it83_in (m : Nat) (hm : 1 ≤ m) (lr Bb Bn N0 len k c b0 off : Nat) (HK : Hid (k = (len + 127) / 128)) (hlen : len ≤ 20000) (hc : len ≤ c) (J Jx : List (Pl k) → World → Prop)
    (hJd : ∀ pre W q, J pre W → J pre (W.drewN q))
    (hY : ∀ pre x W, J pre W → pre.length < k → YieldAt Fence.wide (m - 1) Tryz.prog lr (ptE b0 off len k x) W fun e W' =>
      (e = .returned (.bool true) ∧ J (pre ++ [x]) W' ∧ Keep3 N0 Bn Bb W W') ∨ (e = .returned (.bool false) ∧ Jx (pre ++ [x]) W'))
    (W : World) (hBn : W.cell? ⟨Bn, 0, none⟩ = some (.int .i64 128)) (hBb : W.cell? ⟨Bb, 0, none⟩ = some (.slice (some ⟨b0, off, none⟩) len c)) (h0 : J [] W) :
    CallsIn Fence.wide m Tryz.prog 226 #[.func (.yield lr) #[] #[], .pointer (some ⟨Bb, 0, none⟩), .pointer (some ⟨Bn, 0, none⟩)] W fun e W' => (∃ v, e = .returned v) ∧
      ((∃ ys, ys.map (·.1) = List.range k ∧ J ys W') ∨ (∃ pre, True ∧ Jx pre W')) := by
  have hli : (len : Int) ≤ 20000 := by omega
  have hci : (len : Int) ≤ (c : Int) := by omega
  have hkl : k ≤ 157 := by rw [HK.out]; omega
  refine callsIn_of_wp Tryz.func226 rfl trivial ?_ rfl
  simp only [Tryz.ntmps226, List.size_toArray, List.length_cons, List.length_nil, Nat.reduceAdd, Nat.reduceSub, Array.replicate_succ, Array.replicate_zero, List.push_toArray, List.append_toArray, List.nil_append, List.cons_append]
  gi_wp2
  have HJ0 := Lib.hid h0
  gi_loopw [4] (fun tv wr => ∃ (t i : Nat) (pre : List (Pl k)), i ≤ k ∧ tv = .int .i64 t ∧ Hid (t = 128 * i) ∧ Hid (pre.map (·.1) = List.range i) ∧ Hid (J pre wr) ∧ Hid (Keep3 N0 Bn Bb W wr)) (fun tv _ => len + 128 - (Go.RowKit.intOf tv).toNat)
  case atStart => exact ⟨0, 0, [], Nat.zero_le _, rfl, rfl, rfl, HJ0, Lib.hid (Keep3.refl _ _ _ _)⟩
  case round =>
    obtain ⟨t, i, pre, hik, rfl, HT, HP, HJ, HB⟩ := hrel
    have hti : (t : Int) ≤ 20096 := by rw [HT.out]; omega
    by_cases hilt : i < k
    · have htl : t < len := by rw [HT.out]; have := HK.out; omega
      have htl' : (t : Int) < (len : Int) := by omega
      have htc : (t : Int) < (c : Int) := by omega
      have hcn := HB.out.c1.trans hBn
      have hcb := HB.out.c2.trans hBb
      obtain ⟨e, HE⟩ : ∃ e, Hid (e = ptL len i) := ⟨_, rfl⟩
      have he1 : 1 ≤ e := by rw [HE.out]; have := HT.out; simp only [ptL]; omega
      obtain ⟨r, HR⟩ : ∃ r, Hid (r = len - t) := ⟨_, rfl⟩
      have fr : len - t = r := HR.out.symm
      have hmin : (if (r : Int) < 128 then (r : Int) else 128) = (e : Int) := by
        rw [HE.out, HR.out]; have := HT.out; simp only [ptL]; split <;> omega
      have hmin2 : min (128 : Int) (r : Int) = (e : Int) := by
        rw [HE.out, HR.out]; have := HT.out; simp only [ptL]; omega
      have hmin3 : min (r : Int) 128 = (e : Int) := by rw [Int.min_comm]; exact hmin2
      have her : e ≤ len - t := by rw [HE.out]; have := HT.out; simp only [ptL]; omega
      have hei : 1 ≤ (e : Int) := by omega
      have hei2 : (e : Int) ≤ 128 := by rw [HE.out]; simp only [ptL]; omega
      obtain ⟨an, HAN⟩ : ∃ an, Hid (an = t + e) := ⟨_, rfl⟩
      have han : (t : Int) + (e : Int) = (an : Int) := by rw [HAN.out]; omega
      have hanl : (an : Int) ≤ (len : Int) := by rw [HAN.out]; omega
      have hta : (t : Int) < (an : Int) := by omega
      have hta' : (t : Int) ≤ (an : Int) := by omega
      have hac : (an : Int) ≤ (c : Int) := by omega
      have fan : an - t = e := by rw [HAN.out]; omega
      have hne : ¬ an = t := by omega
      have htle : t ≤ len := by omega
      have hct : ¬ c = t := by omega
      have hcb2 : wr.drew.cell? ⟨Bb, 0, none⟩ = some (.slice (some ⟨b0, off, none⟩) len c) := hcb
      have hcn2 : wr.drew.cell? ⟨Bn, 0, none⟩ = some (.int .i64 128) := hcn
      have HJ2 := Lib.hid (hJd pre wr 1 HJ.out)
      have HB2 : Hid (Keep3 N0 Bn Bb W wr.drew) := Lib.hid (HB.out.trans ⟨(Below.refl _ _).drew, rfl, rfl⟩)
      obtain ⟨fn, tmps, assign, body, hy, hRo⟩ := hY pre ⟨i, hilt⟩ wr.drew HJ2.out (by
        have h := congrArg List.length HP.out
        rw [List.length_map, List.length_range] at h; omega)
      have hy2 : (Instr.yield lr #[.slice (some ⟨b0, off + t, none⟩) e e]).run Tryz.prog wr.drew = .ok (.round lr fn tmps assign body) wr.drew := by
        rw [HT.out, HE.out]; exact hy
      clear hy
      gi_wp2
      refine wpIn_wide.2 ?_
      refine wp_region_noPanic ?_
      refine wp_region_held_drew (S := fun W' => W'.cell? ⟨Bb, 0, none⟩ = some (.slice (some ⟨b0, off, none⟩) len c) ∧ W'.cell? ⟨Bn, 0, none⟩ = some (.int .i64 128)) (by kernel_rfl) ⟨hcb2, hcn2⟩ (fun hHeld => ?_)
      refine wpAnyH_take (i := 0) (v := ?v1) rfl (by kernel_rfl) (by kernel_rfl) (by kernel_rfl) (fun _ _ _ h => h) (Or.inl ⟨by rfl, ?hy1⟩) (by assumption) ?rest1
      case hy1 =>
        intro W' hSw
        obtain ⟨e1, e2⟩ := hSw
        go_simp
        with_reducible rfl
      simp only [List.getElem_toArray, List.getElem_cons_zero, Act.put, List.setIfInBounds_toArray, List.set_cons_zero, List.set_cons_succ]
      refine wpAnyH_take (i := 1) (v := ?v2) rfl (by kernel_rfl) (by kernel_rfl) (by kernel_rfl) (fun _ _ _ h => h) (Or.inl ⟨by rfl, ?hy2⟩) (by assumption) ?rest2
      case hy2 =>
        intro W' hSw
        obtain ⟨e1, e2⟩ := hSw
        go_simp
        with_reducible rfl
      simp only [List.getElem_toArray, List.getElem_cons_zero, List.getElem_cons_succ, Act.put, List.setIfInBounds_toArray, List.set_cons_zero, List.set_cons_succ]
      refine wpAnyH_take (i := 2) (v := ?v3) rfl (by kernel_rfl) (by kernel_rfl) (by kernel_rfl) (fun _ _ _ h => h) (Or.inl ⟨by rfl, ?hy3⟩) (by assumption) ?rest3
      case hy3 =>
        intro W' hSw
        obtain ⟨e1, e2⟩ := hSw
        go_simp
        with_reducible rfl
      simp only [List.getElem_toArray, List.getElem_cons_zero, List.getElem_cons_succ, Act.put, List.setIfInBounds_toArray, List.set_cons_zero, List.set_cons_succ]
      refine wpAnyH_take (i := 3) (v := ?v4) rfl (by kernel_rfl) (by kernel_rfl) (by kernel_rfl) (fun _ _ _ h => h) (Or.inl ⟨by rfl, ?hy4⟩) (by assumption) ?rest4
      case hy4 =>
        intro W' hSw
        obtain ⟨e1, e2⟩ := hSw
        go_simp
        with_reducible rfl
      simp only [List.getElem_toArray, List.getElem_cons_zero, List.getElem_cons_succ, Act.put, List.setIfInBounds_toArray, List.set_cons_zero, List.set_cons_succ]
      refine wpAnyH_take (i := 4) (v := ?v5) rfl (by kernel_rfl) (by kernel_rfl) (by kernel_rfl) (fun _ _ _ h => h) (Or.inl ⟨by rfl, ?hy5⟩) (by assumption) ?rest5
      case hy5 =>
        intro W' hSw
        obtain ⟨e1, e2⟩ := hSw
        go_simp
        with_reducible rfl
      simp only [List.getElem_toArray, List.getElem_cons_zero, List.getElem_cons_succ, Act.put, List.setIfInBounds_toArray, List.set_cons_zero, List.set_cons_succ]
      refine wpAnyH_take (i := 5) (v := ?v6) rfl (by kernel_rfl) (by kernel_rfl) (by kernel_rfl) (fun _ _ _ h => h) (Or.inl ⟨by rfl, ?hy6⟩) (by assumption) ?rest6
      case hy6 =>
        intro W' hSw
        obtain ⟨e1, e2⟩ := hSw
        go_simp
        with_reducible rfl
      simp only [List.getElem_toArray, List.getElem_cons_zero, List.getElem_cons_succ, Act.put, List.setIfInBounds_toArray, List.set_cons_zero, List.set_cons_succ]
      refine wpAnyH_ready (rs := [6]) (by kernel_rfl) (by simp) ?_
      refine AllReadyH.cons (i := 6) rfl (fun K hK => ?_) AllReadyH.nil
      go_simp
      refine hK.out _ _ (⟨hcb2, hcn2⟩) (fun hHeld => ?_)
      clear hK K
      refine wpAnyH_done (by kernel_rfl) ?_ _
      refine NoPanic.normal ?_
      clear hHeld
      gi_wp2
      trace_state
      refine hRo.mono ?_
      rintro e' W3 (⟨rfl, hJ3, hk3⟩ | ⟨rfl, hJx3⟩)
      · have HB3 := Lib.hid (HB2.out.trans hk3)
        have HJ3 := Lib.hid hJ3
        have hcn3 := HB3.out.c1.trans hBn
        clear hJ3 hk3 hy2
        gi_wp2
        go_roundw
        case rel => exact ⟨t + 128, i + 1, pre ++ [⟨i, hilt⟩], by omega, by go_num, Lib.hid (by rw [HT.out]; omega), Lib.hid (by rw [List.map_append, HP.out, List.range_succ]; rfl), HJ3, HB3⟩
        case measure => simp [Go.RowKit.intOf]; omega
      · gi_wp2
        refine bodyPost_ret (results_none rfl _ _ _) rfl ?_
        exact ⟨⟨_, rfl⟩, .inr ⟨_, trivial, hJx3⟩⟩
    · obtain rfl : i = k := by omega
      have hcb := HB.out.c2.trans hBb
      have htl : ¬ (t : Int) < (len : Int) := by rw [HT.out]; have := HK.out; omega
      gi_wp2
      go_end0
      exact ⟨⟨_, rfl⟩, .inl ⟨pre, HP.out, HJ.out⟩⟩
theorem chunk_stops (m : Nat) (hm : 1 ≤ m) (Bb Bn N0 len k c b0 off : Nat) (HK : Hid (k = (len + 127) / 128)) (hlen : len ≤ 20000) (hc : len ≤ c) (w : World) (hB1 : Bn < w.heap.size) (hB2 : Bb < w.heap.size)
    (hBn : w.cell? ⟨Bn, 0, none⟩ = some (.int .i64 128)) (hBb : w.cell? ⟨Bb, 0, none⟩ = some (.slice (some ⟨b0, off, none⟩) len c)) :
    SeqStopsK Fence.wide m Tryz.prog 226 #[.pointer (some ⟨Bb, 0, none⟩), .pointer (some ⟨Bn, 0, none⟩)] (ptE b0 off len k) (Keep3 N0 Bn Bb) (fun ys => ys.map (·.1) = List.range k) (fun _ => True) k w := fun lr J Jx W hW hJ _ hY h0 =>
  it83_in m hm lr Bb Bn N0 len k c b0 off HK hlen hc J Jx (fun pre W' q hj => hJ pre W' (W'.drewN q) none hj ⟨rfl, rfl, rfl, Nat.le_refl _, fun _ _ _ => rfl⟩ (fun r e => by cases e)) hY W
    ((hW.cell (p := ⟨Bn, 0, none⟩) hB1).trans hBn) ((hW.cell (p := ⟨Bb, 0, none⟩) hB2).trans hBb) h0
end Go.Proofs.YtpnofkefcoaojaaGreatDoor
