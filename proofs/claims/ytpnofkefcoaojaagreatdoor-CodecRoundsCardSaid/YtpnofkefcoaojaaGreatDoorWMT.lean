/- The differences in so many bits each: packed of the program. -/
import Derived.Test.YtpnofkefcoaojaaGreatDoorCH
import Derived.Test.YtpnofkefcoaojaaGreatDoorWEB
import Derived.Test.YtpnofkefcoaojaaGreatDoorYB
import Derived.Test.YtpnofkefcoaojaaGreatDoorCE
import Derived.BigQuiet
import Derived.BigRegionIn
import Derived.OwnWalkIn
import Derived.Laws.OwnMore
import Derived.RangeFuncWrites
import Derived.RangeFuncFrom
import Derived.Test.YtpnofkefcoaojaaGreatDoorV01
import Derived.BigRegion
import Derived.Laws.CopyOwn
namespace Go.Proofs.YtpnofkefcoaojaaGreatDoor
open Go.RowKit Go.Shelf
open Go.Lib
attribute [local go_sem] Oper.semAt_some
structure PkI (N n : Nat) (p : Option Addr) (len c m wd : Nat) (w : World) (v : Value) (L : List UInt8) (T : Nat) (W : World) : Prop where
  own : W.ownsRow N 5 1 v L.length (ubs L)
  b6 : W.heap[N]? = some (.cells #[.int .u64 (m : Int)] 86 (0, 0))
  b7 : W.heap[N + 1]? = some (.cells #[.int .i64 (wd : Int)] 3 (0, 0))
  out : W.heap[N + 1 + 1]? = some (.cells #[v] 39 (0, 0))
  b10 : W.heap[N + 1 + 1 + 1]? = some (.cells #[.int .i64 (T : Int)] 3 (0, 0))
  i1 : W.heap[N + 1 + 1 + 1 + 1]? = some (.cells #[.slice p len c] 39 (0, 0))
  i2 : W.heap[N + 1 + 1 + 1 + 1 + 1]? = some (.cells #[.int .i64 (n : Int)] 3 (0, 0))
  bel : Below N w W
section
variable {N n : Nat} {p : Option Addr} {len c m wd : Nat} {w W W' : World} {v v' : Value} {L L' : List UInt8} {T T' : Nat}
theorem PkI.keep (h : PkI N n p len c m wd w v L T W) {row : Option Nat} (hg : W.grownBy W' row) (hr : ∀ r, row = some r → N ≤ r ∧ ∃ o : Obj, W.heap[r]? = some o ∧ o.isCells = false) (hB : N ≤ W.heap.size) : PkI N n p len c m wd w v L T W' := by
  have hk : ∀ {k : Nat} {o : Obj}, W.heap[k]? = some o → o.isCells = true → W'.heap[k]? = some o := fun h1 h2 => (grownBy_keeps_cells hg (fun r e => (hr r e).2) h1 h2).trans h1
  exact ⟨own_keepB h.own (fun k cs h1 => hk h1 rfl), hk h.b6 rfl, hk h.b7 rfl, hk h.out rfl, hk h.b10 rfl, hk h.i1 rfl, hk h.i2 rfl, h.bel.grown hg hB (fun k e => (hr k e).1)⟩
theorem PkI.lt (h : PkI N n p len c m wd w v L T W) : N ≤ W.heap.size := Nat.le_of_lt (Array.getElem?_eq_some_iff.1 h.b6).1
theorem PkI.drew (h : PkI N n p len c m wd w v L T W) : PkI N n p len c m wd w v L T W.drew := ⟨h.own, h.b6, h.b7, h.out, h.b10, h.i1, h.i2, h.bel.drew⟩
theorem PkI.set (h : PkI N n p len c m wd w v L T W) (hl : 0 < L.length) : ∃ g cap, v = .slice (some ⟨g, 0, none⟩) L.length cap ∧ L.length ≤ cap ∧ (∀ j, j < L.length → W.cell? ⟨g, j, none⟩ = some (.int .u8 (((L.getD j 0).toNat : Nat) : Int))) ∧ (∀ j, W.frozen? ⟨g, j, none⟩ = false) ∧ (∀ k, k ≤ N + 1 + 1 + 1 + 1 + 1 → N ≤ k → k ≠ g) ∧ ∀ k (y : UInt8), k < L.length → PkI N n p len c m wd w v (L.set k y) T (W.setCell ⟨g, k, none⟩ (.int .u8 (y.toNat : Int))) ∧ Below N W (W.setCell ⟨g, k, none⟩ (.int .u8 (y.toNat : Int))) := by
  obtain ⟨g, cap, hv, hcap, hg, hgl, hc, hf, hset⟩ := own_set h.own hl
  have hx : ∀ {k : Nat} {cs : Array Value} {t : TypeId}, W.heap[k]? = some (.cells cs t (0, 0)) → t ≠ 5 → k ≠ g := by
    rintro k cs t h1 h2 rfl
    have := own_ne h.own h1 h2
    rw [hv] at this; exact this rfl
  refine ⟨g, cap, hv, hcap, hc, hf, fun k hk1 hk2 => ?_, fun k y hk => ?_⟩
  · have : k = N ∨ k = N + 1 ∨ k = N + 1 + 1 ∨ k = N + 1 + 1 + 1 ∨ k = N + 1 + 1 + 1 + 1 ∨ k = N + 1 + 1 + 1 + 1 + 1 := by omega
    rcases this with rfl | rfl | rfl | rfl | rfl | rfl
    · exact hx h.b6 (by decide)
    · exact hx h.b7 (by decide)
    · exact hx h.out (by decide)
    · exact hx h.b10 (by decide)
    · exact hx h.i1 (by decide)
    · exact hx h.i2 (by decide)
  · have hk' : ∀ {j : Nat} {cs : Array Value} {t : TypeId}, W.heap[j]? = some (.cells cs t (0, 0)) → t ≠ 5 → (W.setCell ⟨g, k, none⟩ (.int .u8 (y.toNat : Int))).heap[j]? = some (.cells cs t (0, 0)) := fun h1 h2 => (Below.heap_setCell W ⟨g, k, none⟩ _ _ (hx h1 h2)).trans h1
    have ho := hset k y hk
    rw [show L.length = (L.set k y).length by rw [List.length_set]] at ho
    exact ⟨⟨ho, hk' h.b6 (by decide), hk' h.b7 (by decide), hk' h.out (by decide), hk' h.b10 (by decide), hk' h.i1 (by decide), hk' h.i2 (by decide), h.bel.setCell (p := ⟨g, k, none⟩) hg _⟩, (Below.refl N W).setCell (p := ⟨g, k, none⟩) hg _⟩
end
end Go.Proofs.YtpnofkefcoaojaaGreatDoor
namespace Go.Proofs.YtpnofkefcoaojaaGreatDoor
open Go.RowKit
open Go.Lib
def Agree (l : List UInt8) (a d j : Nat) : Prop := a + j < l.length ∧ l.getD (a + j) 0 = l.getD (a + j - d) 0
structure IsRun (l : List UInt8) (a d n : Nat) : Prop where
  le : n ≤ 131
  same : ∀ j, j < n → Agree l a d j
  stop : n = 131 ∨ ¬ Agree l a d n
theorem IsRun.one {l : List UInt8} {a d n m : Nat} (h : IsRun l a d n) (k : IsRun l a d m) : n = m := by
  rcases Nat.lt_trichotomy n m with hl | he | hg
  · rcases h.stop with h1 | h1
    · have := k.le; omega
    · exact absurd (k.same n hl) h1
  · exact he
  · rcases k.stop with h1 | h1
    · have := h.le; omega
    · exact absurd (h.same m hg) h1
end Go.Proofs.YtpnofkefcoaojaaGreatDoor
namespace Go.Proofs.YtpnofkefcoaojaaGreatDoor
open Go.RowKit
open Go.Lib
structure Came (w : World) (p : Option Addr) (len c : Nat) (l : List UInt8) : Prop where
  hl : l.length = len
  hc : len ≤ c
  lies : Bs w p l
theorem Came.rest {w : World} {b0 off len c : Nat} {l : List UInt8} (h : Came w (some ⟨b0, off, none⟩) len c l) {m : Nat} (hm : m ≤ len) (hc : m < c) : Came w (some ⟨b0, off + m, none⟩) (len - m) (c - m) (l.drop m) :=
  ⟨by rw [List.length_drop, h.hl], by have := h.hc; omega, bs_tail h.lies m (by rw [h.hl]; exact hm) rfl⟩
end Go.Proofs.YtpnofkefcoaojaaGreatDoor
namespace Go.Proofs.YtpnofkefcoaojaaGreatDoor
open Go.RowKit
open Go.Lib
instance (l : List UInt8) (a d j : Nat) : Decidable (Agree l a d j) := by unfold Agree; infer_instance
def rnC (l : List UInt8) (a d : Nat) : Nat → Nat
  | 0 => 0
  | f + 1 => if Agree l a d (131 - (f + 1)) then 1 + rnC l a d f else 0
def rn (l : List UInt8) (a d : Nat) : Nat := rnC l a d 131
theorem rnC_run (l : List UInt8) (a d : Nat) : ∀ f, f ≤ 131 → rnC l a d f ≤ f ∧ (∀ j, j < rnC l a d f → Agree l a d (131 - f + j)) ∧ (rnC l a d f = f ∨ ¬ Agree l a d (131 - f + rnC l a d f))
  | 0, _ => ⟨Nat.le_refl _, (fun j h => by cases h), .inl rfl⟩
  | f + 1, hf => by
    obtain ⟨h1, h2, h3⟩ := rnC_run l a d f (by omega)
    rw [rnC]
    by_cases h : Agree l a d (131 - (f + 1))
    · rw [if_pos h]
      refine ⟨by omega, fun j hj => ?_, ?_⟩
      · by_cases hj0 : j = 0
        · rw [hj0, Nat.add_zero]; exact h
        · have := h2 (j - 1) (by omega)
          rwa [show 131 - f + (j - 1) = 131 - (f + 1) + j by omega] at this
      · rcases h3 with h3 | h3
        · exact .inl (by omega)
        · exact .inr (by rwa [show 131 - f + rnC l a d f = 131 - (f + 1) + (1 + rnC l a d f) by omega] at h3)
    · rw [if_neg h]
      exact ⟨Nat.zero_le _, (fun j hj => by omega), .inr (by rw [Nat.add_zero]; exact h)⟩
theorem rn_run (l : List UInt8) (a d : Nat) : IsRun l a d (rn l a d) := by
  obtain ⟨h1, h2, h3⟩ := rnC_run l a d 131 (Nat.le_refl _)
  refine ⟨h1, fun j hj => ?_, ?_⟩
  · have := h2 j hj
    rwa [Nat.sub_self, Nat.zero_add] at this
  · rcases h3 with h3 | h3
    · exact .inl h3
    · exact .inr (by rwa [Nat.sub_self, Nat.zero_add] at h3)
def best (l : List UInt8) (a : Nat) : Nat → Nat × Nat
  | 0 => (0, 0)
  | D + 1 => if (best l a D).1 < rn l a (D + 1) then (rn l a (D + 1), D + 1) else best l a D
end Go.Proofs.YtpnofkefcoaojaaGreatDoor
namespace Go.Proofs.YtpnofkefcoaojaaGreatDoor
open Go.RowKit Go.Shelf
open Go.Lib
attribute [local go_sem] Oper.semAt_some
structure ApI (B N : Nat) (p : Option Addr) (len c : Nat) (w : World) (v0 v : Value) (D : List UInt8) (W : World) : Prop where
  old : w.grownBy W v0.ownBlock
  lies : v.ownBlock = v0.ownBlock ∨ ∃ j, v.ownBlock = some j ∧ w.heap.size ≤ j
  own : W.ownsRow B 5 1 v D.length (ubs D)
  out : W.heap[N]? = some (.cells #[v] 39 (0, 0))
  i1 : W.heap[N + 1]? = some (.cells #[.slice p len c] 39 (0, 0))
  i2 : W.heap[N + 1 + 1]? = some (.cells #[.int .i64 128] 3 (0, 0))
  bel : Below B w W
section
variable {B N : Nat} {p : Option Addr} {len c : Nat} {w W W' : World} {v0 v v' : Value} {D D' : List UInt8}
theorem ApI.keep (h : ApI B N p len c w v0 v D W) {row : Option Nat} (hg : W.grownBy W' row) (hr : ∀ r, row = some r → w.heap.size ≤ r ∧ ∃ o : Obj, W.heap[r]? = some o ∧ o.isCells = false) (hBw : B ≤ w.heap.size) (hB : B ≤ W.heap.size) : ApI B N p len c w v0 v D W' := by
  have hk : ∀ {k : Nat} {o : Obj}, W.heap[k]? = some o → o.isCells = true → W'.heap[k]? = some o := fun h1 h2 => (grownBy_keeps_cells hg (fun r e => (hr r e).2) h1 h2).trans h1
  exact ⟨⟨hg.os.trans h.old.os, hg.tape.trans h.old.tape, hg.output.trans h.old.output, Nat.le_trans h.old.size hg.size, fun k hk9 hne => (hg.block k (Nat.lt_of_lt_of_le hk9 h.old.size) (fun e => by have := (hr k e.symm).1; omega)).trans (h.old.block k hk9 hne)⟩, h.lies, own_keepB h.own (fun k cs h1 => hk h1 rfl), hk h.out rfl, hk h.i1 rfl, hk h.i2 rfl, h.bel.grown hg hB (fun k e => Nat.le_trans hBw (hr k e).1)⟩
end
end Go.Proofs.YtpnofkefcoaojaaGreatDoor
namespace Go.Proofs.YtpnofkefcoaojaaGreatDoor
theorem best_flat {l : List UInt8} {a d : Nat} : ∀ D, d ≤ D → (∀ x, d < x → x ≤ D → rn l a x ≤ (best l a d).1) → best l a D = best l a d
  | 0, hd, _ => by rw [Nat.le_zero.1 hd]
  | D + 1, hd, h => by
    by_cases e : d = D + 1
    · rw [e]
    · have h1 := best_flat D (by omega) (fun x h1 h2 => h x h1 (by omega))
      have h2 := h (D + 1) (by omega) (Nat.le_refl _)
      rw [best, h1, if_neg (by omega)]
theorem best_low {l : List UInt8} {a m : Nat} : ∀ D, (∀ x, 0 < x → x ≤ D → rn l a x ≤ m) → (best l a D).1 ≤ m
  | 0, _ => Nat.zero_le _
  | D + 1, h => by
    rw [best]
    split
    · exact h _ (by omega) (Nat.le_refl _)
    · exact best_low D (fun x h1 h2 => h x h1 (by omega))
def Stand (l : List UInt8) (a n d : Nat) : Prop := (d = 0 ∧ n = 3) ∨ (best l a d = (n, d) ∧ 4 ≤ n ∧ 1 ≤ d ∧ d ≤ a)
structure NextAt (l : List UInt8) (a n d n2 d2 : Nat) : Prop where
  far : d < d2
  le : d2 ≤ a
  run : rn l a d2 = n2
  more : n < n2
  near : ∀ x, d < x → x < d2 → rn l a x ≤ n
def NoNext (l : List UInt8) (a n d : Nat) : Prop := ∀ x, d < x → x ≤ a → rn l a x ≤ n
theorem Stand.next {l : List UInt8} {a n d n2 d2 : Nat} (h : Stand l a n d) (k : NextAt l a n d n2 d2) : Stand l a n2 d2 := by
  obtain ⟨k1, k2, k3, k4, k5⟩ := k
  obtain ⟨e, rfl⟩ : ∃ e, d2 = e + 1 := ⟨d2 - 1, by omega⟩
  rcases h with ⟨rfl, rfl⟩ | ⟨h1, h2, h3, h4⟩
  · have hb : (best l a e).1 ≤ 3 := best_low e (fun x h1 h2 => k5 x h1 (by omega))
    exact .inr ⟨by rw [best, if_pos (by omega), k3], by omega, by omega, k2⟩
  · have hb : best l a e = (n, d) := by
      rw [best_flat (d := d) e (by omega) (fun x h5 h6 => by rw [h1]; exact k5 x h5 (by omega)), h1]
    exact .inr ⟨by rw [best, hb, if_pos (by show n < _; omega), k3], by omega, by omega, k2⟩
theorem Stand.done {l : List UInt8} {a n d : Nat} (h : Stand l a n d) (k : NoNext l a n d) : (d = 0 ∧ (best l a a).1 < 4) ∨ (1 ≤ d ∧ 4 ≤ n ∧ best l a a = (n, d)) := by
  rcases h with ⟨rfl, rfl⟩ | ⟨h1, h2, h3, h4⟩
  · have := best_low (l := l) (a := a) (m := 3) a (fun x h1 h2 => k x h1 h2)
    exact .inl ⟨rfl, by omega⟩
  · refine .inr ⟨h3, h2, ?_⟩
    rw [best_flat (d := d) a h4 (fun x h5 h6 => by rw [h1]; exact k x h5 h6), h1]
end Go.Proofs.YtpnofkefcoaojaaGreatDoor
namespace Go.Proofs.YtpnofkefcoaojaaGreatDoor
open Go.RowKit
open Go.Lib
def RowAt (w : World) (p : Option Addr) (n : Nat) (ps : Nat → Nat) : Prop := ∀ j, j < n → ∃ g, p = some ⟨g, 0, none⟩ ∧ g < w.heap.size ∧ w.cell? ⟨g, j, none⟩ = some (.int .i64 ((ps j : Nat) : Int))
theorem RowAt.below {w w' : World} {p : Option Addr} {n : Nat} {ps : Nat → Nat} (h : RowAt w p n ps) (hb : Below w.heap.size w w') : RowAt w' p n ps := fun j hj => by
  obtain ⟨g, h1, h2, h3⟩ := h j hj
  exact ⟨g, h1, Nat.lt_of_lt_of_le h2 hb.size, (hb.cell (p := ⟨g, j, none⟩) h2).trans h3⟩
end Go.Proofs.YtpnofkefcoaojaaGreatDoor
namespace Go.Proofs.YtpnofkefcoaojaaGreatDoor
open Go.RowKit Go.Shelf
open Go.Lib
attribute [local go_sem] Oper.semAt_some
def RowN (N : Nat) (w : World) (p : Option Addr) (n : Nat) (ps : Nat → Nat) : Prop := ∀ j, j < n → ∃ g, p = some ⟨g, 0, none⟩ ∧ g < N ∧ w.cell? ⟨g, j, none⟩ = some (.int .i64 ((ps j : Nat) : Int))
theorem RowN.keep {N : Nat} {w w' : World} {p : Option Addr} {n : Nat} {ps : Nat → Nat} (h : RowN N w p n ps) (hb : Below N w w') : RowN N w' p n ps := fun j hj => by
  obtain ⟨g, h1, h2, h3⟩ := h j hj
  exact ⟨g, h1, h2, (hb.cell (p := ⟨g, j, none⟩) h2).trans h3⟩
end Go.Proofs.YtpnofkefcoaojaaGreatDoor
namespace Go.Proofs.YtpnofkefcoaojaaGreatDoor
def k4 (l : List UInt8) (i : Nat) : List UInt8 := [l.getD i 0, l.getD (i + 1) 0, l.getD (i + 2) 0, l.getD (i + 3) 0]
def pls (l : List UInt8) (m : Nat) (x : List UInt8) : List Nat := (List.range m).filter (fun i => k4 l i == x)
theorem pls_succ (l : List UInt8) (m : Nat) (x : List UInt8) : pls l (m + 1) x = if k4 l m = x then pls l m x ++ [m] else pls l m x := by
  rw [pls, List.range_succ, List.filter_append]
  by_cases e : k4 l m = x
  · rw [if_pos e]; simp [pls, e]
  · rw [if_neg e]; simp [pls, e]
theorem pls_mem {l : List UInt8} {m : Nat} {x : List UInt8} {i : Nat} : i ∈ pls l m x ↔ i < m ∧ k4 l i = x := by
  simp [pls, List.mem_filter]
theorem pls_hit {l : List UInt8} {a n x : Nat} (hn : 3 ≤ n) (hx : x ≤ a) (h : n < rn l a x) : a + (n - 3) - x ∈ pls l (l.length - 3) (k4 l (a + (n - 3))) := by
  have hr := (rn_run l a x).same
  have h0 := hr (n - 3) (by omega)
  have h1 := hr (n - 2) (by omega)
  have h2 := hr (n - 1) (by omega)
  have h3 := hr n h
  rw [pls_mem]
  refine ⟨by have := h3.1; omega, ?_⟩
  have e0 : a + (n - 3) - x = a + (n - 3) - x := rfl
  unfold k4
  have a1 : a + (n - 3) + 1 = a + (n - 2) := by omega
  have a2 : a + (n - 3) + 2 = a + (n - 1) := by omega
  have a3 : a + (n - 3) + 3 = a + n := by omega
  have b1 : a + (n - 3) - x + 1 = a + (n - 2) - x := by omega
  have b2 : a + (n - 3) - x + 2 = a + (n - 1) - x := by omega
  have b3 : a + (n - 3) - x + 3 = a + n - x := by omega
  rw [a1, a2, a3, b1, b2, b3, h0.2, h1.2, h2.2, h3.2]
structure Srch (l : List UInt8) (a n d N i : Nat) (ps : Nat → Nat) : Prop where
  n3 : 3 ≤ n
  da : d ≤ a
  all : ∀ y, y ∈ pls l (l.length - 3) (k4 l (a + (n - 3))) → ∃ j, j < N ∧ ps j = y
  up : ∀ j k, j ≤ k → k < N → ps j ≤ ps k
  iN : i ≤ N
  lo : ∀ j, j < i → ps j < a + (n - 3) - d
  hi : ∀ j, i ≤ j → j < N → a + (n - 3) - d ≤ ps j
def Seen (l : List UInt8) (a n i : Nat) (ps : Nat → Nat) (r : Nat) : Prop := ∀ j, i ≤ j + r → j < i → rn l a (a + (n - 3) - ps j) ≤ n
theorem Seen.start (l : List UInt8) (a n i : Nat) (ps : Nat → Nat) : Seen l a n i ps 0 := fun j h1 h2 => by omega
variable {l : List UInt8} {a n d N i : Nat} {ps : Nat → Nat} {r : Nat}
theorem Seen.step (h : Seen l a n i ps r) (hr : r < i) (k : rn l a (a + (n - 3) - ps (i - 1 - r)) ≤ n) : Seen l a n i ps (r + 1) := fun j h1 h2 => by
  by_cases e : j = i - 1 - r
  · rw [e]; exact k
  · exact h j (by omega) h2
theorem Srch.place (s : Srch l a n d N i ps) {x : Nat} (h1 : d < x) (h2 : x ≤ a) (h3 : n < rn l a x) : ∃ j, j < i ∧ ps j = a + (n - 3) - x := by
  obtain ⟨j, hj, e⟩ := s.all _ (pls_hit s.n3 h2 h3)
  refine ⟨j, ?_, e⟩
  rcases Nat.lt_or_ge j i with h | h
  · exact h
  · have := s.hi j h hj; omega
theorem Seen.done (s : Srch l a n d N i ps) (h : Seen l a n i ps i) : NoNext l a n d := fun x h1 h2 => by
  rcases Nat.lt_or_ge n (rn l a x) with h3 | h3
  · obtain ⟨j, hj, e⟩ := s.place h1 h2 h3
    have := h j (by omega) hj
    rwa [e, show a + (n - 3) - (a + (n - 3) - x) = x by omega] at this
  · exact h3
theorem Seen.cut (s : Srch l a n d N i ps) (h : Seen l a n i ps r) (hr : r < i) (k : ps (i - 1 - r) < n - 3) : NoNext l a n d := fun x h1 h2 => by
  rcases Nat.lt_or_ge n (rn l a x) with h3 | h3
  · obtain ⟨j, hj, e⟩ := s.place h1 h2 h3
    have hjr : i ≤ j + r := by
      rcases Nat.lt_or_ge (j + r) i with h4 | h4
      · have := s.up j (i - 1 - r) (by omega) (by have := s.iN; omega); omega
      · exact h4
    have := h j hjr hj
    rwa [e, show a + (n - 3) - (a + (n - 3) - x) = x by omega] at this
  · exact h3
theorem Seen.found (s : Srch l a n d N i ps) (h : Seen l a n i ps r) (hr : r < i) (hk : n - 3 ≤ ps (i - 1 - r)) (k : n < rn l a (a + (n - 3) - ps (i - 1 - r))) : NextAt l a n d (rn l a (a + (n - 3) - ps (i - 1 - r))) (a + (n - 3) - ps (i - 1 - r)) := by
  have hlo := s.lo (i - 1 - r) (by omega)
  have hda := s.da
  refine ⟨by omega, by omega, rfl, k, fun x h1 h2 => ?_⟩
  rcases Nat.lt_or_ge n (rn l a x) with h3 | h3
  · obtain ⟨j, hj, e⟩ := s.place h1 (by omega) h3
    have hjr : i ≤ j + r := by
      rcases Nat.lt_or_ge (j + r) i with h4 | h4
      · have := s.up j (i - 1 - r) (by omega) (by have := s.iN; omega); omega
      · exact h4
    have := h j hjr hj
    rwa [e, show a + (n - 3) - (a + (n - 3) - x) = x by omega] at this
  · exact h3
end Go.Proofs.YtpnofkefcoaojaaGreatDoor
