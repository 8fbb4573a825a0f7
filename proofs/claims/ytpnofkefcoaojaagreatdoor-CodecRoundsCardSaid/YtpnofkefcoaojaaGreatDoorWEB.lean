/- The program's Undict. -/
import Derived.Test.YtpnofkefcoaojaaGreatDoorCH
import Derived.Test.YtpnofkefcoaojaaGreatDoorYB
import Derived.BigQuiet
import Derived.Test.YtpnofkefcoaojaaGreatDoorCE
import Derived.RangeFuncNested
import Derived.RangeFuncBound
import Derived.RangeFuncCalls
import Derived.RangeFuncLeaves
import Derived.Shelf.Abstract
import Derived.Shelf.RegionOpen
import Derived.OwnWalkIn
import Derived.TacticsInMore
import Derived.LoopNIn
import Derived.LoopIn
import Derived.Sort.QuietIn
import Derived.IntWalk
import Derived.RangeFuncFrom
import Derived.BigRegionIn
import Derived.Laws.OwnMore
import Derived.RangeFuncWrites
import Derived.Test.YtpnofkefcoaojaaGreatDoorV01
import Derived.BigRegion
import Derived.Deep.RegionHeld3
import Derived.Lib.BitFns
import Derived.Shelf.Strconv.Itoa0
namespace Go.Proofs.YtpnofkefcoaojaaGreatDoor
open Go.RowKit
open Go.Lib
theorem Grew.drewN {B : Nat} {w w' : World} {v v' : Value} {l : List UInt8} (h : Grew B w v l w' v') (n : Nat) : Grew B w v l (w'.drewN n) v' :=
  ⟨h.own, ⟨h.grown.os, h.grown.tape, h.grown.output, h.grown.size, h.grown.block⟩, h.lies⟩
end Go.Proofs.YtpnofkefcoaojaaGreatDoor
namespace Go.Proofs.YtpnofkefcoaojaaGreatDoor
open Go.RowKit Go.Shelf
open Go.Lib
attribute [local go_sem] Oper.semAt_some
def Two2 (Bs Bn : Nat) (W W' : World) : Prop := W'.heap[Bs]? = W.heap[Bs]? ∧ W'.heap[Bn]? = W.heap[Bn]?
theorem Two2.trans {Bs Bn : Nat} {A B C : World} (h : Two2 Bs Bn A B) (k : Two2 Bs Bn B C) : Two2 Bs Bn A C := ⟨k.1.trans h.1, k.2.trans h.2⟩
theorem Two2.c1 {Bs Bn : Nat} {A B : World} (h : Two2 Bs Bn A B) : B.cell? ⟨Bs, 0, none⟩ = A.cell? ⟨Bs, 0, none⟩ := World.cell?_of_block (a := ⟨Bs, 0, none⟩) h.1
theorem Two2.c2 {Bs Bn : Nat} {A B : World} (h : Two2 Bs Bn A B) : B.cell? ⟨Bn, 0, none⟩ = A.cell? ⟨Bn, 0, none⟩ := World.cell?_of_block (a := ⟨Bn, 0, none⟩) h.2
end Go.Proofs.YtpnofkefcoaojaaGreatDoor
namespace Go.Proofs.YtpnofkefcoaojaaGreatDoor
open Go.RowKit Go.Shelf
open Go.Lib
attribute [local go_sem] Oper.semAt_some
def BsN (N : Nat) (w : World) (p : Option Addr) (l : List UInt8) : Prop := l.length = 0 ∨ ∃ b off, p = some ⟨b, off, none⟩ ∧ b < N ∧ ∀ j, j < l.length → w.cell? ⟨b, off + j, none⟩ = some (.int .u8 (((l.getD j 0).toNat : Nat) : Int))
theorem BsN.keep {N : Nat} {w w' : World} {p : Option Addr} {l : List UInt8} (h : BsN N w p l) (hb : Below N w w') : BsN N w' p l := by
  rcases h with h0 | ⟨b, off, hp, hlt, hc⟩
  · exact .inl h0
  · exact .inr ⟨b, off, hp, hlt, fun j hj => (hb.cell (p := ⟨b, off + j, none⟩) hlt).trans (hc j hj)⟩
def Keep3 (N Bn Bb : Nat) (W W' : World) : Prop := Below N W W' ∧ W'.heap[Bn]? = W.heap[Bn]? ∧ W'.heap[Bb]? = W.heap[Bb]?
theorem Keep3.trans {N Bn Bb : Nat} {A B C : World} (h : Keep3 N Bn Bb A B) (k : Keep3 N Bn Bb B C) : Keep3 N Bn Bb A C := ⟨h.1.trans k.1, k.2.1.trans h.2.1, k.2.2.trans h.2.2⟩
theorem Keep3.refl (N Bn Bb : Nat) (A : World) : Keep3 N Bn Bb A A := ⟨Below.refl _ _, rfl, rfl⟩
theorem Keep3.c1 {N Bn Bb : Nat} {A B : World} (h : Keep3 N Bn Bb A B) : B.cell? ⟨Bn, 0, none⟩ = A.cell? ⟨Bn, 0, none⟩ := World.cell?_of_block (a := ⟨Bn, 0, none⟩) h.2.1
theorem Keep3.c2 {N Bn Bb : Nat} {A B : World} (h : Keep3 N Bn Bb A B) : B.cell? ⟨Bb, 0, none⟩ = A.cell? ⟨Bb, 0, none⟩ := World.cell?_of_block (a := ⟨Bb, 0, none⟩) h.2.2
end Go.Proofs.YtpnofkefcoaojaaGreatDoor
namespace Go.Proofs.YtpnofkefcoaojaaGreatDoor
open Go.RowKit Go.Shelf
open Go.Lib
attribute [local go_sem] Oper.semAt_some
theorem own_ne {W : World} {B k : Nat} {v : Value} {L : List UInt8} {cs : Array Value} {t : TypeId} {fz : Nat × Nat} (h : W.ownsRow B 5 1 v L.length (ubs L)) (hk : W.heap[k]? = some (.cells cs t fz)) (ht : t ≠ 5) : some k ≠ v.ownBlock := by
  obtain ⟨-, ⟨rfl, -⟩ | ⟨g, cap, cur, rfl, -, hh, -⟩⟩ := h
  · intro e; cases e
  · intro e
    have e1 : k = g := Option.some.inj e
    subst e1
    rw [hk] at hh
    cases hh
    exact ht rfl
theorem own_keepB {W W' : World} {B : Nat} {v : Value} {L : List UInt8} (h : W.ownsRow B 5 1 v L.length (ubs L)) (hk : ∀ (k : Nat) (cs : Array Value), W.heap[k]? = some (.cells cs 5 (0, 0)) → W'.heap[k]? = some (.cells cs 5 (0, 0))) : W'.ownsRow B 5 1 v L.length (ubs L) := by
  obtain ⟨h1, h2 | ⟨g, cap, cur, hv, hg, hh, h3⟩⟩ := h
  · exact ⟨h1, .inl h2⟩
  · exact ⟨h1, .inr ⟨g, cap, cur, hv, hg, hk g cur hh, h3⟩⟩
theorem block_of_set {W : World} {g : Nat} {v u : Value} {t : TypeId} (h : W.heap[g]? = some (.cells #[u] t (0, 0))) : (W.setCell ⟨g, 0, none⟩ v).heap[g]? = some (.cells #[v] t (0, 0)) := by
  obtain ⟨h1, h2⟩ := Array.getElem?_eq_some_iff.1 h
  unfold World.setCell
  rw [Array.getElem?_eq_getElem (by simpa using h1), Array.getElem_modify]
  simp [h2]
structure ChI (f N M Bl n : Nat) (p : Option Addr) (len c : Nat) (w : World) (v : Value) (L : List UInt8) (a : Nat) (W : World) : Prop where
  own : W.ownsRow Bl 5 1 v L.length (ubs L)
  out : W.heap[M]? = some (.cells #[v] 39 (0, 0))
  st : W.heap[Bl]? = some (.cells #[.int .u64 (a : Int)] 86 (0, 0))
  b4 : W.heap[N]? = some (.cells #[.int .i64 (n : Int)] 3 (0, 0))
  b5 : W.heap[N + 1]? = some (.cells #[.func (.func f) #[] #[.pointer (some ⟨Bl, 0, none⟩)]] 141 (0, 0))
  i1 : W.heap[M + 1]? = some (.cells #[.slice p len c] 39 (0, 0))
  i2 : W.heap[M + 1 + 1]? = some (.cells #[.int .i64 (n : Int)] 3 (0, 0))
  bel : Below Bl w W
section
variable {f N M Bl n : Nat} {p : Option Addr} {len c : Nat} {w W W' : World} {v v' : Value} {L L' : List UInt8} {a a' : Nat}
theorem ChI.keep (h : ChI f N M Bl n p len c w v L a W) {row : Option Nat} (hg : W.grownBy W' row) (hr : ∀ r, row = some r → Bl ≤ r ∧ ∃ o : Obj, W.heap[r]? = some o ∧ o.isCells = false) (hB : Bl ≤ W.heap.size) : ChI f N M Bl n p len c w v L a W' := by
  have hk : ∀ {k : Nat} {o : Obj}, W.heap[k]? = some o → o.isCells = true → W'.heap[k]? = some o := fun h1 h2 => (grownBy_keeps_cells hg (fun r e => (hr r e).2) h1 h2).trans h1
  exact ⟨own_keepB h.own (fun k cs h1 => hk h1 rfl), hk h.out rfl, hk h.st rfl, hk h.b4 rfl, hk h.b5 rfl, hk h.i1 rfl, hk h.i2 rfl, h.bel.grown hg hB (fun k e => (hr k e).1)⟩
theorem ChI.lt (h : ChI f N M Bl n p len c w v L a W) : Bl ≤ W.heap.size := Nat.le_of_lt (Array.getElem?_eq_some_iff.1 h.st).1
theorem ChI.drew (h : ChI f N M Bl n p len c w v L a W) : ChI f N M Bl n p len c w v L a W.drew := ⟨h.own, h.out, h.st, h.b4, h.b5, h.i1, h.i2, h.bel.drew⟩
theorem ChI.call (h : ChI f N M Bl n p len c w v L a W) (h1 : Bl < N) (h2 : Bl < M) (a' : Nat) : ChI f N M Bl n p len c w v L a' (W.setCell ⟨Bl, 0, none⟩ (.int .u64 (a' : Int))) := by
  have hk : ∀ {k : Nat} {o : Obj}, k ≠ Bl → W.heap[k]? = some o → (W.setCell ⟨Bl, 0, none⟩ (.int .u64 (a' : Int))).heap[k]? = some o := fun hne h1 => (Below.heap_setCell W ⟨Bl, 0, none⟩ _ _ hne).trans h1
  refine ⟨own_keepB h.own (fun k cs h3 => hk ?_ h3), hk (by omega) h.out, block_of_set h.st, hk (by omega) h.b4, hk (by omega) h.b5, hk (by omega) h.i1, hk (by omega) h.i2, h.bel.setCell (p := ⟨Bl, 0, none⟩) (Nat.le_refl _) _⟩
  rintro rfl
  rw [h.st] at h3; cases h3
end
end Go.Proofs.YtpnofkefcoaojaaGreatDoor
namespace Go.Proofs.YtpnofkefcoaojaaGreatDoor
def bv (b : Nat → Nat) (q : Nat) : Nat → Nat
  | 0 => 0
  | r + 1 => bv b q r + b (8 * q + r) * 2 ^ (7 - r)
abbrev bl (x : Nat) : Nat := Lib.bitLen x
end Go.Proofs.YtpnofkefcoaojaaGreatDoor
namespace Go.Proofs.YtpnofkefcoaojaaGreatDoor
open Go.RowKit Go.Shelf
open Go.Lib
attribute [local go_sem] Oper.semAt_some
structure SpI (N n : Nat) (p : Option Addr) (len c : Nat) (w : World) (a z : Nat) (W : World) : Prop where
  b6 : W.heap[N]? = some (.cells #[.int .u64 (a : Int)] 86 (0, 0))
  b7 : W.heap[N + 1]? = some (.cells #[.int .u64 (z : Int)] 86 (0, 0))
  i1 : W.heap[N + 1 + 1]? = some (.cells #[.slice p len c] 39 (0, 0))
  i2 : W.heap[N + 1 + 1 + 1]? = some (.cells #[.int .i64 (n : Int)] 3 (0, 0))
  bel : Below N w W
section
variable {N n : Nat} {p : Option Addr} {len c : Nat} {w W W' : World} {a z : Nat}
theorem SpI.keep (h : SpI N n p len c w a z W) {row : Option Nat} (hg : W.grownBy W' row) (hr : ∀ r, row = some r → N ≤ r ∧ ∃ o : Obj, W.heap[r]? = some o ∧ o.isCells = false) (hB : N ≤ W.heap.size) : SpI N n p len c w a z W' := by
  have hk : ∀ {k : Nat} {o : Obj}, W.heap[k]? = some o → o.isCells = true → W'.heap[k]? = some o := fun h1 h2 => (grownBy_keeps_cells hg (fun r e => (hr r e).2) h1 h2).trans h1
  exact ⟨hk h.b6 rfl, hk h.b7 rfl, hk h.i1 rfl, hk h.i2 rfl, h.bel.grown hg hB (fun k e => (hr k e).1)⟩
theorem SpI.lt (h : SpI N n p len c w a z W) : N ≤ W.heap.size := Nat.le_of_lt (Array.getElem?_eq_some_iff.1 h.b6).1
end
end Go.Proofs.YtpnofkefcoaojaaGreatDoor
