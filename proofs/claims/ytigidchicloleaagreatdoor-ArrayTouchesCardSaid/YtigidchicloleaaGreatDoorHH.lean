/- The program's Resize. -/
import Derived.Test.YtigidchicloleaaGreatDoorIF
namespace Go.Proofs.YtigidchicloleaaGreatDoor.Arr
open Go.RowKit Go.Shelf
open Go.Lib
attribute [local go_sem] Oper.semAt_some
structure RO (B0 A n m c d : Nat) (p q : Option Addr) (s : List Nat) (l : List (List UInt8)) (v : List UInt8) (W : World) : Prop where
  box : W.heap[A]? = some (.cells #[.slice p n c, .slice q m d] 25 (0, 0))
  bv : W.heap[A + 1]? = some (.cells #[.string ⟨List.toArray v⟩] 9 (0, 0))
  sh : RdN W p s
  vals : RdS W q l
  lt : A + 1 < B0
  pb : ∀ b off, p = some ⟨b, off, none⟩ → 0 < s.length → b < B0
  qb : ∀ b off, q = some ⟨b, off, none⟩ → 0 < l.length → b < B0
theorem RO.above {B0 A n m c d : Nat} {p q : Option Addr} {s : List Nat} {l : List (List UInt8)} {v : List UInt8} {W W' : World} {r : Option Nat} (h : RO B0 A n m c d p q s l v W) (hg : W.grownBy W' r) (hr : ∀ k, r = some k → B0 ≤ k) : RO B0 A n m c d p q s l v W' := by
  have hk : ∀ b, b < W.heap.size → b < B0 → W'.heap[b]? = W.heap[b]? := fun b h1 h2 => hg.block b h1 (by intro e; have := hr b e.symm; omega)
  have hl := h.lt
  refine ⟨(hk A (Array.getElem?_eq_some_iff.1 h.box).1 (by omega)).trans h.box, (hk (A + 1) (Array.getElem?_eq_some_iff.1 h.bv).1 hl).trans h.bv, h.sh.keep hg.size (fun b off e h0 => ?_), h.vals.keep hg.size (fun b off e h0 => ?_), hl, h.pb, h.qb⟩
  · obtain ⟨b', off', x, e', hb', -⟩ := h.sh.at h0
    rw [e] at e'; cases e'
    exact hk b hb' (h.pb b off e h0)
  · obtain ⟨b', off', x, e', hb', -⟩ := h.vals.at h0
    rw [e] at e'; cases e'
    exact hk b hb' (h.qb b off e h0)
end Go.Proofs.YtigidchicloleaaGreatDoor.Arr
