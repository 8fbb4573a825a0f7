/- Which lists are so many different dimensions. -/
import Derived.Test.YtaldangjhdddoaaGreatDoorHE
import Derived.Test.YtaldangjhdddoaaGreatDoorGI
namespace Go.Proofs.YtaldangjhdddoaaGreatDoor.Arr
open Go.RowKit Go.Shelf
open Go.Lib
attribute [local go_sem] Oper.semAt_some
theorem getD_take {l : List Int} {i j : Nat} (h : j < i) : (l.take i).getD j 0 = l.getD j 0 := by
  rw [List.getD_eq_getElem?_getD, List.getElem?_take_of_lt h, ← List.getD_eq_getElem?_getD]
theorem Rd.take {w : World} {p : Option Addr} {l : List Int} (h : Rd w p l) (i : Nat) : Rd w p (l.take i) := by
  refine ⟨fun z hz => h.wf z (List.mem_of_mem_take hz), ?_⟩
  rcases h.cell with h0 | ⟨b, off, h1, h2, h3⟩
  · exact .inl (by rw [List.length_take]; omega)
  · exact .inr ⟨b, off, h1, h2, fun j hj => by
      rw [List.length_take] at hj
      rw [getD_take (by omega)]; exact h3 j (by omega)⟩
end Go.Proofs.YtaldangjhdddoaaGreatDoor.Arr
namespace Go.Proofs.YtaldangjhdddoaaGreatDoor.Arr
open Go.RowKit
open Go.Lib
attribute [local go_sem] Oper.semAt_some
theorem ixOf_small {s : List Nat} {i : Nat} (hi : i < prod s) (hsb : ∀ x ∈ s, x ≤ 1024) : ∀ x ∈ ixOf s i, x < 1024 := fun x hx => by
  obtain ⟨k, hk, e⟩ := List.getElem_of_mem hx
  have h1 := (ixOf_is s i hi).1
  have h2 := h1.2 k (by rw [← h1.1]; exact hk)
  have h3 := hsb (s.getD k 0) (by rw [List.getD_eq_getElem?_getD, List.getElem?_eq_getElem (by rw [← h1.1]; exact hk)]; exact List.getElem_mem _)
  rw [List.getD_eq_getElem?_getD, List.getElem?_eq_getElem hk, Option.getD_some, e] at h2
  omega
end Go.Proofs.YtaldangjhdddoaaGreatDoor.Arr
namespace Go.Proofs.YtaldangjhdddoaaGreatDoor.Arr
open Go.RowKit Go.Shelf
open Go.Lib
attribute [local go_sem] Oper.semAt_some
def pk (s axes : List Nat) : List Nat := axes.map (fun a => s.getD a 0)
end Go.Proofs.YtaldangjhdddoaaGreatDoor.Arr
namespace Go.Proofs.YtaldangjhdddoaaGreatDoor.Arr
open Go.RowKit Go.Shelf
open Go.Lib
attribute [local go_sem] Oper.semAt_some
structure Sp (B0 Ba Bx Bf R n m c d cx : Nat) (p q xq : Option Addr) (s axes : List Nat) (l : List (List UInt8)) (W : World) : Prop where
  ba : W.heap[Ba]? = some (.cells #[.slice p n c, .slice q m d] 25 (0, 0))
  bx : W.heap[Bx]? = some (.cells #[.slice xq n cx] 22 (0, 0))
  bf : W.heap[Bf]? = some (.cells #[.slice (some ⟨R, 0, none⟩) n n] 22 (0, 0))
  row : ∃ r0 : List Nat, r0.length = n ∧ W.heap[R]? = some (.cells (ixC r0) 3 (0, 0))
  sh : RdN W p s
  vals : RdS W q l
  ax : RdN W xq axes
  lts : Ba < B0 ∧ Bx < B0 ∧ Bf < B0 ∧ R < B0 ∧ Ba ≠ R ∧ Bx ≠ R ∧ Bf ≠ R
  lp : ∀ b off, p = some ⟨b, off, none⟩ → 0 < s.length → b < B0 ∧ b ≠ R
  lq : ∀ b off, q = some ⟨b, off, none⟩ → 0 < l.length → b < B0 ∧ b ≠ R
  lx : ∀ b off, xq = some ⟨b, off, none⟩ → 0 < axes.length → b < B0 ∧ b ≠ R
section
variable {B0 Ba Bx Bf R n m c d cx : Nat} {p q xq : Option Addr} {s axes : List Nat} {l : List (List UInt8)} {W W' : World}
theorem Sp.keep (h : Sp B0 Ba Bx Bf R n m c d cx p q xq s axes l W) (hs : W.heap.size ≤ W'.heap.size) (hk : ∀ b, b < W.heap.size → b < B0 → b ≠ R → W'.heap[b]? = W.heap[b]?) (hR : ∃ r0 : List Nat, r0.length = n ∧ W'.heap[R]? = some (.cells (ixC r0) 3 (0, 0))) : Sp B0 Ba Bx Bf R n m c d cx p q xq s axes l W' := by
  obtain ⟨l1, l2, l3, l4, l5, l6, l7⟩ := h.lts
  have sz : ∀ {k : Nat} {o : Obj}, W.heap[k]? = some o → k < W.heap.size := fun hh => (Array.getElem?_eq_some_iff.1 hh).1
  refine ⟨(hk Ba (sz h.ba) l1 l5).trans h.ba, (hk Bx (sz h.bx) l2 l6).trans h.bx, (hk Bf (sz h.bf) l3 l7).trans h.bf, hR, h.sh.keep hs (fun b off e h0 => ?_), h.vals.keep hs (fun b off e h0 => ?_), h.ax.keep hs (fun b off e h0 => ?_), h.lts, h.lp, h.lq, h.lx⟩
  · obtain ⟨b', off', x, e', hb', -⟩ := h.sh.at h0
    rw [e] at e'; cases e'
    exact hk b hb' (h.lp b off e h0).1 (h.lp b off e h0).2
  · obtain ⟨b', off', x, e', hb', -⟩ := h.vals.at h0
    rw [e] at e'; cases e'
    exact hk b hb' (h.lq b off e h0).1 (h.lq b off e h0).2
  · obtain ⟨b', off', x, e', hb', -⟩ := h.ax.at h0
    rw [e] at e'; cases e'
    exact hk b hb' (h.lx b off e h0).1 (h.lx b off e h0).2
theorem Sp.above (h : Sp B0 Ba Bx Bf R n m c d cx p q xq s axes l W) {r : Option Nat} (hg : W.grownBy W' r) (hr : ∀ k, r = some k → B0 ≤ k) : Sp B0 Ba Bx Bf R n m c d cx p q xq s axes l W' := by
  refine h.keep hg.size (fun b hb hb0 _ => hg.block b hb (fun e => by have := hr b e.symm; omega)) ?_
  obtain ⟨r0, h1, h2⟩ := h.row
  exact ⟨r0, h1, (hg.block R (Array.getElem?_eq_some_iff.1 h2).1 (fun e => by have := hr R e.symm; have := h.lts.2.2.2.1; omega)).trans h2⟩
theorem Sp.atRow (h : Sp B0 Ba Bx Bf R n m c d cx p q xq s axes l W) (hg : W.grownBy W' (some R)) (hR : ∃ r0 : List Nat, r0.length = n ∧ W'.heap[R]? = some (.cells (ixC r0) 3 (0, 0))) : Sp B0 Ba Bx Bf R n m c d cx p q xq s axes l W' :=
  h.keep hg.size (fun b hb _ hne => hg.block b hb (fun e => hne (Option.some.inj e))) hR
end
end Go.Proofs.YtaldangjhdddoaaGreatDoor.Arr
namespace Go.Proofs.YtaldangjhdddoaaGreatDoor.Arr
open Go.RowKit Go.Shelf
open Go.Lib
attribute [local go_sem] Oper.semAt_some
theorem ext_getD {a b : List Nat} (h : a.length = b.length) (hk : ∀ k, k < a.length → a.getD k 0 = b.getD k 0) : a = b := by
  refine List.ext_getElem h (fun k h1 h2 => ?_)
  have := hk k h1
  rw [List.getD_eq_getElem?_getD, List.getElem?_eq_getElem h1, List.getD_eq_getElem?_getD, List.getElem?_eq_getElem h2] at this
  exact this
end Go.Proofs.YtaldangjhdddoaaGreatDoor.Arr
namespace Go.Proofs.YtaldangjhdddoaaGreatDoor.Arr
open Go.RowKit Go.Shelf
open Go.Lib
def bk (ax : List Nat) (i : Nat) : List Nat := (List.range ax.length).map (fun j => if ax.idxOf j < i then ax.idxOf j else 0)
theorem mem_getD {l : List Nat} {x : Nat} (h : x ∈ l) : ∃ k, k < l.length ∧ l.getD k 0 = x := by
  obtain ⟨k, hk, e⟩ := List.getElem_of_mem h
  exact ⟨k, hk, by rw [List.getD_eq_getElem?_getD, List.getElem?_eq_getElem hk]; exact e⟩
end Go.Proofs.YtaldangjhdddoaaGreatDoor.Arr
