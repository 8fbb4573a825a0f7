/- Boxes; the laws' results. -/
import Derived.Test.YthpeaeepcbbfcaaDoorO
namespace Go.Proofs.YthpeaeepcbbfcaaDoor
open Go.RowKit

/-- A box with its cells. -/
def Bk (W : World) (g : Nat) (cs : Array Value) (T : TypeId) : Prop := W.heap[g]? = some (.cells cs T (0, 0))
theorem Bk.lt {W : World} {g : Nat} {cs : Array Value} {T : TypeId} (h : Bk W g cs T) : g < W.heap.size := (Array.getElem?_eq_some_iff.1 h).1
theorem Bk.next {W W' : World} {g : Nat} {cs : Array Value} {T : TypeId} (h : Bk W g cs T) (hb : Below W.heap.size W W') : Bk W' g cs T := (hb.block _ h.lt).trans h
theorem Bk.new (W : World) (cs : Array Value) (T : TypeId) : Bk (W.alloc (.cells cs T)) W.heap.size cs T := heap_new _ _
theorem Bk.newAt (W : World) (cs : Array Value) (T : TypeId) (g : Nat) (hg : g = W.heap.size) : Bk (W.alloc (.cells cs T)) g cs T := by rw [hg]; exact Bk.new W cs T
theorem Bk.more {W : World} {g : Nat} {cs : Array Value} {T : TypeId} (h : Bk W g cs T) (o : Obj) : Bk (W.alloc o) g cs T := h.next (below_alloc _ _)
theorem Bk.cell {W : World} {g : Nat} {cs : Array Value} {T : TypeId} (h : Bk W g cs T) (k : Nat) : W.cell? ⟨g, k, none⟩ = cs[k]? := cell_of_heap h k
theorem Bk.free {W : World} {g : Nat} {cs : Array Value} {T : TypeId} (h : Bk W g cs T) (k : Nat) : W.frozen? ⟨g, k, none⟩ = false := free_of_heap h k
theorem bel_next {w W W' : World} (h : Below w.heap.size w W) (hb : Below W.heap.size W W') : Below w.heap.size w W' := h.trans (hb.mono h.size)
theorem ok_true {c y m d : Int} (h : Ok c y m d) : ok c y m d = true := decide_eq_true h
/-- What a law returns. -/
def LawPost (w : World) (e : Ending) (w' : World) : Prop := e = .returned (.bool true) ∧ Below w.heap.size w w'
end Go.Proofs.YthpeaeepcbbfcaaDoor
