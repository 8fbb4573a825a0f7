/- The document's Div and Compare on texts; the law QuantityOps. -/
import Derived.Test.YtpnofkefcoaojaaGreatDoorV01
import Derived.Outline
import Derived.Test.YtpnofkefcoaojaaGreatDoorV05
import Derived.Test.YtpnofkefcoaojaaGreatDoorV10
import Derived.Deep.LoopGhost
import Derived.Deep.RegionHeld3
import Derived.Deep.RegionWith
set_option maxHeartbeats 3200000
set_option maxRecDepth 100000
namespace Go.Proofs.YtpnofkefcoaojaaGreatDoor
open Go.RowKit Big
open Go.Lib
theorem sgn_same (q : Rat) : sgnQ q = sgnR q := by
  unfold sgnQ sgnR
  have h1 : q.num < 0 ↔ q < 0 := by rw [← Rat.not_le, ← Rat.num_nonneg]; omega
  have h2 : q.num = 0 ↔ q = 0 := Rat.num_eq_zero
  simp only [h1, h2]
end Go.Proofs.YtpnofkefcoaojaaGreatDoor
set_option maxHeartbeats 3200000
set_option maxRecDepth 100000
namespace Go.Proofs.YtpnofkefcoaojaaGreatDoor
open Go.RowKit Big
open Go.Lib
end Go.Proofs.YtpnofkefcoaojaaGreatDoor
namespace Go.Proofs.YtpnofkefcoaojaaGreatDoor
open Go.RowKit Big
open Go.Lib
end Go.Proofs.YtpnofkefcoaojaaGreatDoor
namespace Go.Proofs.YtpnofkefcoaojaaGreatDoor
open Go.RowKit Big
open Go.Lib
structure TwoH (B g : Nat) (s : Bool) (u1 v1 : Value) (t : Bool) (u2 v2 : Value) (x0 x1 x2 : Value) (w0 W : World) : Prop where
  two : Two B s u1 v1 t u2 v2 w0 W
  hg : g < w0.heap.size
  hb : w0.heap.size ≤ B
  h : W.heap[g]? = some (.cells #[x0, x1, x2] 98 (0, 0))
section
variable {B g : Nat} {s : Bool} {u1 v1 : Value} {t : Bool} {u2 v2 : Value} {x0 x1 x2 : Value} {w0 W W' : World}
theorem TwoH.next (h : TwoH B g s u1 v1 t u2 v2 x0 x1 x2 w0 W) (hb : Below W.heap.size W W') : TwoH B g s u1 v1 t u2 v2 x0 x1 x2 w0 W' :=
  ⟨h.two.next hb, h.hg, h.hb, (hb.block _ (by have := h.two.size; have := h.hg; have := h.hb; omega)).trans h.h⟩
theorem TwoH.drew (h : TwoH B g s u1 v1 t u2 v2 x0 x1 x2 w0 W) : TwoH B g s u1 v1 t u2 v2 x0 x1 x2 w0 W.drew := ⟨h.two.drew, h.hg, h.hb, h.h⟩
theorem TwoH.below (h : TwoH B g s u1 v1 t u2 v2 x0 x1 x2 w0 W) : Below w0.heap.size w0 W := h.two.below
theorem TwoH.put3 (h : TwoH B g s u1 v1 t u2 v2 x0 x1 x2 w0 W) (a : Bool) (p q : Option Addr) (n c m d : Nat) : TwoH B g s u1 v1 t u2 v2 x0 x1 x2 w0 (((W.setCell ⟨B + 1 + 1, 0, none⟩ (.bool a)).setCell ⟨B + 1 + 1, 1, none⟩ (.slice p n c)).setCell ⟨B + 1 + 1, 2, none⟩ (.slice q m d)) :=
  have hne : g ≠ B + 1 + 1 := by have := h.hg; have := h.hb; omega
  ⟨h.two.put3 h.hb _ _ _ _ _ _ _, h.hg, h.hb, ((Below.heap_setCell _ _ _ _ hne).trans (Below.heap_setCell _ _ _ _ hne)).trans ((Below.heap_setCell _ _ _ _ hne).trans h.h)⟩
theorem TwoH.all (h : TwoH B g s u1 v1 t u2 v2 x0 x1 x2 w0 W) : TwoH B g s u1 v1 t u2 v2 x0 x1 x2 w0 W ∧ W.cell? ⟨B, 0, none⟩ = some (.bool s) ∧ W.cell? ⟨B, 1, none⟩ = some u1 ∧ W.cell? ⟨B, 2, none⟩ = some v1 ∧
    W.cell? ⟨B + 1, 0, none⟩ = some (.bool t) ∧ W.cell? ⟨B + 1, 1, none⟩ = some u2 ∧ W.cell? ⟨B + 1, 2, none⟩ = some v2 ∧ W.cell? ⟨g, 0, none⟩ = some x0 ∧ W.cell? ⟨g, 1, none⟩ = some x1 ∧ W.cell? ⟨g, 2, none⟩ = some x2 :=
  ⟨h, ceh h.two.x 0, ceh h.two.x 1, ceh h.two.x 2, ceh h.two.y 0, ceh h.two.y 1, ceh h.two.y 2, ceh h.h 0, ceh h.h 1, ceh h.h 2⟩
end
end Go.Proofs.YtpnofkefcoaojaaGreatDoor
namespace Go.Proofs.YtpnofkefcoaojaaGreatDoor
open Go.RowKit Big
end Go.Proofs.YtpnofkefcoaojaaGreatDoor
namespace Go.Proofs.YtpnofkefcoaojaaGreatDoor
open Go.RowKit Big
variable {B : Nat} {s : Bool} {u1 v1 : Value} {t : Bool} {u2 v2 : Value} {w0 W W' : World}
end Go.Proofs.YtpnofkefcoaojaaGreatDoor
namespace Go.Proofs.YtpnofkefcoaojaaGreatDoor
open Go.RowKit Big
end Go.Proofs.YtpnofkefcoaojaaGreatDoor
namespace Big
theorem ratv_neg (s : Bool) (a b : Nat) : ratv (!s) a b = - ratv s a b := by
  unfold ratv
  cases s <;> simp <;> grind
end Big
