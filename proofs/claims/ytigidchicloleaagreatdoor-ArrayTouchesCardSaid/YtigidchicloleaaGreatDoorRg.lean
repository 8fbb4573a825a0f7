/- The document's Plus. -/
import Derived.Test.YtigidchicloleaaGreatDoorRd
import Derived.Outline
import Derived.RegionTactic
import Derived.ChangeAlike
import Derived.BigRegion
import Derived.Deep.RegionHeld3
set_option maxHeartbeats 3200000
set_option maxRecDepth 100000
namespace Go.Proofs.YtigidchicloleaaGreatDoor
open Go.RowKit Big
theorem QLt.neg {K : Nat} {q : Rat} (h : QLt K q) : QLt K (-q) := ⟨by rw [Rat.neg_num, Int.natAbs_neg]; exact h.1, by rw [Rat.neg_den]; exact h.2⟩
end Go.Proofs.YtigidchicloleaaGreatDoor
namespace Go.Proofs.YtigidchicloleaaGreatDoor
open Go.RowKit Big
open Go.Lib
def u8s (l : List UInt8) : List Value := l.map fun b => Value.int .u8 (b.toNat : Int)
structure AccB (B : Nat) (w wr : World) (v : Value) (l : List UInt8) : Prop where
  own : wr.ownsRow B 5 1 v l.length (u8s l)
  below : Below B w wr
theorem AccB.next {B : Nat} {w wr w5 : World} {v v5 : Value} {l : List UInt8} {m : Nat} {c : UInt8} {o : Obj} (h : AccB B w wr v l) (hB : B ≤ wr.heap.size) (hm : m = l.length + 1) (hown : w5.ownsRow B 5 1 v5 m (u8s l ++ [.int .u8 (c.toNat : Int)])) (hg : (wr.alloc o).grownBy w5 v.ownBlock) : AccB B w w5 v5 (l ++ [c]) := by
  subst hm
  refine ⟨?_, ?_⟩
  · have e : u8s (l ++ [c]) = u8s l ++ [.int .u8 (c.toNat : Int)] := by simp [u8s]
    rw [e, List.length_append]; exact hown
  · exact (h.below.alloc hB o).grown hg (by simp; omega) (fun k hk => (h.own.lt k hk).1)
theorem AccB.slice {B : Nat} {w wr : World} {v : Value} {l : List UInt8} (h : AccB B w wr v l) : ∃ p c, v = .slice p l.length c ∧ (0 < l.length → ∃ g, p = some ⟨g, 0, none⟩ ∧ B ≤ g ∧ g < wr.heap.size ∧ ∀ j (hj : j < l.length), wr.cell? ⟨g, j, none⟩ = some (.int .u8 (l[j].toNat : Int))) := by
  obtain ⟨h1, h2⟩ := h.own
  rcases h2 with ⟨rfl, h3⟩ | ⟨g, cap, cur, rfl, hg, hh, hn, hm, hs, hc⟩
  · exact ⟨none, 0, by rw [h3], fun hl => by omega⟩
  · refine ⟨_, cap, rfl, fun hl => ⟨g, rfl, hg, (Array.getElem?_eq_some_iff.1 hh).1, fun j hj => ?_⟩⟩
    rw [Nat.mul_one] at hc
    have e : cur[j]? = (u8s l)[j]? := by rw [← hc, List.getElem?_take_of_lt hj, Array.getElem?_toList]
    simp only [World.cell?, hh]
    simp [e, u8s, hj]
end Go.Proofs.YtigidchicloleaaGreatDoor
set_option maxHeartbeats 1600000
set_option maxRecDepth 100000
namespace Go.Proofs.YtigidchicloleaaGreatDoor
open Go.RowKit Go.Lib Big
abbrev Blk := Nat × Array Value × TypeId
structure Keep (w0 W : World) (L : List Blk) : Prop where
  below : Below w0.heap.size w0 W
  all : ∀ x ∈ L, W.heap[x.1]? = some (.cells x.2.1 x.2.2 (0, 0))
section
variable {w0 W W' : World} {L : List Blk}
theorem Keep.next (h : Keep w0 W L) (hb : Below W.heap.size W W') : Keep w0 W' L :=
  ⟨h.below.trans (hb.mono h.below.size), fun x hx => (hb.block _ (Array.getElem?_eq_some_iff.1 (h.all x hx)).1).trans (h.all x hx)⟩
theorem Keep.drew (h : Keep w0 W L) : Keep w0 W.drew L := ⟨h.below.drew, h.all⟩
theorem Keep.one (h : Keep w0 W L) (x : Blk) (hx : x ∈ L) : W.heap[x.1]? = some (.cells x.2.1 x.2.2 (0, 0)) := h.all x hx
theorem Keep.nil (w : World) : Keep w w [] := ⟨Below.refl _ _, fun _ h => by cases h⟩
theorem Keep.put {g : Nat} {c : Array Value} {T : TypeId} (h : Keep w0 W ((g, c, T) :: L)) (hg : w0.heap.size ≤ g) (hne : ∀ x ∈ L, x.1 ≠ g) (k : Nat) (v : Value) : Keep w0 (W.setCell ⟨g, k, none⟩ v) ((g, c.setIfInBounds k v, T) :: L) := by
  refine ⟨h.below.setCell hg _, fun x hx => ?_⟩
  rcases List.mem_cons.1 hx with rfl | hx
  · exact heap_set g k c T v (h.all _ (List.mem_cons_self ..))
  · exact (Below.heap_setCell _ _ _ _ (hne x hx)).trans (h.all x (List.mem_cons_of_mem _ hx))
theorem Keep.lt (h : Keep w0 W L) {x : Blk} (hx : x ∈ L) : x.1 < W.heap.size := (Array.getElem?_eq_some_iff.1 (h.all x hx)).1
end
end Go.Proofs.YtigidchicloleaaGreatDoor
set_option maxHeartbeats 3200000
set_option maxRecDepth 100000
namespace Go.Proofs.YtigidchicloleaaGreatDoor
open Go.RowKit Big
open Go.Lib
structure ReadInv (l : List UInt8) (e : Nat) (z : Int) (L : List Nat) : Prop where
  le : e ≤ l.length
  at_ : (z = e ∧ 9 * L.length + e = l.length) ∨ (z < 0 ∧ e = 0)
  dig : Dig B9 L
  eq : val B9 L = dval (l.drop e)
  len : L.length ≤ l.length
theorem chunk_lt (l : List UInt8) (st i : Nat) (ha : l.all isDig = true) : dval ((l.drop st).take (i - st)) < 10 ^ (i - st) := by
  have h1 : ((l.drop st).take (i - st)).all isDig = true := by
    rw [List.all_eq_true] at ha ⊢
    exact fun x hx => ha x (List.mem_of_mem_drop (List.mem_of_mem_take hx))
  have h2 := dval_lt _ h1
  have h3 : 10 ^ ((l.drop st).take (i - st)).length ≤ 10 ^ (i - st) := Nat.pow_le_pow_right (by omega) (by rw [List.length_take]; omega)
  omega
theorem ReadInv.next {l : List UInt8} {e st : Nat} {z : Int} {L : List Nat} (h : ReadInv l e z L) (ha : l.all isDig = true) (he : 0 < e) (hst : st = e - 9) :
    ReadInv l st (z - 9) (L ++ [dval ((l.drop st).take (e - st))]) := by
  have hle := h.le
  have hat : z = e ∧ 9 * L.length + e = l.length := h.at_.resolve_right fun h => by omega
  have hc := chunk_lt l st e ha
  have h9 : (10 : Nat) ^ (e - st) ≤ 10 ^ 9 := Nat.pow_le_pow_right (by omega) (by omega)
  have e9 := B9_eq
  refine ⟨by omega, ?_, h.dig.append (Dig.one (by omega)), ?_, by rw [List.length_append]; simp; omega⟩
  · by_cases h10 : 9 ≤ e
    · exact .inl ⟨by omega, by rw [List.length_append]; simp; omega⟩
    · exact .inr ⟨by omega, by omega⟩
  · have e1 : l.drop st = (l.drop st).take (e - st) ++ l.drop e := by
      conv => lhs; rw [← List.take_append_drop (e - st) (l.drop st)]
      rw [List.drop_drop, show st + (e - st) = e from by omega]
    rw [val_snoc, h.eq]
    conv => rhs; rw [e1]
    rw [dval_append, List.length_drop, B9_pow, show 9 * L.length = l.length - e from by omega, Nat.mul_comm, Nat.add_comm]
structure Bx (B : Nat) (c : Array Value) (w0 W : World) : Prop where
  size : B + 1 ≤ W.heap.size
  below : Below w0.heap.size w0 W
  x : W.heap[B]? = some (.cells c 112 (0, 0))
theorem Bx.start (w : World) (c : Array Value) : Bx w.heap.size c w (w.alloc (.cells c 112)) := ⟨by simp, below_alloc9 _ _, heap_new _ _⟩
theorem Bx.next {B : Nat} {c : Array Value} {w0 W W' : World} (h : Bx B c w0 W) (hb : Below W.heap.size W W') : Bx B c w0 W' := ⟨Nat.le_trans h.size hb.size, h.below.trans (hb.mono h.below.size), (hb.block _ (by have := h.size; omega)).trans h.x⟩
theorem Bx.drew {B : Nat} {c : Array Value} {w0 W : World} (h : Bx B c w0 W) : Bx B c w0 W.drew := ⟨h.size, h.below.drew, h.x⟩
theorem Bx.all {B : Nat} {a b c : Value} {w0 W : World} (h : Bx B #[a, b, c] w0 W) : Bx B #[a, b, c] w0 W ∧ W.cell? ⟨B, 0, none⟩ = some a ∧ W.cell? ⟨B, 1, none⟩ = some b ∧ W.cell? ⟨B, 2, none⟩ = some c :=
  ⟨h, ceh h.x 0, ceh h.x 1, ceh h.x 2⟩
end Go.Proofs.YtigidchicloleaaGreatDoor
set_option maxHeartbeats 3200000
set_option maxRecDepth 100000
namespace Go.Proofs.YtigidchicloleaaGreatDoor
open Go.RowKit Big
open Go.Lib
def iterAt (W : World) (g : Nat) (s : ByteArray) (pos : Nat) : World := { W with heap := W.heap.setIfInBounds g (.stringIter s pos) }
theorem iterAt_below (W : World) (g : Nat) (s : ByteArray) (pos : Nat) {B : Nat} (hB : B ≤ g) : Below B W (iterAt W g s pos) :=
  ⟨rfl, rfl, rfl, by simp [iterAt], fun k hk => by simp only [iterAt]; rw [Array.getElem?_setIfInBounds_ne (by omega)]⟩
theorem iterAt_new (W : World) (g : Nat) (s : ByteArray) (pos : Nat) (h : g < W.heap.size) : (iterAt W g s pos).heap[g]? = some (.stringIter s pos) := by
  simp [iterAt, h]
structure DotAt (w wr : World) (g : Nat) (mo : ByteArray) (pos : Nat) (dv : Value) : Prop where
  nat : Nat9 wr dv (10 ^ pos)
  it : wr.heap[g]? = some (.stringIter mo pos)
  res : Resa w.heap.size w wr
  gt : w.heap.size < g
  le : pos ≤ mo.size
theorem DotAt.step {w wr w5 : World} {g pos : Nat} {mo : ByteArray} {dv d2 : Value} (h : DotAt w wr g mo pos dv) (hlt : pos < mo.size) (hb : Below (iterAt wr g mo (pos + 1)).heap.size (iterAt wr g mo (pos + 1)) w5) (h2 : Nat9 w5 d2 (10 ^ (pos + 1))) : DotAt w w5 g mo (pos + 1) d2 := by
  have hg := (Array.getElem?_eq_some_iff.1 h.it).1
  have hs : (iterAt wr g mo (pos + 1)).heap.size = wr.heap.size := by simp [iterAt]
  have hr : Resa w.heap.size w (iterAt wr g mo (pos + 1)) := by
    refine ⟨by rw [hs]; exact h.res.size, h.res.below.trans (iterAt_below _ _ _ _ (Nat.le_of_lt h.gt)), ?_⟩
    obtain ⟨z0, z1, z2, hz, hn⟩ := h.res.z
    refine ⟨z0, z1, z2, ?_, hn⟩
    rw [← hz]; simp only [iterAt]; rw [Array.getElem?_setIfInBounds_ne (by have := h.gt; omega)]
  refine ⟨h2, ?_, hr.next hb, h.gt, hlt⟩
  rw [hb.block g (by rw [hs]; exact hg)]
  exact iterAt_new _ _ _ _ hg
end Go.Proofs.YtigidchicloleaaGreatDoor
