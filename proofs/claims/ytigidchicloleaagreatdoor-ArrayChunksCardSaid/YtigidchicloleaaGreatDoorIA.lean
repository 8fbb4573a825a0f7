/- The document's Plus. -/
import Derived.Test.YtigidchicloleaaGreatDoorRd
import Derived.Outline
import Derived.RegionTactic
import Derived.ChangeAlike
import Derived.BigRegion
import Derived.Deep.RegionHeld3
import Derived.Test.YtigidchicloleaaGreatDoorHA
import Derived.Laws.ResultCell
set_option maxHeartbeats 3200000
set_option maxRecDepth 100000
namespace Go.Proofs.YtigidchicloleaaGreatDoor
open Go.RowKit Big
theorem QLt.neg {K : Nat} {q : Rat} (h : QLt K q) : QLt K (-q) := ⟨by rw [Rat.neg_num, Int.natAbs_neg]; exact h.1, by rw [Rat.neg_den]; exact h.2⟩
end Go.Proofs.YtigidchicloleaaGreatDoor
namespace Go.Proofs.YtigidchicloleaaGreatDoor
open Go.RowKit Big
open Go.Lib
def u8s (l : List UInt8) : List Value := l.map fun b => Value.int .u8 (b.toNat : Int)
structure AccB (B : Nat) (w wr : World) (v : Value) (l : List UInt8) : Prop where
  own : wr.ownsRow B 5 1 v l.length (u8s l)
  below : Below B w wr
theorem AccB.next {B : Nat} {w wr w5 : World} {v v5 : Value} {l : List UInt8} {m : Nat} {c : UInt8} {o : Obj} (h : AccB B w wr v l) (hB : B ≤ wr.heap.size) (hm : m = l.length + 1) (hown : w5.ownsRow B 5 1 v5 m (u8s l ++ [.int .u8 (c.toNat : Int)])) (hg : (wr.alloc o).grownBy w5 v.ownBlock) : AccB B w w5 v5 (l ++ [c]) := by
  subst hm
  refine ⟨?_, ?_⟩
  · have e : u8s (l ++ [c]) = u8s l ++ [.int .u8 (c.toNat : Int)] := by simp [u8s]
    rw [e, List.length_append]; exact hown
  · exact (h.below.alloc hB o).grown hg (by simp; omega) (fun k hk => (h.own.lt k hk).1)
theorem AccB.slice {B : Nat} {w wr : World} {v : Value} {l : List UInt8} (h : AccB B w wr v l) : ∃ p c, v = .slice p l.length c ∧ (0 < l.length → ∃ g, p = some ⟨g, 0, none⟩ ∧ B ≤ g ∧ g < wr.heap.size ∧ ∀ j (hj : j < l.length), wr.cell? ⟨g, j, none⟩ = some (.int .u8 (l[j].toNat : Int))) := by
  obtain ⟨h1, h2⟩ := h.own
  rcases h2 with ⟨rfl, h3⟩ | ⟨g, cap, cur, rfl, hg, hh, hn, hm, hs, hc⟩
  · exact ⟨none, 0, by rw [h3], fun hl => by omega⟩
  · refine ⟨_, cap, rfl, fun hl => ⟨g, rfl, hg, (Array.getElem?_eq_some_iff.1 hh).1, fun j hj => ?_⟩⟩
    rw [Nat.mul_one] at hc
    have e : cur[j]? = (u8s l)[j]? := by rw [← hc, List.getElem?_take_of_lt hj, Array.getElem?_toList]
    simp only [World.cell?, hh]
    simp [e, u8s, hj]
end Go.Proofs.YtigidchicloleaaGreatDoor
set_option maxHeartbeats 1600000
set_option maxRecDepth 100000
namespace Go.Proofs.YtigidchicloleaaGreatDoor
open Go.RowKit Go.Lib Big
abbrev Blk := Nat × Array Value × TypeId
structure Keep (w0 W : World) (L : List Blk) : Prop where
  below : Below w0.heap.size w0 W
  all : ∀ x ∈ L, W.heap[x.1]? = some (.cells x.2.1 x.2.2 (0, 0))
section
variable {w0 W W' : World} {L : List Blk}
theorem Keep.next (h : Keep w0 W L) (hb : Below W.heap.size W W') : Keep w0 W' L :=
  ⟨h.below.trans (hb.mono h.below.size), fun x hx => (hb.block _ (Array.getElem?_eq_some_iff.1 (h.all x hx)).1).trans (h.all x hx)⟩
theorem Keep.drew (h : Keep w0 W L) : Keep w0 W.drew L := ⟨h.below.drew, h.all⟩
theorem Keep.one (h : Keep w0 W L) (x : Blk) (hx : x ∈ L) : W.heap[x.1]? = some (.cells x.2.1 x.2.2 (0, 0)) := h.all x hx
theorem Keep.nil (w : World) : Keep w w [] := ⟨Below.refl _ _, fun _ h => by cases h⟩
theorem Keep.put {g : Nat} {c : Array Value} {T : TypeId} (h : Keep w0 W ((g, c, T) :: L)) (hg : w0.heap.size ≤ g) (hne : ∀ x ∈ L, x.1 ≠ g) (k : Nat) (v : Value) : Keep w0 (W.setCell ⟨g, k, none⟩ v) ((g, c.setIfInBounds k v, T) :: L) := by
  refine ⟨h.below.setCell hg _, fun x hx => ?_⟩
  rcases List.mem_cons.1 hx with rfl | hx
  · exact heap_set g k c T v (h.all _ (List.mem_cons_self ..))
  · exact (Below.heap_setCell _ _ _ _ (hne x hx)).trans (h.all x (List.mem_cons_of_mem _ hx))
theorem Keep.lt (h : Keep w0 W L) {x : Blk} (hx : x ∈ L) : x.1 < W.heap.size := (Array.getElem?_eq_some_iff.1 (h.all x hx)).1
end
end Go.Proofs.YtigidchicloleaaGreatDoor
set_option maxHeartbeats 3200000
set_option maxRecDepth 100000
namespace Go.Proofs.YtigidchicloleaaGreatDoor
open Go.RowKit Big
open Go.Lib
structure ReadInv (l : List UInt8) (e : Nat) (z : Int) (L : List Nat) : Prop where
  le : e ≤ l.length
  at_ : (z = e ∧ 9 * L.length + e = l.length) ∨ (z < 0 ∧ e = 0)
  dig : Dig B9 L
  eq : val B9 L = dval (l.drop e)
  len : L.length ≤ l.length
theorem chunk_lt (l : List UInt8) (st i : Nat) (ha : l.all isDig = true) : dval ((l.drop st).take (i - st)) < 10 ^ (i - st) := by
  have h1 : ((l.drop st).take (i - st)).all isDig = true := by
    rw [List.all_eq_true] at ha ⊢
    exact fun x hx => ha x (List.mem_of_mem_drop (List.mem_of_mem_take hx))
  have h2 := dval_lt _ h1
  have h3 : 10 ^ ((l.drop st).take (i - st)).length ≤ 10 ^ (i - st) := Nat.pow_le_pow_right (by omega) (by rw [List.length_take]; omega)
  omega
theorem ReadInv.next {l : List UInt8} {e st : Nat} {z : Int} {L : List Nat} (h : ReadInv l e z L) (ha : l.all isDig = true) (he : 0 < e) (hst : st = e - 9) :
    ReadInv l st (z - 9) (L ++ [dval ((l.drop st).take (e - st))]) := by
  have hle := h.le
  have hat : z = e ∧ 9 * L.length + e = l.length := h.at_.resolve_right fun h => by omega
  have hc := chunk_lt l st e ha
  have h9 : (10 : Nat) ^ (e - st) ≤ 10 ^ 9 := Nat.pow_le_pow_right (by omega) (by omega)
  have e9 := B9_eq
  refine ⟨by omega, ?_, h.dig.append (Dig.one (by omega)), ?_, by rw [List.length_append]; simp; omega⟩
  · by_cases h10 : 9 ≤ e
    · exact .inl ⟨by omega, by rw [List.length_append]; simp; omega⟩
    · exact .inr ⟨by omega, by omega⟩
  · have e1 : l.drop st = (l.drop st).take (e - st) ++ l.drop e := by
      conv => lhs; rw [← List.take_append_drop (e - st) (l.drop st)]
      rw [List.drop_drop, show st + (e - st) = e from by omega]
    rw [val_snoc, h.eq]
    conv => rhs; rw [e1]
    rw [dval_append, List.length_drop, B9_pow, show 9 * L.length = l.length - e from by omega, Nat.mul_comm, Nat.add_comm]
structure Bx (B : Nat) (c : Array Value) (w0 W : World) : Prop where
  size : B + 1 ≤ W.heap.size
  below : Below w0.heap.size w0 W
  x : W.heap[B]? = some (.cells c 112 (0, 0))
theorem Bx.start (w : World) (c : Array Value) : Bx w.heap.size c w (w.alloc (.cells c 112)) := ⟨by simp, below_alloc9 _ _, heap_new _ _⟩
theorem Bx.next {B : Nat} {c : Array Value} {w0 W W' : World} (h : Bx B c w0 W) (hb : Below W.heap.size W W') : Bx B c w0 W' := ⟨Nat.le_trans h.size hb.size, h.below.trans (hb.mono h.below.size), (hb.block _ (by have := h.size; omega)).trans h.x⟩
theorem Bx.drew {B : Nat} {c : Array Value} {w0 W : World} (h : Bx B c w0 W) : Bx B c w0 W.drew := ⟨h.size, h.below.drew, h.x⟩
theorem Bx.all {B : Nat} {a b c : Value} {w0 W : World} (h : Bx B #[a, b, c] w0 W) : Bx B #[a, b, c] w0 W ∧ W.cell? ⟨B, 0, none⟩ = some a ∧ W.cell? ⟨B, 1, none⟩ = some b ∧ W.cell? ⟨B, 2, none⟩ = some c :=
  ⟨h, ceh h.x 0, ceh h.x 1, ceh h.x 2⟩
end Go.Proofs.YtigidchicloleaaGreatDoor
set_option maxHeartbeats 3200000
set_option maxRecDepth 100000
namespace Go.Proofs.YtigidchicloleaaGreatDoor
open Go.RowKit Big
open Go.Lib
def iterAt (W : World) (g : Nat) (s : ByteArray) (pos : Nat) : World := { W with heap := W.heap.setIfInBounds g (.stringIter s pos) }
theorem iterAt_below (W : World) (g : Nat) (s : ByteArray) (pos : Nat) {B : Nat} (hB : B ≤ g) : Below B W (iterAt W g s pos) :=
  ⟨rfl, rfl, rfl, by simp [iterAt], fun k hk => by simp only [iterAt]; rw [Array.getElem?_setIfInBounds_ne (by omega)]⟩
theorem iterAt_new (W : World) (g : Nat) (s : ByteArray) (pos : Nat) (h : g < W.heap.size) : (iterAt W g s pos).heap[g]? = some (.stringIter s pos) := by
  simp [iterAt, h]
structure DotAt (w wr : World) (g : Nat) (mo : ByteArray) (pos : Nat) (dv : Value) : Prop where
  nat : Nat9 wr dv (10 ^ pos)
  it : wr.heap[g]? = some (.stringIter mo pos)
  res : Resa w.heap.size w wr
  gt : w.heap.size < g
  le : pos ≤ mo.size
theorem DotAt.step {w wr w5 : World} {g pos : Nat} {mo : ByteArray} {dv d2 : Value} (h : DotAt w wr g mo pos dv) (hlt : pos < mo.size) (hb : Below (iterAt wr g mo (pos + 1)).heap.size (iterAt wr g mo (pos + 1)) w5) (h2 : Nat9 w5 d2 (10 ^ (pos + 1))) : DotAt w w5 g mo (pos + 1) d2 := by
  have hg := (Array.getElem?_eq_some_iff.1 h.it).1
  have hs : (iterAt wr g mo (pos + 1)).heap.size = wr.heap.size := by simp [iterAt]
  have hr : Resa w.heap.size w (iterAt wr g mo (pos + 1)) := by
    refine ⟨by rw [hs]; exact h.res.size, h.res.below.trans (iterAt_below _ _ _ _ (Nat.le_of_lt h.gt)), ?_⟩
    obtain ⟨z0, z1, z2, hz, hn⟩ := h.res.z
    refine ⟨z0, z1, z2, ?_, hn⟩
    rw [← hz]; simp only [iterAt]; rw [Array.getElem?_setIfInBounds_ne (by have := h.gt; omega)]
  refine ⟨h2, ?_, hr.next hb, h.gt, hlt⟩
  rw [hb.block g (by rw [hs]; exact hg)]
  exact iterAt_new _ _ _ _ hg
end Go.Proofs.YtigidchicloleaaGreatDoor
set_option maxHeartbeats 3200000
set_option maxRecDepth 100000
namespace Go.Proofs.YtigidchicloleaaGreatDoor
open Go.RowKit Big
open Go.Lib
def QPostC (q : Rat) (w : World) (e : Ending) (w' : World) : Prop := ∃ sb p n c p2 n2 c2, e = .returned (.agg #[.bool sb, .slice p n c, .slice p2 n2 c2]) ∧ QAt w' (.agg #[.bool sb, .slice p n c, .slice p2 n2 c2]) q ∧ Below w.heap.size w w'
theorem QPost.c {q : Rat} {w w' : World} {e : Ending} (h : QPost q w e w') : QPostC q w e w' := by
  obtain ⟨x, rfl, hx, hb⟩ := h
  obtain ⟨p, n, c, p2, n2, c2, rfl, h1, h2⟩ := hx.slices
  exact ⟨_, p, n, c, p2, n2, c2, rfl, hx, hb⟩
theorem Keep.put3 {w0 W : World} {L : List Blk} {g : Nat} {z0 z1 z2 : Value} {T : TypeId} (h : Keep w0 W ((g, #[z0, z1, z2], T) :: L)) (hg : w0.heap.size ≤ g) (hne : ∀ x ∈ L, x.1 ≠ g) (a b c : Value) :
    Keep w0 (((W.setCell ⟨g, 0, none⟩ a).setCell ⟨g, 1, none⟩ b).setCell ⟨g, 2, none⟩ c) ((g, #[a, b, c], T) :: L) :=
  ((h.put hg hne 0 a).put hg hne 1 b).put hg hne 2 c
end Go.Proofs.YtigidchicloleaaGreatDoor
namespace Go.Proofs.YtigidchicloleaaGreatDoor
open Go.RowKit Big
open Go.Lib
theorem QAt.put3 {B : Nat} {w0 W : World} {x : Value} {r : Rat} (hq : QAt W x r) (h : Resa B w0 W) (hB : w0.heap.size ≤ B) (a : Bool) (p q : Option Addr) (n c m d : Nat) : QAt (((W.setCell ⟨B, 0, none⟩ (.bool a)).setCell ⟨B, 1, none⟩ (.slice p n c)).setCell ⟨B, 2, none⟩ (.slice q m d)) x r := by
  obtain ⟨u, v, rfl, hu, hv⟩ := hq
  exact ⟨u, v, rfl, h.nat3 hB hu a p q n c m d, hv.imp (fun h2 => h.nat3 hB h2 a p q n c m d) fun h2 => ⟨h.nat3 hB h2.1 a p q n c m d, h2.2⟩⟩
end Go.Proofs.YtigidchicloleaaGreatDoor
namespace Go.Proofs.YtigidchicloleaaGreatDoor
open Go.RowKit Big
open Go.Lib
theorem lt_of_ratv {K : Nat} {q : Rat} {s : Bool} {a b : Nat} (h : ratv s a b = q) (ha : a < B9 ^ K) (hb : b < B9 ^ K) (hb0 : 0 < b) : QLt K q := by
  rw [← h, ← ratv_drop]
  exact ratv_lt _ ha hb hb0 (by intro h; simp at h; omega)
theorem plus_num (a b : Rat) : ∃ (s : Bool) (n : Nat), ratv s n (a.den * b.den) = a + b ∧ n ≤ a.num.natAbs * b.den + b.num.natAbs * a.den := by
  have e1 : ratv (decide (a.num < 0)) (a.num.natAbs * b.den) (a.den * b.den) = a := by rw [ratv_scale a.den_pos b.den_pos, ratv_self]
  have e2 : ratv (decide (b.num < 0)) (b.num.natAbs * a.den) (a.den * b.den) = b := by rw [Nat.mul_comm a.den b.den, ratv_scale b.den_pos a.den_pos, ratv_self]
  by_cases h : decide (a.num < 0) = decide (b.num < 0)
  · rw [← h] at e2
    exact ⟨_, _, by rw [ratv_plus, e1, e2], Nat.le_refl _⟩
  · by_cases hle : b.num.natAbs * a.den ≤ a.num.natAbs * b.den
    · exact ⟨_, _, by rw [ratv_minus h hle, e1, e2], by omega⟩
    · exact ⟨_, _, by rw [ratv_minus (fun e => h e.symm) (Nat.le_of_lt (Nat.lt_of_not_le hle)), e1, e2, Rat.add_comm], by omega⟩
theorem QLt.add {K L : Nat} {a b : Rat} (ha : QLt K a) (hb : QLt L b) : QLt (K + L + 1) (a + b) := by
  obtain ⟨s, n, h1, h2⟩ := plus_num a b
  have h3 := pow9_mul ha.1 hb.2
  have h4 := pow9_mul hb.1 ha.2
  rw [Nat.add_comm L K] at h4
  have h5 : B9 ^ (K + L + 1) = B9 ^ (K + L) * 1000000000 := by rw [Nat.pow_succ, B9_eq]
  exact lt_of_ratv h1 (by omega) (pow9_mono (pow9_mul ha.2 hb.2) (by omega)) (Nat.mul_pos a.den_pos b.den_pos)
end Go.Proofs.YtigidchicloleaaGreatDoor
namespace Go.Proofs.YtigidchicloleaaGreatDoor.Arr
open Go.RowKit Go.Shelf
open Go.Lib
attribute [local go_sem] Oper.semAt_some
def strs (l : List (List UInt8)) : List Value := l.map (fun x => Value.string ⟨List.toArray x⟩)
structure OutI (W5 : World) (G : Nat) (c0 : Value) (l : List (List UInt8)) (W : World) : Prop where
  old : W5.grownBy W (some G)
  lt : G < W5.heap.size
  row : ∃ pv cv, W.heap[G]? = some (.cells #[c0, .slice pv l.length cv] 25 (0, 0)) ∧ W.ownsRow (G + 1) 9 1 (.slice pv l.length cv) l.length (strs l) ∧ (∀ k, (Value.slice pv l.length cv).ownBlock = some k → W5.heap.size ≤ k)
theorem OutI.start {W5 : World} {G : Nat} {c0 : Value} (h : W5.heap[G]? = some (.cells #[c0, .slice none 0 0] 25 (0, 0))) : OutI W5 G c0 [] W5 :=
  ⟨⟨rfl, rfl, rfl, Nat.le_refl _, fun _ _ _ => rfl⟩, (Array.getElem?_eq_some_iff.1 h).1, none, 0, h, ⟨by simp [strs], .inl ⟨rfl, rfl⟩⟩, fun k e => by cases e⟩
theorem OutI.next {W5 W W' : World} {G : Nat} {c0 : Value} {l : List (List UInt8)} (h : OutI W5 G c0 l W) (hb : Below W.heap.size W W') : OutI W5 G c0 l W' := by
  obtain ⟨pv, cv, h1, h2, h3⟩ := h.row
  exact ⟨h.old.trans (gb_of_below hb _), h.lt, pv, cv, (hb.block G (Array.getElem?_eq_some_iff.1 h1).1).trans h1, h2.kept (gb_of_below hb none) (by cases pv <;> simp [Value.ownBlock]), h3⟩
theorem OutI.below {W5 W w : World} {G : Nat} {c0 : Value} {l : List (List UInt8)} (h : OutI W5 G c0 l W) (hb : Below w.heap.size w W5) (hG : w.heap.size ≤ G) : Below w.heap.size w W :=
  ⟨h.old.os.trans hb.os, h.old.tape.trans hb.tape, h.old.output.trans hb.output, Nat.le_trans hb.size h.old.size, fun k hk => (h.old.block k (Nat.lt_of_lt_of_le hk hb.size) (by intro e; injection e with e; omega)).trans (hb.block k hk)⟩
theorem OutI.step {W5 W W1 W2 : World} {G gv cv cv' : Nat} {pv : Option Addr} {c0 : Value} {l : List (List UInt8)} {y : List UInt8} {n : Nat} (h : OutI W5 G c0 l W) (hn : l.length = n) (hb : W.heap[G]? = some (.cells #[c0, .slice pv n cv] 25 (0, 0))) (hw : ∀ k, (Value.slice pv n cv).ownBlock = some k → W5.heap.size ≤ k) (hB : Below W.heap.size W W1)
    (ho : W2.ownsRow W5.heap.size 9 1 (.slice (some ⟨gv, 0, none⟩) (n + 1) cv') (n + 1) (strs (l ++ [y]))) (hg : W1.grownBy W2 (Value.slice pv n cv).ownBlock) :
    OutI W5 G c0 (l ++ [y]) (W2.setCell ⟨G, 1, none⟩ (.slice (some ⟨gv, 0, none⟩) (n + 1) cv')) ∧ W2.heap[G]? = some (.cells #[c0, .slice pv n cv] 25 (0, 0)) := by
  have hGlt := (Array.getElem?_eq_some_iff.1 hb).1
  have hG2 : W2.heap[G]? = some (.cells #[c0, .slice pv n cv] 25 (0, 0)) := (hg.block G (Nat.lt_of_lt_of_le hGlt hB.size) (by intro e; have := hw G e.symm; have := h.lt; omega)).trans ((hB.block G hGlt).trans hb)
  have hgv : W5.heap.size ≤ gv := (ho.lt gv rfl).1
  have hl := h.lt
  have hlen : (l ++ [y]).length = n + 1 := by rw [List.length_append, hn]; rfl
  refine ⟨⟨?_, h.lt, some ⟨gv, 0, none⟩, cv', ?_, ?_, ?_⟩, hG2⟩
  · have o1 := h.old.trans (gb_of_below hB (some G))
    refine ⟨hg.os.trans o1.os, hg.tape.trans o1.tape, hg.output.trans o1.output, Nat.le_trans o1.size (Nat.le_trans hg.size (Nat.le_of_eq (by simp))), fun k hk hne => ?_⟩
    rw [Below.heap_setCell _ _ _ _ (by intro e; exact hne (congrArg some e)), hg.block k (Nat.lt_of_lt_of_le hk o1.size) (by intro e; have := hw k e.symm; omega)]
    exact o1.block k hk hne
  · rw [hlen]
    have := heap_set W2 G 1 (.slice (some ⟨gv, 0, none⟩) (n + 1) cv') _ _ hG2
    rw [this]; rfl
  · rw [hlen]
    exact ownsRow_setCell_other (show W2.ownsRow (G + 1) 9 1 (.slice (some ⟨gv, 0, none⟩) (n + 1) cv') (n + 1) (strs (l ++ [y])) from ⟨ho.1, ho.2.imp id fun ⟨g, cap, cur, e, hg', r⟩ => ⟨g, cap, cur, e, by omega, r⟩⟩) (by simp [Value.ownBlock]; omega) _
  · rw [hlen]
    intro k e; cases e; exact hgv
theorem OutI.reads {W5 W : World} {G n cv : Nat} {pv : Option Addr} {c0 : Value} {l : List (List UInt8)} (h : OutI W5 G c0 l W) (hn : l.length = n) (hb : W.heap[G]? = some (.cells #[c0, .slice pv n cv] 25 (0, 0))) : RdS W pv l ∧ ∀ b off, pv = some ⟨b, off, none⟩ → 0 < l.length → G < b := by
  obtain ⟨pv', cv', h1, h2, h3⟩ := h.row
  rw [hb] at h1
  injection h1 with h1
  injection h1 with h1
  obtain ⟨rfl, rfl⟩ : pv = pv' ∧ cv = cv' := by simpa [hn] using h1
  obtain ⟨-, ⟨e, e2⟩ | ⟨g, cap, cur, e, hg, hh, -⟩⟩ := id h2
  · exact ⟨.inl e2, fun b off _ h0 => by omega⟩
  · injection e with e _ e3
    subst e
    refine ⟨.inr ⟨g, 0, rfl, (Array.getElem?_eq_some_iff.1 hh).1, fun j hj => ?_⟩, fun b off e _ => by cases e; omega⟩
    rw [Nat.zero_add, h2.cellAt j (by omega), strs, List.getElem?_map, List.getElem?_eq_getElem hj, List.getD_eq_getElem?_getD, List.getElem?_eq_getElem hj]
    rfl
end Go.Proofs.YtigidchicloleaaGreatDoor.Arr
namespace Go.Proofs.YtigidchicloleaaGreatDoor.Arr
open Go.RowKit Go.Shelf
open Go.Lib
attribute [local go_sem] Oper.semAt_some
theorem getD_take {l : List Int} {i j : Nat} (h : j < i) : (l.take i).getD j 0 = l.getD j 0 := by
  rw [List.getD_eq_getElem?_getD, List.getElem?_take_of_lt h, ← List.getD_eq_getElem?_getD]
theorem Rd.take {w : World} {p : Option Addr} {l : List Int} (h : Rd w p l) (i : Nat) : Rd w p (l.take i) := by
  refine ⟨fun z hz => h.wf z (List.mem_of_mem_take hz), ?_⟩
  rcases h.cell with h0 | ⟨b, off, h1, h2, h3⟩
  · exact .inl (by rw [List.length_take]; omega)
  · exact .inr ⟨b, off, h1, h2, fun j hj => by
      rw [List.length_take] at hj
      rw [getD_take (by omega)]; exact h3 j (by omega)⟩
end Go.Proofs.YtigidchicloleaaGreatDoor.Arr
