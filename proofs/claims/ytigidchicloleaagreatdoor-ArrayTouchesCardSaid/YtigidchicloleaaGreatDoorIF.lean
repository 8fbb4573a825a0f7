/- The document's Get. -/
import Derived.Test.YtigidchicloleaaGreatDoorRg
import Derived.Test.YtigidchicloleaaGreatDoorQA
import Derived.Outline
import Derived.Laws.ResultCell
import Derived.Test.YtigidchicloleaaGreatDoorGI
set_option maxHeartbeats 3200000
set_option maxRecDepth 100000
namespace Go.Proofs.YtigidchicloleaaGreatDoor
open Go.RowKit Big
open Go.Lib
def QPostC (q : Rat) (w : World) (e : Ending) (w' : World) : Prop := ∃ sb p n c p2 n2 c2, e = .returned (.agg #[.bool sb, .slice p n c, .slice p2 n2 c2]) ∧ QAt w' (.agg #[.bool sb, .slice p n c, .slice p2 n2 c2]) q ∧ Below w.heap.size w w'
theorem QPost.c {q : Rat} {w w' : World} {e : Ending} (h : QPost q w e w') : QPostC q w e w' := by
  obtain ⟨x, rfl, hx, hb⟩ := h
  obtain ⟨p, n, c, p2, n2, c2, rfl, h1, h2⟩ := hx.slices
  exact ⟨_, p, n, c, p2, n2, c2, rfl, hx, hb⟩
theorem Keep.put3 {w0 W : World} {L : List Blk} {g : Nat} {z0 z1 z2 : Value} {T : TypeId} (h : Keep w0 W ((g, #[z0, z1, z2], T) :: L)) (hg : w0.heap.size ≤ g) (hne : ∀ x ∈ L, x.1 ≠ g) (a b c : Value) :
    Keep w0 (((W.setCell ⟨g, 0, none⟩ a).setCell ⟨g, 1, none⟩ b).setCell ⟨g, 2, none⟩ c) ((g, #[a, b, c], T) :: L) :=
  ((h.put hg hne 0 a).put hg hne 1 b).put hg hne 2 c
end Go.Proofs.YtigidchicloleaaGreatDoor
namespace Go.Proofs.YtigidchicloleaaGreatDoor
open Go.RowKit Big
open Go.Lib
theorem QAt.put3 {B : Nat} {w0 W : World} {x : Value} {r : Rat} (hq : QAt W x r) (h : Resa B w0 W) (hB : w0.heap.size ≤ B) (a : Bool) (p q : Option Addr) (n c m d : Nat) : QAt (((W.setCell ⟨B, 0, none⟩ (.bool a)).setCell ⟨B, 1, none⟩ (.slice p n c)).setCell ⟨B, 2, none⟩ (.slice q m d)) x r := by
  obtain ⟨u, v, rfl, hu, hv⟩ := hq
  exact ⟨u, v, rfl, h.nat3 hB hu a p q n c m d, hv.imp (fun h2 => h.nat3 hB h2 a p q n c m d) fun h2 => ⟨h.nat3 hB h2.1 a p q n c m d, h2.2⟩⟩
end Go.Proofs.YtigidchicloleaaGreatDoor
namespace Go.Proofs.YtigidchicloleaaGreatDoor
open Go.RowKit Big
open Go.Lib
theorem lt_of_ratv {K : Nat} {q : Rat} {s : Bool} {a b : Nat} (h : ratv s a b = q) (ha : a < B9 ^ K) (hb : b < B9 ^ K) (hb0 : 0 < b) : QLt K q := by
  rw [← h, ← ratv_drop]
  exact ratv_lt _ ha hb hb0 (by intro h; simp at h; omega)
theorem plus_num (a b : Rat) : ∃ (s : Bool) (n : Nat), ratv s n (a.den * b.den) = a + b ∧ n ≤ a.num.natAbs * b.den + b.num.natAbs * a.den := by
  have e1 : ratv (decide (a.num < 0)) (a.num.natAbs * b.den) (a.den * b.den) = a := by rw [ratv_scale a.den_pos b.den_pos, ratv_self]
  have e2 : ratv (decide (b.num < 0)) (b.num.natAbs * a.den) (a.den * b.den) = b := by rw [Nat.mul_comm a.den b.den, ratv_scale b.den_pos a.den_pos, ratv_self]
  by_cases h : decide (a.num < 0) = decide (b.num < 0)
  · rw [← h] at e2
    exact ⟨_, _, by rw [ratv_plus, e1, e2], Nat.le_refl _⟩
  · by_cases hle : b.num.natAbs * a.den ≤ a.num.natAbs * b.den
    · exact ⟨_, _, by rw [ratv_minus h hle, e1, e2], by omega⟩
    · exact ⟨_, _, by rw [ratv_minus (fun e => h e.symm) (Nat.le_of_lt (Nat.lt_of_not_le hle)), e1, e2, Rat.add_comm], by omega⟩
theorem QLt.add {K L : Nat} {a b : Rat} (ha : QLt K a) (hb : QLt L b) : QLt (K + L + 1) (a + b) := by
  obtain ⟨s, n, h1, h2⟩ := plus_num a b
  have h3 := pow9_mul ha.1 hb.2
  have h4 := pow9_mul hb.1 ha.2
  rw [Nat.add_comm L K] at h4
  have h5 : B9 ^ (K + L + 1) = B9 ^ (K + L) * 1000000000 := by rw [Nat.pow_succ, B9_eq]
  exact lt_of_ratv h1 (by omega) (pow9_mono (pow9_mul ha.2 hb.2) (by omega)) (Nat.mul_pos a.den_pos b.den_pos)
end Go.Proofs.YtigidchicloleaaGreatDoor
namespace Go.Proofs.YtigidchicloleaaGreatDoor.Arr
open Go.RowKit Go.Shelf
open Go.Lib
attribute [local go_sem] Oper.semAt_some
def strs (l : List (List UInt8)) : List Value := l.map (fun x => Value.string ⟨List.toArray x⟩)
structure OutI (W5 : World) (G : Nat) (c0 : Value) (l : List (List UInt8)) (W : World) : Prop where
  old : W5.grownBy W (some G)
  lt : G < W5.heap.size
  row : ∃ pv cv, W.heap[G]? = some (.cells #[c0, .slice pv l.length cv] 25 (0, 0)) ∧ W.ownsRow (G + 1) 9 1 (.slice pv l.length cv) l.length (strs l) ∧ (∀ k, (Value.slice pv l.length cv).ownBlock = some k → W5.heap.size ≤ k)
theorem OutI.start {W5 : World} {G : Nat} {c0 : Value} (h : W5.heap[G]? = some (.cells #[c0, .slice none 0 0] 25 (0, 0))) : OutI W5 G c0 [] W5 :=
  ⟨⟨rfl, rfl, rfl, Nat.le_refl _, fun _ _ _ => rfl⟩, (Array.getElem?_eq_some_iff.1 h).1, none, 0, h, ⟨by simp [strs], .inl ⟨rfl, rfl⟩⟩, fun k e => by cases e⟩
theorem OutI.next {W5 W W' : World} {G : Nat} {c0 : Value} {l : List (List UInt8)} (h : OutI W5 G c0 l W) (hb : Below W.heap.size W W') : OutI W5 G c0 l W' := by
  obtain ⟨pv, cv, h1, h2, h3⟩ := h.row
  exact ⟨h.old.trans (gb_of_below hb _), h.lt, pv, cv, (hb.block G (Array.getElem?_eq_some_iff.1 h1).1).trans h1, h2.kept (gb_of_below hb none) (by cases pv <;> simp [Value.ownBlock]), h3⟩
theorem OutI.below {W5 W w : World} {G : Nat} {c0 : Value} {l : List (List UInt8)} (h : OutI W5 G c0 l W) (hb : Below w.heap.size w W5) (hG : w.heap.size ≤ G) : Below w.heap.size w W :=
  ⟨h.old.os.trans hb.os, h.old.tape.trans hb.tape, h.old.output.trans hb.output, Nat.le_trans hb.size h.old.size, fun k hk => (h.old.block k (Nat.lt_of_lt_of_le hk hb.size) (by intro e; injection e with e; omega)).trans (hb.block k hk)⟩
theorem OutI.step {W5 W W1 W2 : World} {G gv cv cv' : Nat} {pv : Option Addr} {c0 : Value} {l : List (List UInt8)} {y : List UInt8} {n : Nat} (h : OutI W5 G c0 l W) (hn : l.length = n) (hb : W.heap[G]? = some (.cells #[c0, .slice pv n cv] 25 (0, 0))) (hw : ∀ k, (Value.slice pv n cv).ownBlock = some k → W5.heap.size ≤ k) (hB : Below W.heap.size W W1)
    (ho : W2.ownsRow W5.heap.size 9 1 (.slice (some ⟨gv, 0, none⟩) (n + 1) cv') (n + 1) (strs (l ++ [y]))) (hg : W1.grownBy W2 (Value.slice pv n cv).ownBlock) :
    OutI W5 G c0 (l ++ [y]) (W2.setCell ⟨G, 1, none⟩ (.slice (some ⟨gv, 0, none⟩) (n + 1) cv')) ∧ W2.heap[G]? = some (.cells #[c0, .slice pv n cv] 25 (0, 0)) := by
  have hGlt := (Array.getElem?_eq_some_iff.1 hb).1
  have hG2 : W2.heap[G]? = some (.cells #[c0, .slice pv n cv] 25 (0, 0)) := (hg.block G (Nat.lt_of_lt_of_le hGlt hB.size) (by intro e; have := hw G e.symm; have := h.lt; omega)).trans ((hB.block G hGlt).trans hb)
  have hgv : W5.heap.size ≤ gv := (ho.lt gv rfl).1
  have hl := h.lt
  have hlen : (l ++ [y]).length = n + 1 := by rw [List.length_append, hn]; rfl
  refine ⟨⟨?_, h.lt, some ⟨gv, 0, none⟩, cv', ?_, ?_, ?_⟩, hG2⟩
  · have o1 := h.old.trans (gb_of_below hB (some G))
    refine ⟨hg.os.trans o1.os, hg.tape.trans o1.tape, hg.output.trans o1.output, Nat.le_trans o1.size (Nat.le_trans hg.size (Nat.le_of_eq (by simp))), fun k hk hne => ?_⟩
    rw [Below.heap_setCell _ _ _ _ (by intro e; exact hne (congrArg some e)), hg.block k (Nat.lt_of_lt_of_le hk o1.size) (by intro e; have := hw k e.symm; omega)]
    exact o1.block k hk hne
  · rw [hlen]
    have := heap_set W2 G 1 (.slice (some ⟨gv, 0, none⟩) (n + 1) cv') _ _ hG2
    rw [this]; rfl
  · rw [hlen]
    exact ownsRow_setCell_other (show W2.ownsRow (G + 1) 9 1 (.slice (some ⟨gv, 0, none⟩) (n + 1) cv') (n + 1) (strs (l ++ [y])) from ⟨ho.1, ho.2.imp id fun ⟨g, cap, cur, e, hg', r⟩ => ⟨g, cap, cur, e, by omega, r⟩⟩) (by simp [Value.ownBlock]; omega) _
  · rw [hlen]
    intro k e; cases e; exact hgv
theorem OutI.reads {W5 W : World} {G n cv : Nat} {pv : Option Addr} {c0 : Value} {l : List (List UInt8)} (h : OutI W5 G c0 l W) (hn : l.length = n) (hb : W.heap[G]? = some (.cells #[c0, .slice pv n cv] 25 (0, 0))) : RdS W pv l ∧ ∀ b off, pv = some ⟨b, off, none⟩ → 0 < l.length → G < b := by
  obtain ⟨pv', cv', h1, h2, h3⟩ := h.row
  rw [hb] at h1
  injection h1 with h1
  injection h1 with h1
  obtain ⟨rfl, rfl⟩ : pv = pv' ∧ cv = cv' := by simpa [hn] using h1
  obtain ⟨-, ⟨e, e2⟩ | ⟨g, cap, cur, e, hg, hh, -⟩⟩ := id h2
  · exact ⟨.inl e2, fun b off _ h0 => by omega⟩
  · injection e with e _ e3
    subst e
    refine ⟨.inr ⟨g, 0, rfl, (Array.getElem?_eq_some_iff.1 hh).1, fun j hj => ?_⟩, fun b off e _ => by cases e; omega⟩
    rw [Nat.zero_add, h2.cellAt j (by omega), strs, List.getElem?_map, List.getElem?_eq_getElem hj, List.getD_eq_getElem?_getD, List.getElem?_eq_getElem hj]
    rfl
end Go.Proofs.YtigidchicloleaaGreatDoor.Arr
namespace Go.Proofs.YtigidchicloleaaGreatDoor.Arr
open Go.RowKit Go.Shelf
open Go.Lib
attribute [local go_sem] Oper.semAt_some
theorem getD_take {l : List Int} {i j : Nat} (h : j < i) : (l.take i).getD j 0 = l.getD j 0 := by
  rw [List.getD_eq_getElem?_getD, List.getElem?_take_of_lt h, ← List.getD_eq_getElem?_getD]
theorem Rd.take {w : World} {p : Option Addr} {l : List Int} (h : Rd w p l) (i : Nat) : Rd w p (l.take i) := by
  refine ⟨fun z hz => h.wf z (List.mem_of_mem_take hz), ?_⟩
  rcases h.cell with h0 | ⟨b, off, h1, h2, h3⟩
  · exact .inl (by rw [List.length_take]; omega)
  · exact .inr ⟨b, off, h1, h2, fun j hj => by
      rw [List.length_take] at hj
      rw [getD_take (by omega)]; exact h3 j (by omega)⟩
end Go.Proofs.YtigidchicloleaaGreatDoor.Arr
namespace Go.Proofs.YtigidchicloleaaGreatDoor.Arr
open Go.RowKit
open Go.Lib
attribute [local go_sem] Oper.semAt_some
theorem ixOf_small {s : List Nat} {i : Nat} (hi : i < prod s) (hsb : ∀ x ∈ s, x ≤ 1024) : ∀ x ∈ ixOf s i, x < 1024 := fun x hx => by
  obtain ⟨k, hk, e⟩ := List.getElem_of_mem hx
  have h1 := (ixOf_is s i hi).1
  have h2 := h1.2 k (by rw [← h1.1]; exact hk)
  have h3 := hsb (s.getD k 0) (by rw [List.getD_eq_getElem?_getD, List.getElem?_eq_getElem (by rw [← h1.1]; exact hk)]; exact List.getElem_mem _)
  rw [List.getD_eq_getElem?_getD, List.getElem?_eq_getElem hk, Option.getD_some, e] at h2
  omega
end Go.Proofs.YtigidchicloleaaGreatDoor.Arr
namespace Go.Proofs.YtigidchicloleaaGreatDoor.Arr
open Go.RowKit Go.Shelf
open Go.Lib
attribute [local go_sem] Oper.semAt_some
def pk (s axes : List Nat) : List Nat := axes.map (fun a => s.getD a 0)
end Go.Proofs.YtigidchicloleaaGreatDoor.Arr
namespace Go.Proofs.YtigidchicloleaaGreatDoor.Arr
open Go.RowKit Go.Shelf
open Go.Lib
attribute [local go_sem] Oper.semAt_some
structure Sp (B0 Ba Bx Bf R n m c d cx : Nat) (p q xq : Option Addr) (s axes : List Nat) (l : List (List UInt8)) (W : World) : Prop where
  ba : W.heap[Ba]? = some (.cells #[.slice p n c, .slice q m d] 25 (0, 0))
  bx : W.heap[Bx]? = some (.cells #[.slice xq n cx] 22 (0, 0))
  bf : W.heap[Bf]? = some (.cells #[.slice (some ⟨R, 0, none⟩) n n] 22 (0, 0))
  row : ∃ r0 : List Nat, r0.length = n ∧ W.heap[R]? = some (.cells (ixC r0) 3 (0, 0))
  sh : RdN W p s
  vals : RdS W q l
  ax : RdN W xq axes
  lts : Ba < B0 ∧ Bx < B0 ∧ Bf < B0 ∧ R < B0 ∧ Ba ≠ R ∧ Bx ≠ R ∧ Bf ≠ R
  lp : ∀ b off, p = some ⟨b, off, none⟩ → 0 < s.length → b < B0 ∧ b ≠ R
  lq : ∀ b off, q = some ⟨b, off, none⟩ → 0 < l.length → b < B0 ∧ b ≠ R
  lx : ∀ b off, xq = some ⟨b, off, none⟩ → 0 < axes.length → b < B0 ∧ b ≠ R
section
variable {B0 Ba Bx Bf R n m c d cx : Nat} {p q xq : Option Addr} {s axes : List Nat} {l : List (List UInt8)} {W W' : World}
theorem Sp.keep (h : Sp B0 Ba Bx Bf R n m c d cx p q xq s axes l W) (hs : W.heap.size ≤ W'.heap.size) (hk : ∀ b, b < W.heap.size → b < B0 → b ≠ R → W'.heap[b]? = W.heap[b]?) (hR : ∃ r0 : List Nat, r0.length = n ∧ W'.heap[R]? = some (.cells (ixC r0) 3 (0, 0))) : Sp B0 Ba Bx Bf R n m c d cx p q xq s axes l W' := by
  obtain ⟨l1, l2, l3, l4, l5, l6, l7⟩ := h.lts
  have sz : ∀ {k : Nat} {o : Obj}, W.heap[k]? = some o → k < W.heap.size := fun hh => (Array.getElem?_eq_some_iff.1 hh).1
  refine ⟨(hk Ba (sz h.ba) l1 l5).trans h.ba, (hk Bx (sz h.bx) l2 l6).trans h.bx, (hk Bf (sz h.bf) l3 l7).trans h.bf, hR, h.sh.keep hs (fun b off e h0 => ?_), h.vals.keep hs (fun b off e h0 => ?_), h.ax.keep hs (fun b off e h0 => ?_), h.lts, h.lp, h.lq, h.lx⟩
  · obtain ⟨b', off', x, e', hb', -⟩ := h.sh.at h0
    rw [e] at e'; cases e'
    exact hk b hb' (h.lp b off e h0).1 (h.lp b off e h0).2
  · obtain ⟨b', off', x, e', hb', -⟩ := h.vals.at h0
    rw [e] at e'; cases e'
    exact hk b hb' (h.lq b off e h0).1 (h.lq b off e h0).2
  · obtain ⟨b', off', x, e', hb', -⟩ := h.ax.at h0
    rw [e] at e'; cases e'
    exact hk b hb' (h.lx b off e h0).1 (h.lx b off e h0).2
theorem Sp.above (h : Sp B0 Ba Bx Bf R n m c d cx p q xq s axes l W) {r : Option Nat} (hg : W.grownBy W' r) (hr : ∀ k, r = some k → B0 ≤ k) : Sp B0 Ba Bx Bf R n m c d cx p q xq s axes l W' := by
  refine h.keep hg.size (fun b hb hb0 _ => hg.block b hb (fun e => by have := hr b e.symm; omega)) ?_
  obtain ⟨r0, h1, h2⟩ := h.row
  exact ⟨r0, h1, (hg.block R (Array.getElem?_eq_some_iff.1 h2).1 (fun e => by have := hr R e.symm; have := h.lts.2.2.2.1; omega)).trans h2⟩
theorem Sp.atRow (h : Sp B0 Ba Bx Bf R n m c d cx p q xq s axes l W) (hg : W.grownBy W' (some R)) (hR : ∃ r0 : List Nat, r0.length = n ∧ W'.heap[R]? = some (.cells (ixC r0) 3 (0, 0))) : Sp B0 Ba Bx Bf R n m c d cx p q xq s axes l W' :=
  h.keep hg.size (fun b hb _ hne => hg.block b hb (fun e => hne (Option.some.inj e))) hR
end
end Go.Proofs.YtigidchicloleaaGreatDoor.Arr
namespace Go.Proofs.YtigidchicloleaaGreatDoor.Arr
open Go.RowKit Go.Shelf
open Go.Lib
attribute [local go_sem] Oper.semAt_some
theorem ext_getD {a b : List Nat} (h : a.length = b.length) (hk : ∀ k, k < a.length → a.getD k 0 = b.getD k 0) : a = b := by
  refine List.ext_getElem h (fun k h1 h2 => ?_)
  have := hk k h1
  rw [List.getD_eq_getElem?_getD, List.getElem?_eq_getElem h1, List.getD_eq_getElem?_getD, List.getElem?_eq_getElem h2] at this
  exact this
end Go.Proofs.YtigidchicloleaaGreatDoor.Arr
namespace Go.Proofs.YtigidchicloleaaGreatDoor.Arr
open Go.RowKit Go.Shelf
open Go.Lib
def bk (ax : List Nat) (i : Nat) : List Nat := (List.range ax.length).map (fun j => if ax.idxOf j < i then ax.idxOf j else 0)
theorem mem_getD {l : List Nat} {x : Nat} (h : x ∈ l) : ∃ k, k < l.length ∧ l.getD k 0 = x := by
  obtain ⟨k, hk, e⟩ := List.getElem_of_mem h
  exact ⟨k, hk, by rw [List.getD_eq_getElem?_getD, List.getElem?_eq_getElem hk]; exact e⟩
end Go.Proofs.YtigidchicloleaaGreatDoor.Arr
