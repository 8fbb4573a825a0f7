/- Arrays whose texts are appended one by one; the document's Fill. -/
import Derived.Test.YtigidchicloleaaGreatDoorHD
import Derived.Test.YtigidchicloleaaGreatDoorGI
namespace Go.Proofs.YtigidchicloleaaGreatDoor.Arr
open Go.RowKit Go.Shelf
open Go.Lib
attribute [local go_sem] Oper.semAt_some
def strs (l : List (List UInt8)) : List Value := l.map (fun x => Value.string ⟨List.toArray x⟩)
theorem strs_len (l : List (List UInt8)) : (strs l).length = l.length := by simp [strs]
structure OutI (W5 : World) (G : Nat) (c0 : Value) (l : List (List UInt8)) (W : World) : Prop where
  old : W5.grownBy W (some G)
  lt : G < W5.heap.size
  row : ∃ pv cv, W.heap[G]? = some (.cells #[c0, .slice pv l.length cv] 25 (0, 0)) ∧ W.ownsRow (G + 1) 9 1 (.slice pv l.length cv) l.length (strs l) ∧ (∀ k, (Value.slice pv l.length cv).ownBlock = some k → W5.heap.size ≤ k)
theorem OutI.start {W5 : World} {G : Nat} {c0 : Value} (h : W5.heap[G]? = some (.cells #[c0, .slice none 0 0] 25 (0, 0))) : OutI W5 G c0 [] W5 :=
  ⟨⟨rfl, rfl, rfl, Nat.le_refl _, fun _ _ _ => rfl⟩, (Array.getElem?_eq_some_iff.1 h).1, none, 0, h, ⟨by simp [strs], .inl ⟨rfl, rfl⟩⟩, fun k e => by cases e⟩
theorem OutI.next {W5 W W' : World} {G : Nat} {c0 : Value} {l : List (List UInt8)} (h : OutI W5 G c0 l W) (hb : Below W.heap.size W W') : OutI W5 G c0 l W' := by
  obtain ⟨pv, cv, h1, h2, h3⟩ := h.row
  exact ⟨h.old.trans (gb_of_below hb _), h.lt, pv, cv, (hb.block G (Array.getElem?_eq_some_iff.1 h1).1).trans h1, h2.kept (gb_of_below hb none) (by cases pv <;> simp [Value.ownBlock]), h3⟩
theorem OutI.below {W5 W w : World} {G : Nat} {c0 : Value} {l : List (List UInt8)} (h : OutI W5 G c0 l W) (hb : Below w.heap.size w W5) (hG : w.heap.size ≤ G) : Below w.heap.size w W :=
  ⟨h.old.os.trans hb.os, h.old.tape.trans hb.tape, h.old.output.trans hb.output, Nat.le_trans hb.size h.old.size, fun k hk => (h.old.block k (Nat.lt_of_lt_of_le hk hb.size) (by intro e; injection e with e; omega)).trans (hb.block k hk)⟩
theorem OutI.step {W5 W W1 W2 : World} {G gv cv cv' : Nat} {pv : Option Addr} {c0 : Value} {l : List (List UInt8)} {y : List UInt8} {n : Nat} (h : OutI W5 G c0 l W) (hn : l.length = n) (hb : W.heap[G]? = some (.cells #[c0, .slice pv n cv] 25 (0, 0))) (hw : ∀ k, (Value.slice pv n cv).ownBlock = some k → W5.heap.size ≤ k) (hB : Below W.heap.size W W1)
    (ho : W2.ownsRow W5.heap.size 9 1 (.slice (some ⟨gv, 0, none⟩) (n + 1) cv') (n + 1) (strs (l ++ [y]))) (hg : W1.grownBy W2 (Value.slice pv n cv).ownBlock) :
    OutI W5 G c0 (l ++ [y]) (W2.setCell ⟨G, 1, none⟩ (.slice (some ⟨gv, 0, none⟩) (n + 1) cv')) ∧ W2.heap[G]? = some (.cells #[c0, .slice pv n cv] 25 (0, 0)) := by
  have hGlt := (Array.getElem?_eq_some_iff.1 hb).1
  have hG2 : W2.heap[G]? = some (.cells #[c0, .slice pv n cv] 25 (0, 0)) := (hg.block G (Nat.lt_of_lt_of_le hGlt hB.size) (by intro e; have := hw G e.symm; have := h.lt; omega)).trans ((hB.block G hGlt).trans hb)
  have hgv : W5.heap.size ≤ gv := (ho.lt gv rfl).1
  have hl := h.lt
  have hlen : (l ++ [y]).length = n + 1 := by rw [List.length_append, hn]; rfl
  refine ⟨⟨?_, h.lt, some ⟨gv, 0, none⟩, cv', ?_, ?_, ?_⟩, hG2⟩
  · have o1 := h.old.trans (gb_of_below hB (some G))
    refine ⟨hg.os.trans o1.os, hg.tape.trans o1.tape, hg.output.trans o1.output, Nat.le_trans o1.size (Nat.le_trans hg.size (Nat.le_of_eq (by simp))), fun k hk hne => ?_⟩
    rw [Below.heap_setCell _ _ _ _ (by intro e; exact hne (congrArg some e)), hg.block k (Nat.lt_of_lt_of_le hk o1.size) (by intro e; have := hw k e.symm; omega)]
    exact o1.block k hk hne
  · rw [hlen]
    have := heap_set W2 G 1 (.slice (some ⟨gv, 0, none⟩) (n + 1) cv') _ _ hG2
    rw [this]; rfl
  · rw [hlen]
    exact ownsRow_setCell_other (show W2.ownsRow (G + 1) 9 1 (.slice (some ⟨gv, 0, none⟩) (n + 1) cv') (n + 1) (strs (l ++ [y])) from ⟨ho.1, ho.2.imp id fun ⟨g, cap, cur, e, hg', r⟩ => ⟨g, cap, cur, e, by omega, r⟩⟩) (by simp [Value.ownBlock]; omega) _
  · rw [hlen]
    intro k e; cases e; exact hgv
theorem OutI.reads {W5 W : World} {G n cv : Nat} {pv : Option Addr} {c0 : Value} {l : List (List UInt8)} (h : OutI W5 G c0 l W) (hn : l.length = n) (hb : W.heap[G]? = some (.cells #[c0, .slice pv n cv] 25 (0, 0))) : RdS W pv l ∧ ∀ b off, pv = some ⟨b, off, none⟩ → 0 < l.length → G < b := by
  obtain ⟨pv', cv', h1, h2, h3⟩ := h.row
  rw [hb] at h1
  injection h1 with h1
  injection h1 with h1
  obtain ⟨rfl, rfl⟩ : pv = pv' ∧ cv = cv' := by simpa [hn] using h1
  obtain ⟨-, ⟨e, e2⟩ | ⟨g, cap, cur, e, hg, hh, -⟩⟩ := id h2
  · exact ⟨.inl e2, fun b off _ h0 => by omega⟩
  · injection e with e _ e3
    subst e
    refine ⟨.inr ⟨g, 0, rfl, (Array.getElem?_eq_some_iff.1 hh).1, fun j hj => ?_⟩, fun b off e _ => by cases e; omega⟩
    rw [Nat.zero_add, h2.cellAt j (by omega), strs, List.getElem?_map, List.getElem?_eq_getElem hj, List.getD_eq_getElem?_getD, List.getElem?_eq_getElem hj]
    rfl
end Go.Proofs.YtigidchicloleaaGreatDoor.Arr
namespace Go.Proofs.YtigidchicloleaaGreatDoor.Arr
open Go.RowKit Go.Shelf
open Go.Lib
attribute [local go_sem] Oper.semAt_some
theorem getD_take {l : List Int} {i j : Nat} (h : j < i) : (l.take i).getD j 0 = l.getD j 0 := by
  rw [List.getD_eq_getElem?_getD, List.getElem?_take_of_lt h, ← List.getD_eq_getElem?_getD]
theorem Rd.take {w : World} {p : Option Addr} {l : List Int} (h : Rd w p l) (i : Nat) : Rd w p (l.take i) := by
  refine ⟨fun z hz => h.wf z (List.mem_of_mem_take hz), ?_⟩
  rcases h.cell with h0 | ⟨b, off, h1, h2, h3⟩
  · exact .inl (by rw [List.length_take]; omega)
  · exact .inr ⟨b, off, h1, h2, fun j hj => by
      rw [List.length_take] at hj
      rw [getD_take (by omega)]; exact h3 j (by omega)⟩
end Go.Proofs.YtigidchicloleaaGreatDoor.Arr
namespace Go.Proofs.YtigidchicloleaaGreatDoor.Arr
open Go.RowKit
open Go.Lib
attribute [local go_sem] Oper.semAt_some
theorem ixOf_small {s : List Nat} {i : Nat} (hi : i < prod s) (hsb : ∀ x ∈ s, x ≤ 1024) : ∀ x ∈ ixOf s i, x < 1024 := fun x hx => by
  obtain ⟨k, hk, e⟩ := List.getElem_of_mem hx
  have h1 := (ixOf_is s i hi).1
  have h2 := h1.2 k (by rw [← h1.1]; exact hk)
  have h3 := hsb (s.getD k 0) (by rw [List.getD_eq_getElem?_getD, List.getElem?_eq_getElem (by rw [← h1.1]; exact hk)]; exact List.getElem_mem _)
  rw [List.getD_eq_getElem?_getD, List.getElem?_eq_getElem hk, Option.getD_some, e] at h2
  omega
end Go.Proofs.YtigidchicloleaaGreatDoor.Arr
namespace Go.Proofs.YtigidchicloleaaGreatDoor.Arr
open Go.RowKit Go.Shelf
open Go.Lib
attribute [local go_sem] Oper.semAt_some
structure Sp (B0 Ba Bx Bf R n m c d cx : Nat) (p q xq : Option Addr) (s axes : List Nat) (l : List (List UInt8)) (W : World) : Prop where
  ba : W.heap[Ba]? = some (.cells #[.slice p n c, .slice q m d] 25 (0, 0))
  bx : W.heap[Bx]? = some (.cells #[.slice xq n cx] 22 (0, 0))
  bf : W.heap[Bf]? = some (.cells #[.slice (some ⟨R, 0, none⟩) n n] 22 (0, 0))
  row : ∃ r0 : List Nat, r0.length = n ∧ W.heap[R]? = some (.cells (ixC r0) 3 (0, 0))
  sh : RdN W p s
  vals : RdS W q l
  ax : RdN W xq axes
  lts : Ba < B0 ∧ Bx < B0 ∧ Bf < B0 ∧ R < B0 ∧ Ba ≠ R ∧ Bx ≠ R ∧ Bf ≠ R
  lp : ∀ b off, p = some ⟨b, off, none⟩ → 0 < s.length → b < B0 ∧ b ≠ R
  lq : ∀ b off, q = some ⟨b, off, none⟩ → 0 < l.length → b < B0 ∧ b ≠ R
  lx : ∀ b off, xq = some ⟨b, off, none⟩ → 0 < axes.length → b < B0 ∧ b ≠ R
section
variable {B0 Ba Bx Bf R n m c d cx : Nat} {p q xq : Option Addr} {s axes : List Nat} {l : List (List UInt8)} {W W' : World}
theorem Sp.keep (h : Sp B0 Ba Bx Bf R n m c d cx p q xq s axes l W) (hs : W.heap.size ≤ W'.heap.size) (hk : ∀ b, b < W.heap.size → b < B0 → b ≠ R → W'.heap[b]? = W.heap[b]?) (hR : ∃ r0 : List Nat, r0.length = n ∧ W'.heap[R]? = some (.cells (ixC r0) 3 (0, 0))) : Sp B0 Ba Bx Bf R n m c d cx p q xq s axes l W' := by
  obtain ⟨l1, l2, l3, l4, l5, l6, l7⟩ := h.lts
  have sz : ∀ {k : Nat} {o : Obj}, W.heap[k]? = some o → k < W.heap.size := fun hh => (Array.getElem?_eq_some_iff.1 hh).1
  refine ⟨(hk Ba (sz h.ba) l1 l5).trans h.ba, (hk Bx (sz h.bx) l2 l6).trans h.bx, (hk Bf (sz h.bf) l3 l7).trans h.bf, hR, h.sh.keep hs (fun b off e h0 => ?_), h.vals.keep hs (fun b off e h0 => ?_), h.ax.keep hs (fun b off e h0 => ?_), h.lts, h.lp, h.lq, h.lx⟩
  · obtain ⟨b', off', x, e', hb', -⟩ := h.sh.at h0
    rw [e] at e'; cases e'
    exact hk b hb' (h.lp b off e h0).1 (h.lp b off e h0).2
  · obtain ⟨b', off', x, e', hb', -⟩ := h.vals.at h0
    rw [e] at e'; cases e'
    exact hk b hb' (h.lq b off e h0).1 (h.lq b off e h0).2
  · obtain ⟨b', off', x, e', hb', -⟩ := h.ax.at h0
    rw [e] at e'; cases e'
    exact hk b hb' (h.lx b off e h0).1 (h.lx b off e h0).2
theorem Sp.above (h : Sp B0 Ba Bx Bf R n m c d cx p q xq s axes l W) {r : Option Nat} (hg : W.grownBy W' r) (hr : ∀ k, r = some k → B0 ≤ k) : Sp B0 Ba Bx Bf R n m c d cx p q xq s axes l W' := by
  refine h.keep hg.size (fun b hb hb0 _ => hg.block b hb (fun e => by have := hr b e.symm; omega)) ?_
  obtain ⟨r0, h1, h2⟩ := h.row
  exact ⟨r0, h1, (hg.block R (Array.getElem?_eq_some_iff.1 h2).1 (fun e => by have := hr R e.symm; have := h.lts.2.2.2.1; omega)).trans h2⟩
theorem Sp.atRow (h : Sp B0 Ba Bx Bf R n m c d cx p q xq s axes l W) (hg : W.grownBy W' (some R)) (hR : ∃ r0 : List Nat, r0.length = n ∧ W'.heap[R]? = some (.cells (ixC r0) 3 (0, 0))) : Sp B0 Ba Bx Bf R n m c d cx p q xq s axes l W' :=
  h.keep hg.size (fun b hb _ hne => hg.block b hb (fun e => hne (Option.some.inj e))) hR
end
end Go.Proofs.YtigidchicloleaaGreatDoor.Arr
namespace Go.Proofs.YtigidchicloleaaGreatDoor.Arr
open Go.RowKit Go.Shelf
open Go.Lib
attribute [local go_sem] Oper.semAt_some
theorem ext_getD {a b : List Nat} (h : a.length = b.length) (hk : ∀ k, k < a.length → a.getD k 0 = b.getD k 0) : a = b := by
  refine List.ext_getElem h (fun k h1 h2 => ?_)
  have := hk k h1
  rw [List.getD_eq_getElem?_getD, List.getElem?_eq_getElem h1, List.getD_eq_getElem?_getD, List.getElem?_eq_getElem h2] at this
  exact this
end Go.Proofs.YtigidchicloleaaGreatDoor.Arr
namespace Go.Proofs.YtigidchicloleaaGreatDoor.Arr
open Go.RowKit Go.Shelf
open Go.Lib
def bk (ax : List Nat) (i : Nat) : List Nat := (List.range ax.length).map (fun j => if ax.idxOf j < i then ax.idxOf j else 0)
def inv (ax : List Nat) : List Nat := bk ax ax.length
theorem mem_getD {l : List Nat} {x : Nat} (h : x ∈ l) : ∃ k, k < l.length ∧ l.getD k 0 = x := by
  obtain ⟨k, hk, e⟩ := List.getElem_of_mem h
  exact ⟨k, hk, by rw [List.getD_eq_getElem?_getD, List.getElem?_eq_getElem hk]; exact e⟩
end Go.Proofs.YtigidchicloleaaGreatDoor.Arr
set_option maxHeartbeats 2000000
set_option maxRecDepth 100000
namespace Go.Proofs.YtigidchicloleaaGreatDoor.Arr
open Go.RowKit Go.Shelf
open Go.Lib
attribute [local go_sem] Oper.semAt_some
def szOk (z : List Int) : Bool := z.all (fun x => decide (1 ≤ x) && decide (x ≤ 1024))
theorem szOk_no {z : List Int} {k : Nat} (hk : k < z.length) (h : z.getD k 0 < 1 ∨ 1024 < z.getD k 0) : szOk z = false := by
  unfold szOk
  rw [List.all_eq_false]
  refine ⟨z.getD k 0, by rw [List.getD_eq_getElem?_getD, List.getElem?_eq_getElem hk]; exact List.getElem_mem _, ?_⟩
  simp only [Bool.and_eq_true, decide_eq_true_eq]
  omega
theorem szOk_yes {z : List Int} (h : ∀ k, k < z.length → 1 ≤ z.getD k 0 ∧ z.getD k 0 ≤ 1024) : szOk z = true := by
  unfold szOk
  rw [List.all_eq_true]
  intro x hx
  obtain ⟨k, hk, rfl⟩ := List.getElem_of_mem hx
  have := h k hk
  rw [List.getD_eq_getElem?_getD, List.getElem?_eq_getElem hk, Option.getD_some] at this
  simp only [Bool.and_eq_true, decide_eq_true_eq]
  exact this
theorem szOk_nat {z : List Int} (h : szOk z = true) : ∃ m : List Nat, z = m.map Int.ofNat ∧ ∀ x ∈ m, 1 ≤ x ∧ x ≤ 1024 := by
  unfold szOk at h
  rw [List.all_eq_true] at h
  have hz : ∀ x ∈ z, 1 ≤ x ∧ x ≤ 1024 := fun x hx => by
    have := h x hx
    simpa only [Bool.and_eq_true, decide_eq_true_eq] using this
  refine ⟨z.map Int.toNat, ?_, fun x hx => ?_⟩
  · rw [List.map_map]
    refine ((List.map_congr_left fun x hx => ?_).trans (List.map_id z)).symm
    have := hz x hx
    exact Int.toNat_of_nonneg (by omega)
  · obtain ⟨y, hy, rfl⟩ := List.mem_map.1 hx
    have := hz y hy
    omega
def sized (s z : List Int) : Bool := decide (z.length = s.length) && szOk z
theorem vs_len {s : List Int} (h : vs s = true) : s.length ≤ 4 := by
  unfold vs at h
  rw [Bool.and_eq_true, Bool.and_eq_true, decide_eq_true_eq] at h
  exact h.1.1
def chkV (s z : List Int) : Int := if vs s = false then 60 else if sized s z = false then 2 else 0
theorem check_any (p q : Option Addr) (c d n k : Nat) (s z : List Int) (w : World) (hs : Hid (s.length = n)) (hz : Hid (z.length = k)) (hp : Rd w p s) (hq : Rd w q z) :
    Calls Tryz.prog 73 #[.slice p n c, .slice q k d] w fun e w' => w = w' ∧ e = .returned (.int .i64 (chkV s z)) := by
  have HP := Lib.hid hp
  have HQ := Lib.hid hq
  obtain ⟨v, HV⟩ : ∃ v, Hid (v = chkV s z) := ⟨_, Lib.hid rfl⟩
  rw [← HV.out]
  obtain ⟨b, HBV⟩ : ∃ b, Hid (b = vs s) := ⟨_, Lib.hid rfl⟩
  have H18 : Hid (Calls Tryz.prog 19 #[.slice p n c] w fun e w' => w = w' ∧ e = .returned (.bool b)) := Lib.hid (by
    have := vshape_any p c s w hp
    rwa [hs.out, ← HBV.out] at this)
  clear hp hq
  by_cases hb : b = false
  · subst hb
    obtain rfl : v = 60 := by rw [HV.out]; unfold chkV; rw [if_pos HBV.out.symm]
    go_enter Tryz.func73, Tryz.ntmps73
    go_wp2_with fail
    refine (H18.out).mono ?_
    rintro e w' ⟨rfl, rfl⟩
    go_wp2_with fail
    go_ret
    exact ⟨rfl, rfl⟩
  obtain rfl : b = true := by simpa using hb
  by_cases hnk : k = n
  case neg =>
    obtain rfl : v = 2 := by rw [HV.out]; unfold chkV sized; rw [if_neg (by rw [← HBV.out]; simp), if_pos (by rw [decide_eq_false (by rw [hs.out, hz.out]; exact hnk)]; rfl)]
    have hle3 : ((k : Int) != (n : Int)) = true := by rw [bne_iff_ne]; omega
    go_enter Tryz.func73, Tryz.ntmps73
    go_wp2_with fail
    refine (H18.out).mono ?_
    rintro e w' ⟨rfl, rfl⟩
    go_wp2_with fail
    go_ret
    exact ⟨rfl, rfl⟩
  subst hnk
  have hki : (k : Int) ≤ 4 := by
    have h := vs_len HBV.out.symm
    rw [hs.out] at h
    omega
  have HBAD : Hid (∀ j, j < k → (z.getD j 0 < 1 ∨ 1024 < z.getD j 0) → v = 2) := Lib.hid (fun j hj h => by
    rw [HV.out]; unfold chkV sized; rw [if_neg (by rw [← HBV.out]; simp), szOk_no (by rw [hz.out]; exact hj) h, Bool.and_false, if_pos rfl])
  have HGOOD : Hid ((∀ j, j < k → 1 ≤ z.getD j 0 ∧ z.getD j 0 ≤ 1024) → v = 0) := Lib.hid (fun h => by
    rw [HV.out]; unfold chkV sized; rw [if_neg (by rw [← HBV.out]; simp), szOk_yes (fun j hj => h j (by rw [← hz.out]; exact hj)), decide_eq_true (by rw [hs.out, hz.out]), if_neg (by simp)])
  go_enter Tryz.func73, Tryz.ntmps73
  go_wp2_with fail
  refine (H18.out).mono ?_
  rintro e w' ⟨rfl, rfl⟩
  go_wp2_with fail
  go_loop [17] (fun iv => ∃ i : Nat, i ≤ k ∧ iv = .int .i64 i ∧ Hid (∀ j, j < i → 1 ≤ z.getD j 0 ∧ z.getD j 0 ≤ 1024)) (fun iv => k - (Go.RowKit.intOf iv).toNat)
  case atStart => exact ⟨0, Nat.zero_le _, rfl, Lib.hid (fun k hk => by omega)⟩
  case round =>
    obtain ⟨i, hi, rfl, HA⟩ := hrel
    have ii : (i : Int) ≤ (k : Int) := by omega
    by_cases hlt : i < k
    · have ilt : (i : Int) < (k : Int) := by omega
      obtain ⟨b, off, x, rfl, -, hcell, HZ, -, -⟩ := HQ.out.at (k := i) (by rw [hz.out]; exact hlt)
      by_cases hx0 : x < 1
      · have e0 := HBAD.out i hlt (.inl (by rw [← HZ.out]; exact hx0))
        subst e0
        go_wp2_with fail
        go_ret
        exact ⟨rfl, rfl⟩
      · by_cases hx1 : 1024 < x
        · have e0 := HBAD.out i hlt (.inr (by rw [← HZ.out]; exact hx1))
          subst e0
          go_wp2_with fail
          go_ret
          exact ⟨rfl, rfl⟩
        · have hx2 : x ≤ 1024 := by omega
          have hst : Hid (∀ j, j < i + 1 → 1 ≤ z.getD j 0 ∧ z.getD j 0 ≤ 1024) := Lib.hid (fun j hj => by
            by_cases e : j = i
            · rw [e, ← HZ.out]; omega
            · exact HA.out j (by omega))
          go_wp2_with fail
          go_round
          case rel => exact ⟨i + 1, by omega, by go_num, hst⟩
          case measure => simp [Go.RowKit.intOf]; omega
    · obtain rfl : i = k := by omega
      have ilt : ¬ (i : Int) < (i : Int) := by omega
      have e0 := HGOOD.out HA.out
      subst e0
      go_wp2_with fail
      go_ret
      exact ⟨rfl, rfl⟩
end Go.Proofs.YtigidchicloleaaGreatDoor.Arr
set_option maxHeartbeats 2000000
set_option maxRecDepth 100000
namespace Go.Proofs.YtigidchicloleaaGreatDoor.Arr
open Go.RowKit Go.Shelf
open Go.Lib
attribute [local go_sem] Oper.semAt_some
def nums (s z : List Nat) : List Nat := (List.range s.length).map (fun k => (s.getD k 0 + z.getD k 0 - 1) / z.getD k 0)
theorem nums_len (s z : List Nat) : (nums s z).length = s.length := by simp [nums]
theorem nums_at {s z : List Nat} {k : Nat} (hk : k < s.length) : (nums s z).getD k 0 = (s.getD k 0 + z.getD k 0 - 1) / z.getD k 0 := by
  unfold nums
  rw [List.getD_eq_getElem?_getD, List.getElem?_map, List.getElem?_range hk]; rfl
theorem cdiv_le {a b : Nat} (h : 1 ≤ b) : (a + b - 1) / b ≤ a := by
  rw [Nat.div_le_iff_le_mul (by omega)]
  have : a ≤ b * a := Nat.le_mul_of_pos_left a (by omega)
  rw [Nat.mul_comm a b]; omega
def NumsPost (w : World) (n : Nat) (L : List Nat) (e : Ending) (w' : World) : Prop := Below w.heap.size w w' ∧ ∃ g, w.heap.size ≤ g ∧ e = .returned (.slice (some ⟨g, 0, none⟩) n n) ∧ w'.heap[g]? = some (.cells (ixC L) 3 (0, 0))
theorem getD_bound {l : List Nat} {B k : Nat} (h : ∀ x ∈ l, x ≤ B) : l.getD k 0 ≤ B := by
  rw [List.getD_eq_getElem?_getD]
  cases he : l[k]? with
  | none => simp
  | some x => exact h x (List.mem_of_getElem? he)
theorem counts_all (p q : Option Addr) (c d n : Nat) (s z : List Nat) (w : World) (hn : n ≤ 4) (hs : Hid (s.length = n)) (hz : Hid (z.length = n)) (hsb : Hid (∀ x ∈ s, x ≤ 1024)) (hzb : Hid (∀ x ∈ z, 1 ≤ x ∧ x ≤ 1024)) (hp : RdN w p s) (hq : RdN w q z) :
    Calls Tryz.prog 74 #[.slice p n c, .slice q n d] w (NumsPost w n (nums s z)) := by
  have HP := Lib.hid hp
  have HQ := Lib.hid hq
  have hni : (n : Int) ≤ 4 := by omega
  have hmk := fun W => make_ints n (by omega) W
  obtain ⟨g, HG⟩ : ∃ g, Hid (g = w.heap.size) := ⟨_, rfl⟩
  obtain ⟨W1, HW1⟩ : ∃ W1, Hid (w.alloc (.cells (ixC (zn n)) 3) = W1) := ⟨_, Lib.hid rfl⟩
  have HB1 : Hid (Below w.heap.size w W1) := Lib.hid (by rw [← HW1.out]; exact (Below.refl _ w).alloc (Nat.le_refl _) _)
  have HR1 : Hid (W1.heap[g]? = some (.cells (ixC ((nums s z).take 0 ++ zn (n - 0))) 3 (0, 0))) := Lib.hid (by rw [← HW1.out, HG.out]; exact World.alloc_heap_new w _)
  clear hp hq
  go_enter Tryz.func74, Tryz.ntmps74
  go_wp2_with fail
  rw [HW1.out, ← HG.out]
  clear hmk
  go_loopw [13] (fun iv wr => ∃ i : Nat, i ≤ n ∧ iv = .int .i64 i ∧ Hid (Below w.heap.size w wr) ∧ Hid (wr.heap[g]? = some (.cells (ixC ((nums s z).take i ++ zn (n - i))) 3 (0, 0)))) (fun iv _ => n - (Go.RowKit.intOf iv).toNat)
  case atStart => exact ⟨0, Nat.zero_le _, rfl, HB1, HR1⟩
  case round =>
    obtain ⟨i, hi, rfl, HB, HR⟩ := hrel
    have ii : (i : Int) ≤ (n : Int) := by omega
    by_cases hlt : i < n
    · have ilt : (i : Int) < (n : Int) := by omega
      have his : i < s.length := by rw [hs.out]; exact hlt
      have hiz : i < z.length := by rw [hz.out]; exact hlt
      obtain ⟨b1, o1, x, e1, hb1, hc1, HX⟩ := HP.out.at his
      obtain ⟨b2, o2, y, e2, hb2, hc2, HY⟩ := HQ.out.at hiz
      subst e1 e2
      have hx1 : x ≤ 1024 := by rw [HX.out]; exact getD_bound hsb.out
      have hy1 : 1 ≤ y ∧ y ≤ 1024 := by
        rw [HY.out, List.getD_eq_getElem?_getD, List.getElem?_eq_getElem hiz]
        exact hzb.out _ (List.getElem_mem _)
      have ix : (x : Int) ≤ 1024 := by omega
      have iy : (y : Int) ≤ 1024 := by omega
      have iy1 : (1 : Int) ≤ (y : Int) := by omega
      have iyn : ¬ (y : Int) = 0 := by omega
      obtain ⟨m, HM⟩ : ∃ m, Hid (m = (x + y - 1) / y) := ⟨_, rfl⟩
      have im : (m : Int) ≤ 1024 := by have h : m ≤ x := by (rw [HM.out]; exact cdiv_le hy1.1)
                                       omega
      have hdiv : ((x : Int) + (y : Int) - 1).tdiv (y : Int) = (m : Int) := by
        rw [HM.out, show (x : Int) + (y : Int) - 1 = ((x + y - 1 : Nat) : Int) by omega]
        exact (Int.ofNat_tdiv _ _).symm
      have hva : (nums s z).getD i 0 = m := by rw [nums_at his, ← HX.out, ← HY.out, HM.out]
      have hgs : ∀ W, Below w.heap.size w W → W.cell? ⟨b1, o1 + i, none⟩ = some (.int .i64 (x : Int)) ∧ W.cell? ⟨b2, o2 + i, none⟩ = some (.int .i64 (y : Int)) := fun W hW =>
        ⟨(hW.cell (p := ⟨b1, o1 + i, none⟩) hb1).trans hc1, (hW.cell (p := ⟨b2, o2 + i, none⟩) hb2).trans hc2⟩
      have HALL := Lib.hid hgs
      have hcl : ((nums s z).take i).length = i := by rw [List.length_take, nums_len, hs.out]; omega
      have HRm := HR.out
      rw [zn_succ hlt] at HRm
      have c1 : wr.cell? ⟨g, i, none⟩ = some (.int .i64 ((0 : Nat) : Int)) := by simp [World.cell?, HRm, ixC_mid hcl]
      have z1 : wr.frozen? ⟨g, i, none⟩ = false := by simp [World.frozen?, HRm]
      have HE := Lib.hid (heap_set wr g i (.int .i64 (m : Int)) _ _ HRm)
      obtain ⟨W5, HW5⟩ : ∃ W5, Hid (wr.setCell ⟨g, i, none⟩ (.int .i64 (m : Int)) = W5) := ⟨_, Lib.hid rfl⟩
      have HR2 : Hid (W5.heap[g]? = some (.cells (ixC ((nums s z).take (i + 1) ++ zn (n - (i + 1)))) 3 (0, 0))) := Lib.hid (by
        have h := HE.out
        rw [ixC_set ((nums s z).take i) 0 m _ hcl] at h
        rw [take_succ' (by rw [nums_len]; exact his), List.append_assoc, hva, ← HW5.out]
        exact h)
      have HB2 : Hid (Below w.heap.size w W5) := Lib.hid (by rw [← HW5.out]; exact HB.out.setCell (p := ⟨g, i, none⟩) (by show w.heap.size ≤ g; rw [HG.out]; exact Nat.le_refl _) _)
      obtain ⟨d1, d2⟩ := hgs wr HB.out
      clear HRm hva hgs hc1 hc2 hcl hx1 hy1
      go_wp2_with fail
      rw [HW5.out]
      go_roundw
      case rel => exact ⟨i + 1, by omega, by go_num, HB2, HR2⟩
      case measure => simp [Go.RowKit.intOf]; omega
    · obtain rfl : i = n := by omega
      have ilt : ¬ (i : Int) < (i : Int) := by omega
      have hfin : Hid (Below w.heap.size w wr ∧ wr.heap[g]? = some (.cells (ixC (nums s z)) 3 (0, 0))) := Lib.hid ⟨HB.out, by
        have h := HR.out
        rw [Nat.sub_self, List.take_of_length_le (by rw [nums_len, hs.out]; exact Nat.le_refl _)] at h
        simpa [zn] using h⟩
      have hgw : w.heap.size ≤ g := by rw [HG.out]; exact Nat.le_refl _
      go_wp2_with fail
      go_ret
      exact ⟨hfin.out.1, g, hgw, rfl, hfin.out.2⟩
end Go.Proofs.YtigidchicloleaaGreatDoor.Arr
