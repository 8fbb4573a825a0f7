/- The document's Index. -/
import Derived.Test.YtigidchicloleaaGreatDoorGI
import Derived.Test.YtigidchicloleaaGreatDoorIA
set_option maxHeartbeats 2000000
set_option maxRecDepth 100000
namespace Go.Proofs.YtigidchicloleaaGreatDoor.Arr
open Go.RowKit
open Go.Lib
attribute [local go_sem] Oper.semAt_some
theorem prod_drop {s : List Nat} {k : Nat} (hk : k < s.length) : prod (s.drop k) = s.getD k 0 * prod (s.drop (k + 1)) := by
  rw [List.drop_eq_getElem_cons hk, prod_cons, List.getD_eq_getElem?_getD, List.getElem?_eq_getElem hk]; rfl
theorem prod_split : ∀ (s : List Nat) (k : Nat), prod s = prod (s.take k) * prod (s.drop k)
  | s, 0 => by simp [prod]
  | [], k + 1 => by simp [prod]
  | x :: s, k + 1 => by rw [List.take_succ_cons, List.drop_succ_cons, prod_cons, prod_cons, prod_split s k, Nat.mul_assoc]
theorem ixOf_getD : ∀ (s : List Nat) (i k : Nat), i < prod s → k < s.length → (ixOf s i).getD k 0 = (i / prod (s.drop (k + 1))) % s.getD k 0
  | [], _, _, _, hk => absurd hk (by simp)
  | x :: s, i, 0, hi, _ => by
    rw [prod_cons] at hi
    show i / prod s = (i / prod s) % x
    rw [Nat.mod_eq_of_lt (Nat.div_lt_of_lt_mul (by rw [Nat.mul_comm]; exact hi))]
  | x :: s, i, k + 1, hi, hk => by
    rw [prod_cons] at hi
    have hp : 0 < prod s := by
      rcases Nat.eq_zero_or_pos (prod s) with h0 | h0
      · rw [h0, Nat.mul_zero] at hi; omega
      · exact h0
    have hk2 : k < s.length := by simpa using hk
    have ih := ixOf_getD s (i % prod s) k (Nat.mod_lt _ hp) hk2
    show (ixOf s (i % prod s)).getD k 0 = (i / prod (s.drop (k + 1))) % s.getD k 0
    rw [ih]
    have e : prod s = (prod (s.take k) * s.getD k 0) * prod (s.drop (k + 1)) := by rw [prod_split s k, prod_drop hk2, Nat.mul_assoc]
    rw [e, Nat.mod_mul_left_div_self, Nat.mul_comm (prod (s.take k)), Nat.mod_mul_right_mod]
theorem zn_app (k : Nat) (R : List Nat) : zn (k + 1) ++ R = zn k ++ 0 :: R := by
  unfold zn
  rw [List.replicate_succ', List.append_assoc]; rfl
theorem ixOf_small {s : List Nat} {i : Nat} (hi : i < prod s) (hsb : ∀ x ∈ s, x ≤ 1024) : ∀ x ∈ ixOf s i, x < 1024 := fun x hx => by
  obtain ⟨k, hk, e⟩ := List.getElem_of_mem hx
  have h1 := (ixOf_is s i hi).1
  have h2 := h1.2 k (by rw [← h1.1]; exact hk)
  have h3 := hsb (s.getD k 0) (by rw [List.getD_eq_getElem?_getD, List.getElem?_eq_getElem (by rw [← h1.1]; exact hk)]; exact List.getElem_mem _)
  rw [List.getD_eq_getElem?_getD, List.getElem?_eq_getElem hk, Option.getD_some, e] at h2
  omega
theorem rindex_any (p : Option Addr) (c n i : Nat) (s : List Nat) (w : World) (hn : n ≤ 4) (hs : Hid (s.length = n)) (hsb : Hid (∀ x ∈ s, x ≤ 1024)) (hi : Hid (i < prod s)) (h4 : prod s ≤ 4096) (hp : RdN w p s) :
    Calls Tryz.prog 66 #[.slice p n c, .int .i64 (i : Int)] w fun e w' => e = .returned (.slice (some ⟨w.heap.size, 0, none⟩) n n) ∧ w'.heap[w.heap.size]? = some (.cells (ixC (ixOf s i)) 3 (0, 0)) ∧ Below w.heap.size w w' := by
  have HP := Lib.hid hp
  have hni : (n : Int) ≤ 4 := by omega
  have hmk := fun W => make_ints n (by omega) W
  have HI4 : Hid (i ≤ 4096) := Lib.hid (by have := hi.out; omega)
  have HIX : Hid ((ixOf s i).length = n) := Lib.hid (by rw [ixOf_len, hs.out])
  obtain ⟨g, HG⟩ : ∃ g, Hid (g = w.heap.size) := ⟨_, rfl⟩
  obtain ⟨W1, HW1⟩ : ∃ W1, Hid (w.alloc (.cells (ixC (zn n)) 3) = W1) := ⟨_, Lib.hid rfl⟩
  have HB1 : Hid (Below w.heap.size w W1) := Lib.hid (by rw [← HW1.out]; exact (Below.refl _ _).alloc (Nat.le_refl _) _)
  have HG1 : Hid (W1.heap[g]? = some (.cells (ixC (zn n)) 3 (0, 0))) := Lib.hid (by rw [← HW1.out, HG.out]; exact World.alloc_heap_new _ _)
  clear hp h4
  go_enter Tryz.func66, Tryz.ntmps66
  go_wp2_with fail
  rw [HW1.out, ← HG.out]
  clear hmk
  go_loopw [1, 6] (fun mv kv wr => ∃ (j m : Nat) (t : Int), j ≤ n ∧ kv = .int .i64 t ∧ mv = .int .i64 (m : Int) ∧ t = (j : Int) - 1 ∧ Hid (m = i / prod (s.drop j)) ∧ Hid (wr.heap[g]? = some (.cells (ixC (zn j ++ (ixOf s i).drop j)) 3 (0, 0))) ∧ Hid (W1.grownBy wr (some g))) (fun _ kv _ => (intOf kv + 1).toNat)
  case atStart => exact ⟨n, i, _, Nat.le_refl _, rfl, rfl, rfl, Lib.hid (by rw [List.drop_of_length_le (by rw [hs.out]; omega)]; simp [prod]), Lib.hid (by rw [List.drop_of_length_le (by rw [HIX.out]; omega), List.append_nil]; exact HG1.out), Lib.hid ⟨rfl, rfl, rfl, Nat.le_refl _, fun _ _ _ => rfl⟩⟩
  case round =>
    obtain ⟨j, m, t, hj, rfl, rfl, ht, HM, HR, HB⟩ := hrel
    have HBW : Hid (Below w.heap.size w wr) := Lib.hid ⟨HB.out.os.trans HB1.out.os, HB.out.tape.trans HB1.out.tape, HB.out.output.trans HB1.out.output, Nat.le_trans HB1.out.size HB.out.size, fun k hk => (HB.out.block k (Nat.lt_of_lt_of_le hk HB1.out.size) (by intro e; injection e with e; rw [e, HG.out] at hk; omega)).trans (HB1.out.block k hk)⟩
    cases j with
    | zero =>
      obtain rfl : t = -1 := by omega
      have hfin : Hid (wr.heap[w.heap.size]? = some (.cells (ixC (ixOf s i)) 3 (0, 0)) ∧ Below w.heap.size w wr) := Lib.hid ⟨by rw [← HG.out]; exact HR.out, HBW.out⟩
      clear ht
      go_wp2_with fail
      go_ret
      exact ⟨by rw [HG.out]; rfl, hfin.out.1, hfin.out.2⟩
    | succ k =>
      obtain rfl : t = (k : Int) := by omega
      clear ht
      have hkn : (k : Int) < (n : Int) := by omega
      obtain ⟨b1, o1, x, rfl, hb1, hc1, HX⟩ := HP.out.at (k := k) (by rw [hs.out]; omega)
      have hks : k < s.length := by rw [hs.out]; omega
      have hxp : 0 < x := by
        have h1 := (ixOf_is s i hi.out).1.2 k hks
        rw [← HX.out] at h1; omega
      have hx1024 : x ≤ 1024 := by
        rw [HX.out, List.getD_eq_getElem?_getD, List.getElem?_eq_getElem hks]
        exact hsb.out _ (List.getElem_mem _)
      have hm4 : m ≤ 4096 := by
        rw [HM.out]; exact Nat.le_trans (Nat.div_le_self _ _) HI4.out
      have imi : (m : Int) ≤ 4096 := by omega
      have ixi : (x : Int) ≤ 1024 := by omega
      have ixp : (0 : Int) < (x : Int) := by omega
      have ixn : ¬ (x : Int) = 0 := by omega
      obtain ⟨y, HY⟩ : ∃ y, Hid (y = m % x) := ⟨_, rfl⟩
      obtain ⟨m2, HM2⟩ : ∃ m2, Hid (m2 = m / x) := ⟨_, rfl⟩
      have hmod : (m : Int).tmod (x : Int) = (y : Int) := by rw [HY.out]; exact (Int.ofNat_tmod m x).symm
      have hdiv : (m : Int).tdiv (x : Int) = (m2 : Int) := by rw [HM2.out]; exact (Int.ofNat_tdiv m x).symm
      have iy : (y : Int) ≤ 4096 := by rw [HY.out]; have := Nat.mod_le m x; omega
      have im2 : (m2 : Int) ≤ 4096 := by rw [HM2.out]; have := Nat.div_le_self m x; omega
      have hyx : Hid (y = (ixOf s i).getD k 0) := Lib.hid (by rw [ixOf_getD s i k hi.out hks, HY.out, HM.out, HX.out])
      have hstm : Hid (m2 = i / prod (s.drop k)) := Lib.hid (by rw [prod_drop hks, Nat.mul_comm, ← Nat.div_div_eq_div_mul, HM2.out, HM.out, HX.out])
      have hdr : (ixOf s i).drop k = y :: (ixOf s i).drop (k + 1) := by
        rw [List.drop_eq_getElem_cons (by rw [HIX.out]; omega), hyx.out, List.getD_eq_getElem?_getD, List.getElem?_eq_getElem (by rw [HIX.out]; omega)]; rfl
      have HDR := Lib.hid hdr
      have HZL : Hid ((zn k).length = k) := Lib.hid (by simp [zn])
      have HR0 : Hid (wr.heap[g]? = some (.cells (ixC (zn k ++ 0 :: (ixOf s i).drop (k + 1))) 3 (0, 0))) := Lib.hid (by rw [← zn_app]; exact HR.out)
      have hcg : wr.cell? ⟨g, k, none⟩ = some (.int .i64 0) := by
        have h := cell_row HR0.out (k := k) (by simp [zn])
        rw [getD_mid HZL.out] at h
        exact h
      have hfg : wr.frozen? ⟨g, k, none⟩ = false := free_row HR0.out
      have d1 : wr.cell? ⟨b1, o1 + k, none⟩ = some (.int .i64 (x : Int)) := (HBW.out.cell (p := ⟨b1, o1 + k, none⟩) hb1).trans hc1
      obtain ⟨W2, HW2⟩ : ∃ W2, Hid (wr.setCell ⟨g, k, none⟩ (.int .i64 (y : Int)) = W2) := ⟨_, Lib.hid rfl⟩
      have HR1 : Hid (W2.heap[g]? = some (.cells (ixC (zn k ++ (ixOf s i).drop k)) 3 (0, 0))) := Lib.hid (by
        rw [HDR.out, ← HW2.out, ← ixC_set (zn k) 0 y ((ixOf s i).drop (k + 1)) HZL.out]
        exact heap_set wr g k _ _ _ HR0.out)
      have HB2 : Hid (W1.grownBy W2 (some g)) := Lib.hid (HB.out.trans (by rw [← HW2.out]; exact gb_set _ _ _ _))
      have d2 : W2.cell? ⟨b1, o1 + k, none⟩ = some (.int .i64 (x : Int)) := by
        have hne : b1 ≠ g := by rw [HG.out]; omega
        have hh := (HB2.out.block b1 (Nat.lt_of_lt_of_le hb1 HB1.out.size) (by intro e; injection e with e; exact hne e)).trans (HB1.out.block b1 hb1)
        rw [World.cell?_of_block (a := ⟨b1, o1 + k, none⟩) hh]; exact hc1
      rw [← HW2.out] at d2
      clear hc1 hdr
      go_wp2_with fail
      rw [HW2.out]
      go_roundw
      case rel => exact ⟨k, m2, _, by omega, rfl, rfl, by go_num, hstm, HR1, HB2⟩
      case measure => simp [intOf]
end Go.Proofs.YtigidchicloleaaGreatDoor.Arr
namespace Go.Proofs.YtigidchicloleaaGreatDoor.Arr
open Go.RowKit Go.Shelf
open Go.Lib
attribute [local go_sem] Oper.semAt_some
def pk (s axes : List Nat) : List Nat := axes.map (fun a => s.getD a 0)
end Go.Proofs.YtigidchicloleaaGreatDoor.Arr
namespace Go.Proofs.YtigidchicloleaaGreatDoor.Arr
open Go.RowKit Go.Shelf
open Go.Lib
attribute [local go_sem] Oper.semAt_some
structure Sp (B0 Ba Bx Bf R n m c d cx : Nat) (p q xq : Option Addr) (s axes : List Nat) (l : List (List UInt8)) (W : World) : Prop where
  ba : W.heap[Ba]? = some (.cells #[.slice p n c, .slice q m d] 25 (0, 0))
  bx : W.heap[Bx]? = some (.cells #[.slice xq n cx] 22 (0, 0))
  bf : W.heap[Bf]? = some (.cells #[.slice (some ⟨R, 0, none⟩) n n] 22 (0, 0))
  row : ∃ r0 : List Nat, r0.length = n ∧ W.heap[R]? = some (.cells (ixC r0) 3 (0, 0))
  sh : RdN W p s
  vals : RdS W q l
  ax : RdN W xq axes
  lts : Ba < B0 ∧ Bx < B0 ∧ Bf < B0 ∧ R < B0 ∧ Ba ≠ R ∧ Bx ≠ R ∧ Bf ≠ R
  lp : ∀ b off, p = some ⟨b, off, none⟩ → 0 < s.length → b < B0 ∧ b ≠ R
  lq : ∀ b off, q = some ⟨b, off, none⟩ → 0 < l.length → b < B0 ∧ b ≠ R
  lx : ∀ b off, xq = some ⟨b, off, none⟩ → 0 < axes.length → b < B0 ∧ b ≠ R
section
variable {B0 Ba Bx Bf R n m c d cx : Nat} {p q xq : Option Addr} {s axes : List Nat} {l : List (List UInt8)} {W W' : World}
theorem Sp.keep (h : Sp B0 Ba Bx Bf R n m c d cx p q xq s axes l W) (hs : W.heap.size ≤ W'.heap.size) (hk : ∀ b, b < W.heap.size → b < B0 → b ≠ R → W'.heap[b]? = W.heap[b]?) (hR : ∃ r0 : List Nat, r0.length = n ∧ W'.heap[R]? = some (.cells (ixC r0) 3 (0, 0))) : Sp B0 Ba Bx Bf R n m c d cx p q xq s axes l W' := by
  obtain ⟨l1, l2, l3, l4, l5, l6, l7⟩ := h.lts
  have sz : ∀ {k : Nat} {o : Obj}, W.heap[k]? = some o → k < W.heap.size := fun hh => (Array.getElem?_eq_some_iff.1 hh).1
  refine ⟨(hk Ba (sz h.ba) l1 l5).trans h.ba, (hk Bx (sz h.bx) l2 l6).trans h.bx, (hk Bf (sz h.bf) l3 l7).trans h.bf, hR, h.sh.keep hs (fun b off e h0 => ?_), h.vals.keep hs (fun b off e h0 => ?_), h.ax.keep hs (fun b off e h0 => ?_), h.lts, h.lp, h.lq, h.lx⟩
  · obtain ⟨b', off', x, e', hb', -⟩ := h.sh.at h0
    rw [e] at e'; cases e'
    exact hk b hb' (h.lp b off e h0).1 (h.lp b off e h0).2
  · obtain ⟨b', off', x, e', hb', -⟩ := h.vals.at h0
    rw [e] at e'; cases e'
    exact hk b hb' (h.lq b off e h0).1 (h.lq b off e h0).2
  · obtain ⟨b', off', x, e', hb', -⟩ := h.ax.at h0
    rw [e] at e'; cases e'
    exact hk b hb' (h.lx b off e h0).1 (h.lx b off e h0).2
theorem Sp.above (h : Sp B0 Ba Bx Bf R n m c d cx p q xq s axes l W) {r : Option Nat} (hg : W.grownBy W' r) (hr : ∀ k, r = some k → B0 ≤ k) : Sp B0 Ba Bx Bf R n m c d cx p q xq s axes l W' := by
  refine h.keep hg.size (fun b hb hb0 _ => hg.block b hb (fun e => by have := hr b e.symm; omega)) ?_
  obtain ⟨r0, h1, h2⟩ := h.row
  exact ⟨r0, h1, (hg.block R (Array.getElem?_eq_some_iff.1 h2).1 (fun e => by have := hr R e.symm; have := h.lts.2.2.2.1; omega)).trans h2⟩
theorem Sp.atRow (h : Sp B0 Ba Bx Bf R n m c d cx p q xq s axes l W) (hg : W.grownBy W' (some R)) (hR : ∃ r0 : List Nat, r0.length = n ∧ W'.heap[R]? = some (.cells (ixC r0) 3 (0, 0))) : Sp B0 Ba Bx Bf R n m c d cx p q xq s axes l W' :=
  h.keep hg.size (fun b hb _ hne => hg.block b hb (fun e => hne (Option.some.inj e))) hR
end
end Go.Proofs.YtigidchicloleaaGreatDoor.Arr
namespace Go.Proofs.YtigidchicloleaaGreatDoor.Arr
open Go.RowKit Go.Shelf
open Go.Lib
attribute [local go_sem] Oper.semAt_some
theorem ext_getD {a b : List Nat} (h : a.length = b.length) (hk : ∀ k, k < a.length → a.getD k 0 = b.getD k 0) : a = b := by
  refine List.ext_getElem h (fun k h1 h2 => ?_)
  have := hk k h1
  rw [List.getD_eq_getElem?_getD, List.getElem?_eq_getElem h1, List.getD_eq_getElem?_getD, List.getElem?_eq_getElem h2] at this
  exact this
end Go.Proofs.YtigidchicloleaaGreatDoor.Arr
namespace Go.Proofs.YtigidchicloleaaGreatDoor.Arr
open Go.RowKit Go.Shelf
open Go.Lib
def bk (ax : List Nat) (i : Nat) : List Nat := (List.range ax.length).map (fun j => if ax.idxOf j < i then ax.idxOf j else 0)
theorem mem_getD {l : List Nat} {x : Nat} (h : x ∈ l) : ∃ k, k < l.length ∧ l.getD k 0 = x := by
  obtain ⟨k, hk, e⟩ := List.getElem_of_mem h
  exact ⟨k, hk, by rw [List.getD_eq_getElem?_getD, List.getElem?_eq_getElem hk]; exact e⟩
end Go.Proofs.YtigidchicloleaaGreatDoor.Arr
set_option maxHeartbeats 2000000
set_option maxRecDepth 100000
namespace Go.Proofs.YtigidchicloleaaGreatDoor.Arr
open Go.RowKit Go.Shelf
open Go.Lib
attribute [local go_sem] Oper.semAt_some
def szOk (z : List Int) : Bool := z.all (fun x => decide (1 ≤ x) && decide (x ≤ 1024))
theorem szOk_no {z : List Int} {k : Nat} (hk : k < z.length) (h : z.getD k 0 < 1 ∨ 1024 < z.getD k 0) : szOk z = false := by
  unfold szOk
  rw [List.all_eq_false]
  refine ⟨z.getD k 0, by rw [List.getD_eq_getElem?_getD, List.getElem?_eq_getElem hk]; exact List.getElem_mem _, ?_⟩
  simp only [Bool.and_eq_true, decide_eq_true_eq]
  omega
theorem szOk_yes {z : List Int} (h : ∀ k, k < z.length → 1 ≤ z.getD k 0 ∧ z.getD k 0 ≤ 1024) : szOk z = true := by
  unfold szOk
  rw [List.all_eq_true]
  intro x hx
  obtain ⟨k, hk, rfl⟩ := List.getElem_of_mem hx
  have := h k hk
  rw [List.getD_eq_getElem?_getD, List.getElem?_eq_getElem hk, Option.getD_some] at this
  simp only [Bool.and_eq_true, decide_eq_true_eq]
  exact this
theorem szOk_nat {z : List Int} (h : szOk z = true) : ∃ m : List Nat, z = m.map Int.ofNat ∧ ∀ x ∈ m, 1 ≤ x ∧ x ≤ 1024 := by
  unfold szOk at h
  rw [List.all_eq_true] at h
  have hz : ∀ x ∈ z, 1 ≤ x ∧ x ≤ 1024 := fun x hx => by
    have := h x hx
    simpa only [Bool.and_eq_true, decide_eq_true_eq] using this
  refine ⟨z.map Int.toNat, ?_, fun x hx => ?_⟩
  · rw [List.map_map]
    refine ((List.map_congr_left fun x hx => ?_).trans (List.map_id z)).symm
    have := hz x hx
    exact Int.toNat_of_nonneg (by omega)
  · obtain ⟨y, hy, rfl⟩ := List.mem_map.1 hx
    have := hz y hy
    omega
def sized (s z : List Int) : Bool := decide (z.length = s.length) && szOk z
theorem vs_len {s : List Int} (h : vs s = true) : s.length ≤ 4 := by
  unfold vs at h
  rw [Bool.and_eq_true, Bool.and_eq_true, decide_eq_true_eq] at h
  exact h.1.1
def chkV (s z : List Int) : Int := if vs s = false then 60 else if sized s z = false then 2 else 0
theorem check_any (p q : Option Addr) (c d n k : Nat) (s z : List Int) (w : World) (hs : Hid (s.length = n)) (hz : Hid (z.length = k)) (hp : Rd w p s) (hq : Rd w q z) :
    Calls Tryz.prog 73 #[.slice p n c, .slice q k d] w fun e w' => w = w' ∧ e = .returned (.int .i64 (chkV s z)) := by
  have HP := Lib.hid hp
  have HQ := Lib.hid hq
  obtain ⟨v, HV⟩ : ∃ v, Hid (v = chkV s z) := ⟨_, Lib.hid rfl⟩
  rw [← HV.out]
  obtain ⟨b, HBV⟩ : ∃ b, Hid (b = vs s) := ⟨_, Lib.hid rfl⟩
  have H18 : Hid (Calls Tryz.prog 19 #[.slice p n c] w fun e w' => w = w' ∧ e = .returned (.bool b)) := Lib.hid (by
    have := vshape_any p c s w hp
    rwa [hs.out, ← HBV.out] at this)
  clear hp hq
  by_cases hb : b = false
  · subst hb
    obtain rfl : v = 60 := by rw [HV.out]; unfold chkV; rw [if_pos HBV.out.symm]
    go_enter Tryz.func73, Tryz.ntmps73
    go_wp2_with fail
    refine (H18.out).mono ?_
    rintro e w' ⟨rfl, rfl⟩
    go_wp2_with fail
    go_ret
    exact ⟨rfl, rfl⟩
  obtain rfl : b = true := by simpa using hb
  by_cases hnk : k = n
  case neg =>
    obtain rfl : v = 2 := by rw [HV.out]; unfold chkV sized; rw [if_neg (by rw [← HBV.out]; simp), if_pos (by rw [decide_eq_false (by rw [hs.out, hz.out]; exact hnk)]; rfl)]
    have hle3 : ((k : Int) != (n : Int)) = true := by rw [bne_iff_ne]; omega
    go_enter Tryz.func73, Tryz.ntmps73
    go_wp2_with fail
    refine (H18.out).mono ?_
    rintro e w' ⟨rfl, rfl⟩
    go_wp2_with fail
    go_ret
    exact ⟨rfl, rfl⟩
  subst hnk
  have hki : (k : Int) ≤ 4 := by
    have h := vs_len HBV.out.symm
    rw [hs.out] at h
    omega
  have HBAD : Hid (∀ j, j < k → (z.getD j 0 < 1 ∨ 1024 < z.getD j 0) → v = 2) := Lib.hid (fun j hj h => by
    rw [HV.out]; unfold chkV sized; rw [if_neg (by rw [← HBV.out]; simp), szOk_no (by rw [hz.out]; exact hj) h, Bool.and_false, if_pos rfl])
  have HGOOD : Hid ((∀ j, j < k → 1 ≤ z.getD j 0 ∧ z.getD j 0 ≤ 1024) → v = 0) := Lib.hid (fun h => by
    rw [HV.out]; unfold chkV sized; rw [if_neg (by rw [← HBV.out]; simp), szOk_yes (fun j hj => h j (by rw [← hz.out]; exact hj)), decide_eq_true (by rw [hs.out, hz.out]), if_neg (by simp)])
  go_enter Tryz.func73, Tryz.ntmps73
  go_wp2_with fail
  refine (H18.out).mono ?_
  rintro e w' ⟨rfl, rfl⟩
  go_wp2_with fail
  go_loop [17] (fun iv => ∃ i : Nat, i ≤ k ∧ iv = .int .i64 i ∧ Hid (∀ j, j < i → 1 ≤ z.getD j 0 ∧ z.getD j 0 ≤ 1024)) (fun iv => k - (Go.RowKit.intOf iv).toNat)
  case atStart => exact ⟨0, Nat.zero_le _, rfl, Lib.hid (fun k hk => by omega)⟩
  case round =>
    obtain ⟨i, hi, rfl, HA⟩ := hrel
    have ii : (i : Int) ≤ (k : Int) := by omega
    by_cases hlt : i < k
    · have ilt : (i : Int) < (k : Int) := by omega
      obtain ⟨b, off, x, rfl, -, hcell, HZ, -, -⟩ := HQ.out.at (k := i) (by rw [hz.out]; exact hlt)
      by_cases hx0 : x < 1
      · have e0 := HBAD.out i hlt (.inl (by rw [← HZ.out]; exact hx0))
        subst e0
        go_wp2_with fail
        go_ret
        exact ⟨rfl, rfl⟩
      · by_cases hx1 : 1024 < x
        · have e0 := HBAD.out i hlt (.inr (by rw [← HZ.out]; exact hx1))
          subst e0
          go_wp2_with fail
          go_ret
          exact ⟨rfl, rfl⟩
        · have hx2 : x ≤ 1024 := by omega
          have hst : Hid (∀ j, j < i + 1 → 1 ≤ z.getD j 0 ∧ z.getD j 0 ≤ 1024) := Lib.hid (fun j hj => by
            by_cases e : j = i
            · rw [e, ← HZ.out]; omega
            · exact HA.out j (by omega))
          go_wp2_with fail
          go_round
          case rel => exact ⟨i + 1, by omega, by go_num, hst⟩
          case measure => simp [Go.RowKit.intOf]; omega
    · obtain rfl : i = k := by omega
      have ilt : ¬ (i : Int) < (i : Int) := by omega
      have e0 := HGOOD.out HA.out
      subst e0
      go_wp2_with fail
      go_ret
      exact ⟨rfl, rfl⟩
theorem sized_any (p q : Option Addr) (c d n k : Nat) (s z : List Int) (w : World) (hs : Hid (s.length = n)) (hz : Hid (z.length = k)) (hn : n ≤ 4) (hq : Rd w q z) :
    Calls Tryz.prog 76 #[.slice p n c, .slice q k d] w fun e w' => w = w' ∧ e = .returned (.bool (sized s z)) := by
  have HQ := Lib.hid hq
  obtain ⟨v, HV⟩ : ∃ v, Hid (v = sized s z) := ⟨_, Lib.hid rfl⟩
  rw [← HV.out]
  clear hq
  by_cases hnk : k = n
  case neg =>
    obtain rfl : v = false := by rw [HV.out]; unfold sized; rw [decide_eq_false (by rw [hs.out, hz.out]; exact hnk)]; rfl
    have hle3 : ((k : Int) != (n : Int)) = true := by rw [bne_iff_ne]; omega
    go_enter Tryz.func76, Tryz.ntmps76
    go_wp2_with fail
    go_ret
    exact ⟨rfl, rfl⟩
  subst hnk
  have hki : (k : Int) ≤ 4 := by omega
  have HBAD : Hid (∀ j, j < k → (z.getD j 0 < 1 ∨ 1024 < z.getD j 0) → v = false) := Lib.hid (fun j hj h => by
    rw [HV.out]; unfold sized; rw [szOk_no (by rw [hz.out]; exact hj) h, Bool.and_false])
  have HGOOD : Hid ((∀ j, j < k → 1 ≤ z.getD j 0 ∧ z.getD j 0 ≤ 1024) → v = true) := Lib.hid (fun h => by
    rw [HV.out]; unfold sized; rw [szOk_yes (fun j hj => h j (by rw [← hz.out]; exact hj)), decide_eq_true (by rw [hs.out, hz.out])]; rfl)
  go_enter Tryz.func76, Tryz.ntmps76
  go_wp2_with fail
  go_loop [5] (fun iv => ∃ i : Nat, i ≤ k ∧ iv = .int .i64 i ∧ Hid (∀ j, j < i → 1 ≤ z.getD j 0 ∧ z.getD j 0 ≤ 1024)) (fun iv => k - (Go.RowKit.intOf iv).toNat)
  case atStart => exact ⟨0, Nat.zero_le _, rfl, Lib.hid (fun k hk => by omega)⟩
  case round =>
    obtain ⟨i, hi, rfl, HA⟩ := hrel
    have ii : (i : Int) ≤ (k : Int) := by omega
    by_cases hlt : i < k
    · have ilt : (i : Int) < (k : Int) := by omega
      obtain ⟨b, off, x, rfl, -, hcell, HZ, -, -⟩ := HQ.out.at (k := i) (by rw [hz.out]; exact hlt)
      by_cases hx0 : x < 1
      · have e0 := HBAD.out i hlt (.inl (by rw [← HZ.out]; exact hx0))
        subst e0
        go_wp2_with fail
        go_ret
        exact ⟨rfl, rfl⟩
      · by_cases hx1 : 1024 < x
        · have e0 := HBAD.out i hlt (.inr (by rw [← HZ.out]; exact hx1))
          subst e0
          go_wp2_with fail
          go_ret
          exact ⟨rfl, rfl⟩
        · have hx2 : x ≤ 1024 := by omega
          have hst : Hid (∀ j, j < i + 1 → 1 ≤ z.getD j 0 ∧ z.getD j 0 ≤ 1024) := Lib.hid (fun j hj => by
            by_cases e : j = i
            · rw [e, ← HZ.out]; omega
            · exact HA.out j (by omega))
          go_wp2_with fail
          go_round
          case rel => exact ⟨i + 1, by omega, by go_num, hst⟩
          case measure => simp [Go.RowKit.intOf]; omega
    · obtain rfl : i = k := by omega
      have ilt : ¬ (i : Int) < (i : Int) := by omega
      have e0 := HGOOD.out HA.out
      subst e0
      go_wp2_with fail
      go_ret
      exact ⟨rfl, rfl⟩
end Go.Proofs.YtigidchicloleaaGreatDoor.Arr
