/- The document's two. -/
import Derived.Test.YtpnofkefcoaojaaGreatDoorWDA
import Derived.Deep.RegionHeld3
import Derived.Deep.RegionWith
import Derived.Test.YtpnofkefcoaojaaGreatDoorYC
import Derived.BigQuiet
import Derived.Deep.QuietTactic
import Derived.StillTailTactics
import Derived.RangeFuncFrom
import Derived.Test.YtpnofkefcoaojaaGreatDoorYA
import Derived.Test.YtpnofkefcoaojaaGreatDoorKC
import Derived.Test.YtpnofkefcoaojaaGreatDoorCE
import Derived.RangeFuncNested
import Derived.RangeFuncBound
import Derived.RangeFuncCalls
import Derived.RangeFuncLeaves
import Derived.Shelf.Abstract
import Derived.Shelf.RegionOpen
import Derived.OwnWalkIn
import Derived.TacticsInMore
import Derived.LoopNIn
import Derived.LoopIn
namespace Go.Proofs.YtpnofkefcoaojaaGreatDoor
open Go.RowKit Big
open Go.Lib
theorem Resa.other {B g : Nat} {w0 W : World} (h : Resa B w0 W) (hg : g ≠ B) (h0 : w0.heap.size ≤ g) (k : Nat) (v : Value) : Resa B w0 (W.setCell ⟨g, k, none⟩ v) := by
  refine ⟨by rw [World.size_setCell]; exact h.size, h.below.setCell h0 _, ?_⟩
  obtain ⟨z0, z1, z2, hz, hn⟩ := h.z
  exact ⟨z0, z1, z2, (Below.heap_setCell _ _ _ _ (fun e => hg e.symm)).trans hz, hn⟩
end Go.Proofs.YtpnofkefcoaojaaGreatDoor
set_option maxHeartbeats 2000000
set_option maxRecDepth 100000
namespace Go.Proofs.YtpnofkefcoaojaaGreatDoor
open Go.RowKit
open Go.Lib
def rndF (l : List Sg) : Bool := decide (0 < l.length) && decide ((l.getD 0 (0, 0, [])).1 = 1)
def stepL (l : List Sg) : List UInt8 := (l.getD 0 (0, 0, [])).2.2
theorem rounds_any (p : Option Addr) (c n : Nat) (l : List Sg) (w : World) (hx : Hid (l.length = n)) (hs : RdG w p l) :
    Calls Tryz.prog 35 #[.slice p n c] w fun e w' => e = .returned (.bool (rndF l)) ∧ w = w' := by
  have HS := Lib.hid hs
  clear hs
  by_cases h0 : n = 0
  · have hr : rndF l = false := by unfold rndF; rw [hx.out, h0]; rfl
    rw [hr]
    subst h0
    clear hr
    go_enter Tryz.func35, Tryz.ntmps35
    go_wp2_with fail
    go_ret
    exact ⟨rfl, rfl⟩
  have hn0 : (0 : Int) < (n : Int) := by omega
  have hne : ((n : Int) == 0) = false := by rw [beq_eq_false_iff_ne]; omega
  obtain ⟨b1, o1, x, y, z, e1, hb1, hc1, hc2, hc3, hx1⟩ := HS.out.at (k := 0) (by rw [hx.out]; omega)
  subst e1
  rw [Nat.zero_mul, Nat.add_zero] at hc1 hc2 hc3
  have hr : rndF l = decide (x = 1) := by unfold rndF; rw [hx1.out, decide_eq_true (by rw [hx.out]; omega), Bool.true_and]
  have hst : stepL l = z := by unfold stepL; rw [hx1.out]
  obtain ⟨Z, HZ⟩ : ∃ Z : ByteArray, Hid (⟨z.toArray⟩ = Z) := ⟨_, rfl⟩
  rw [HZ.out] at hc3
  by_cases h1 : x = 1
  · subst h1
    have HR : Hid (rndF l = true) := Lib.hid (by rw [hr]; rfl)
    have HST := Lib.hid hst
    rw [HR.out]
    try rw [HST.out, HZ.out]
    clear hr hst h0
    go_enter Tryz.func35, Tryz.ntmps35
    go_wp2_with fail
    go_ret
    exact ⟨rfl, rfl⟩
  · have hxb : (x == 1) = false := by rw [beq_eq_false_iff_ne]; exact h1
    have HR : Hid (rndF l = false) := Lib.hid (by rw [hr]; exact decide_eq_false h1)
    rw [HR.out]
    clear hr hst h1 h0
    go_enter Tryz.func35, Tryz.ntmps35
    go_wp2_with fail
    go_ret
    exact ⟨rfl, rfl⟩
end Go.Proofs.YtpnofkefcoaojaaGreatDoor
namespace Go.Proofs.YtpnofkefcoaojaaGreatDoor
abbrev W64 : Nat := 18446744073709551616
def dStep (a g : Nat) : Nat × Nat := ((g + W64 - a) % W64, g)
def chR (st : Nat → Nat → Nat × Nat) (n : Nat) : Nat → Nat → List UInt8 → List UInt8
  | 0, _, l => l
  | k + 1, a, l => be n (st a (nb (l.take n))).1 ++ chR st n k (st a (nb (l.take n))).2 (l.drop n)
theorem chR_length (st : Nat → Nat → Nat × Nat) (n : Nat) : ∀ (k a : Nat) (l : List UInt8), k * n ≤ l.length → (chR st n k a l).length = l.length
  | 0, _, _, _ => rfl
  | k + 1, a, l, h => by
    rw [Nat.succ_mul] at h
    rw [chR, List.length_append, be_length, chR_length st n k _ _ (by rw [List.length_drop]; omega), List.length_drop]; omega
def delL (l : List UInt8) (n : Nat) : List UInt8 := chR dStep n (l.length / n) 0 l
theorem delL_length (l : List UInt8) {n : Nat} : (delL l n).length = l.length := chR_length _ _ _ _ _ (Nat.div_mul_le_self _ _)
end Go.Proofs.YtpnofkefcoaojaaGreatDoor
namespace Go.Proofs.YtpnofkefcoaojaaGreatDoor
open Go.RowKit
open Go.Lib
theorem nothing_behind (w : World) (B : Nat) (v : Value) (n c : Nat) (xs : List Value) (ty : TypeId) (hown : w.ownsRow B 5 1 v n xs) : (Builtin.append_ #[39, 39] ty #[v, .slice none 0 c]).run Tryz.prog w = .ok v w := by
  obtain ⟨i0, hi, hz0, hz1, hz2⟩ := info_parts infoB5
  obtain ⟨-, ⟨rfl, rfl⟩ | ⟨g, cap, cur, rfl, -, -, hnc, -⟩⟩ := hown
  · simp [Builtin.append_, run_underlying Tryz.underlying39, sizeOf, typeInfo, hi, Builtin.lenOf, Builtin.firstCells]
  · simp [Builtin.append_, run_underlying Tryz.underlying39, sizeOf, typeInfo, hi, Builtin.lenOf, Builtin.firstCells, hnc, storeCells]
theorem wpList_append_bs {w : World} {ops : Array Oper} {rest : List Oper} {o : Oper} {a : Act} {Q : Exit → Act → World → Prop} (hgd : o.guard = none) (s x : Operand)
    (ho : o.op = .call { callee := .builtin .append, args := #[s, x], argTypes := #[39, 39] })
    (B : Nat) (v : Value) (n : Nat) (X : List UInt8) (hs : a.eval s = v) (hn : n = X.length) (hown : w.ownsRow B 5 1 v n (ubs X))
    (p : Option Addr) (m c : Nat) (L : List UInt8) (hx : a.eval x = .slice p m c) (hm : L.length = m) (hb : Bs w p L) (hlen : n + m ≤ 140737488355328) (hB : B ≤ w.heap.size)
    (h : ∀ v' w', Grew B w v (X ++ L) w' v' → wpList Tryz.prog ops Q rest (a.put o.dst v') w') : wpList Tryz.prog ops Q (o :: rest) a w := by
  subst hn
  subst hm
  obtain ⟨i0, hi, hz0, hz1, hz2⟩ := info_parts infoB5
  cases p with
  | none =>
    have h0 : L = [] := by
      rcases hb with h0 | ⟨b, off, h1, -⟩
      · exact List.eq_nil_of_length_eq_zero h0
      · cases h1
    subst h0
    refine wpList_plain hgd fun K hK => ?_
    have hr := nothing_behind w B v X.length c (ubs X) o.type hown
    unfold Oper.wp execOp
    simp only [ho, resolve, invoke, builtin, Sem.run_bind, Sem.run_pure, Result.andThen_ok, List.map_toArray, List.map_cons, List.map_nil, hs, hx, List.length_nil, hr]
    exact hK _ _ (h v w (by rw [List.append_nil]; exact Grew.refl hown))
  | some ad =>
    refine wpList_append_own_at _ hgd s x 39 ho B 5 i0 (.int .u8 0) 1 1 Tryz.underlying39 hi hz0 hz1 hz2 rfl (by decide) _ _ _ hs hown ad L.length c (ubs L) hx (by rw [u8s_length, Nat.mul_one]) (hb.news (Below.refl _ _) _ rfl) (u8s_one L) (by unfold maxLen; omega) (by omega) hB ?_
    intro v' w' h1 h2 _ h4
    refine h v' w' ⟨?_, h2, h4.imp id fun h => ⟨_, h, Nat.le_refl _⟩⟩
    rw [List.length_append, ubs, List.map_append]; exact h1
end Go.Proofs.YtpnofkefcoaojaaGreatDoor
namespace Go.Proofs.YtpnofkefcoaojaaGreatDoor
open Go.RowKit
open Go.Lib
theorem Grew.drewN {B : Nat} {w w' : World} {v v' : Value} {l : List UInt8} (h : Grew B w v l w' v') (n : Nat) : Grew B w v l (w'.drewN n) v' :=
  ⟨h.own, ⟨h.grown.os, h.grown.tape, h.grown.output, h.grown.size, h.grown.block⟩, h.lies⟩
end Go.Proofs.YtpnofkefcoaojaaGreatDoor
namespace Go.Proofs.YtpnofkefcoaojaaGreatDoor
open Go.RowKit
open Go.Lib
theorem below_dn {B : Nat} {a w : World} (h : Below B a w) (n : Nat) : Below B a (w.drewN n) := h.trans ⟨rfl, rfl, rfl, Nat.le_refl _, fun _ _ => rfl⟩
end Go.Proofs.YtpnofkefcoaojaaGreatDoor
namespace Go.Proofs.YtpnofkefcoaojaaGreatDoor
open Go.RowKit
open Go.Lib
def gl (n : Nat) : Nat → List UInt8 → List Nat
  | 0, _ => []
  | k + 1, l => nb (l.take n) :: gl n k (l.drop n)
theorem gl_length (n : Nat) : ∀ (k : Nat) (l : List UInt8), (gl n k l).length = k
  | 0, _ => rfl
  | k + 1, l => by rw [gl, List.length_cons, gl_length n k]
theorem gl_snoc (n : Nat) : ∀ (k : Nat) (l : List UInt8), gl n (k + 1) l = gl n k l ++ [nb ((l.drop (k * n)).take n)]
  | 0, l => by rw [gl, gl, gl, Nat.zero_mul, List.drop_zero, List.nil_append]
  | k + 1, l => by rw [gl, gl_snoc n k (l.drop n), gl, List.cons_append, List.drop_drop, Nat.succ_mul, Nat.add_comm n]
theorem gl_lt {n : Nat} (hn : n ≤ 8) : ∀ (k : Nat) (l : List UInt8), ∀ x ∈ gl n k l, x < W64
  | 0, _, x, h => by cases h
  | k + 1, l, x, h => by
    rw [gl, List.mem_cons] at h
    rcases h with rfl | h
    · exact nb_lt8 (by rw [List.length_take]; omega)
    · exact gl_lt hn k _ x h
end Go.Proofs.YtpnofkefcoaojaaGreatDoor
namespace Go.Proofs.YtpnofkefcoaojaaGreatDoor
open Go.RowKit
open Go.Lib
def jl (n : Nat) : List Nat → List UInt8
  | [] => []
  | x :: xs => be n x ++ jl n xs
theorem jl_append (n : Nat) (ys : List Nat) : ∀ xs, jl n (xs ++ ys) = jl n xs ++ jl n ys
  | [] => rfl
  | x :: xs => by rw [List.cons_append, jl, jl, jl_append n ys xs, List.append_assoc]
theorem jl_length (n : Nat) : ∀ xs, (jl n xs).length = xs.length * n
  | [] => by rw [jl, List.length_nil, List.length_nil, Nat.zero_mul]
  | x :: xs => by rw [jl, List.length_append, be_length, jl_length n xs, List.length_cons, Nat.succ_mul, Nat.add_comm]
end Go.Proofs.YtpnofkefcoaojaaGreatDoor
namespace Go.Proofs.YtpnofkefcoaojaaGreatDoor
open Go.RowKit
open Go.Lib
theorem at_cell {w : World} {p : Option Addr} {l : List UInt8} (h : Bs w p l) {t : Nat} (ht : t < l.length) : ∃ b off : Nat, p = some ⟨b, off, none⟩ ∧ b < w.heap.size ∧ w.cell? ⟨b, off + t, none⟩ = some (.int .u8 (((l.getD t 0).toNat : Nat) : Int)) := by
  rcases h with h0 | ⟨b, off, h1, h2, h3⟩
  · omega
  · exact ⟨b, off, h1, h2, h3 t ht⟩
end Go.Proofs.YtpnofkefcoaojaaGreatDoor
namespace Go.Proofs.YtpnofkefcoaojaaGreatDoor
open Go.RowKit Go.Shelf
open Go.Lib
attribute [local go_sem] Oper.semAt_some
theorem shuffled_in (F : Fence) (n : Nat) (h39 : F.fn 148) (hro : F.round = none) (a b : Int) (w : World) :
    CallsIn F n Tryz.prog 148 #[.int .i64 a, .int .i64 b] w fun e w' => e = .returned (.func (.func 189) #[] #[.pointer (some ⟨w.heap.size, 0, none⟩), .pointer (some ⟨w.heap.size + 1, 0, none⟩)]) ∧ w' = (w.alloc (.cells #[.int .i64 a] 3)).alloc (.cells #[.int .i64 b] 3) := by
  refine callsIn_of_wp Tryz.func148 rfl h39 ?_ hro
  simp only [Tryz.ntmps148, List.size_toArray, List.length_cons, List.length_nil, Nat.reduceAdd, Nat.reduceSub, Array.replicate_succ, Array.replicate_zero, List.push_toArray, List.append_toArray, List.nil_append, List.cons_append]
  gi_wp2
  go_ret
  exact ⟨rfl, rfl⟩
end Go.Proofs.YtpnofkefcoaojaaGreatDoor
namespace Go.Proofs.YtpnofkefcoaojaaGreatDoor
def srcP (len n t : Nat) : Nat := if t < len / n * n then t % (len / n) * n + t / (len / n) else t
theorem srcP_lt {len n t : Nat} (_hn : 0 < n) (h : t < len) : srcP len n t < len := by
  unfold srcP
  split
  · rename_i h1
    have hk : 0 < len / n := Nat.pos_of_ne_zero fun h0 => by rw [h0] at h1; omega
    have h2 : t / (len / n) < n := (Nat.div_lt_iff_lt_mul hk).2 (by rw [Nat.mul_comm]; exact h1)
    exact Nat.lt_of_lt_of_le (cell_lt (Nat.mod_lt _ hk) h2) (Nat.div_mul_le_self _ _)
  · exact h
theorem srcP_cell {len n i j : Nat} (hi : i < len / n) (hj : j < n) : srcP len n (j * (len / n) + i) = i * n + j := by
  have hk : 0 < len / n := by omega
  unfold srcP
  rw [if_pos (by rw [Nat.mul_comm (len / n)]; exact cell_lt hj hi), Nat.mul_comm j, Nat.mul_add_mod, Nat.mod_eq_of_lt hi, Nat.mul_add_div hk, Nat.div_eq_of_lt hi, Nat.add_zero]
theorem srcP_rest {len n t : Nat} (h : len / n * n ≤ t) : srcP len n t = t := by unfold srcP; rw [if_neg (by omega)]
theorem shufL_src (l : List UInt8) {n t : Nat} (hn : 0 < n) (ht : t < l.length) : (shufL l n).getD t 0 = l.getD (srcP l.length n t) 0 := by
  by_cases h : t < l.length / n * n
  · have hk : 0 < l.length / n := Nat.pos_of_ne_zero fun h0 => by rw [h0] at h; omega
    have _ := ht
    have _ := hn
    obtain ⟨j, i, hj, hi, rfl⟩ := split_cell (k := n) (n := l.length / n) (by rw [Nat.mul_comm]; exact h) hk
    rw [shufL_get l hi hj, srcP_cell hi hj]
  · rw [shufL_rest _ (by omega), srcP_rest (by omega)]
def fillP (l : List UInt8) (f g : Nat → Nat) (ts : List Nat) : List UInt8 := ts.foldl (fun X t => X.set (f t) (l.getD (g t) 0)) (List.replicate l.length 0)
theorem fillP_snoc (l : List UInt8) (f g : Nat → Nat) (ts : List Nat) (t : Nat) : fillP l f g (ts ++ [t]) = (fillP l f g ts).set (f t) (l.getD (g t) 0) := by
  unfold fillP; rw [List.foldl_append]; rfl
theorem fill_len (l : List UInt8) (f g : Nat → Nat) (ts : List Nat) : ∀ X : List UInt8, (ts.foldl (fun X t => X.set (f t) (l.getD (g t) 0)) X).length = X.length := by
  induction ts with
  | nil => intro X; rfl
  | cons t ts ih => intro X; rw [List.foldl_cons, ih, List.length_set]
theorem fillP_length (l : List UInt8) (f g : Nat → Nat) (ts : List Nat) : (fillP l f g ts).length = l.length := by
  unfold fillP; rw [fill_len, List.length_replicate]
theorem fillP_get (l : List UInt8) (f g : Nat → Nat) (hf : ∀ s t, s < l.length → t < l.length → f s = f t → s = t) (hb : ∀ t, t < l.length → f t < l.length) : ∀ m, m ≤ l.length → ∀ t, t < m → (fillP l f g (List.range m)).getD (f t) 0 = l.getD (g t) 0
  | m + 1, hm, t, ht => by
    rw [List.range_succ, fillP_snoc, List.getD_eq_getElem?_getD, List.getElem?_set]
    by_cases h : f m = f t
    · have e : m = t := hf m t (by omega) (by omega) h
      rw [if_pos h, if_pos (by rw [fillP_length]; exact hb m (by omega)), e]; rfl
    · rw [if_neg h, ← List.getD_eq_getElem?_getD]
      exact fillP_get l f g hf hb m (by omega) t (by
        rcases Nat.lt_or_ge t m with h1 | h1
        · exact h1
        · exact absurd (by rw [show t = m by omega]) h)
theorem fill_shuf (l : List UInt8) {n : Nat} (hn : 0 < n) : fillP l (fun t => t) (fun t => srcP l.length n t) (List.range l.length) = shufL l n := by
  refine ext_getD (by rw [fillP_length, shufL_length]) fun t ht => ?_
  rw [fillP_length] at ht
  have := fillP_get l (fun t => t) (fun t => srcP l.length n t) (fun s t _ _ h => h) (fun t h => h) l.length (Nat.le_refl _) t ht
  rw [this, shufL_src l hn ht]
end Go.Proofs.YtpnofkefcoaojaaGreatDoor
