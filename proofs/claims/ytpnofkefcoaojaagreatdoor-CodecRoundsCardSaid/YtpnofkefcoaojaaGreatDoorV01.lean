/- The sanity check. -/
import Derived.Test.YtpnofkefcoaojaaGreatDoorCH
import Derived.BigQuiet
import Derived.Deep.QuietTactic
import Derived.Test.YtpnofkefcoaojaaGreatDoorQA
import Derived.Test.YtpnofkefcoaojaaGreatDoorKA
import Derived.WalkKit
import Derived.WalkSpells
import Derived.WalkLawsBesides
import Derived.Lib.Hide
import Derived.Laws.Externs
import Derived.Shelf.Spec.BitsCarry
import Derived.Laws.CopyOwn
set_option maxHeartbeats 1600000
set_option maxRecDepth 100000
namespace Go.Proofs.YtpnofkefcoaojaaGreatDoor
open Go.RowKit
open Go.Lib
theorem three_cells (w : World) : Ss (w.alloc (.cells #[.string ⟨#[49]⟩, .string ⟨#[]⟩, .string ⟨#[45, 50]⟩] 9)) (some ⟨w.heap.size, 0, none⟩) [[49], [], [45, 50]] := by
  refine .inr ⟨w.heap.size, 0, rfl, by simp, fun j hj => ?_⟩
  have : j = 0 ∨ j = 1 ∨ j = 2 := by simp at hj; omega
  unfold World.cell?
  rw [heap_alloc_new]
  rcases this with rfl | rfl | rfl <;> rfl
theorem sane_any (w : World) (he : Env w) : Calls Tryz.prog 10 #[] w fun e w' => e = .returned (.bool true) ∧ Below w.heap.size w w' := by
  have hB0 : Below w.heap.size w (w.alloc (.cells #[.string ⟨#[49]⟩, .string ⟨#[]⟩, .string ⟨#[45, 50]⟩] 9)) := (Below.refl _ _).alloc (Nat.le_refl _) _
  have HP := Lib.hid (put_three (some ⟨w.heap.size, 0, none⟩) 3 _ (three_cells w) (he.below hB0))
  have HB0 := Lib.hid hB0
  clear he hB0
  go_enter Tryz.func10, Tryz.ntmps10
  go_wp2_with fail
  refine (HP.out).mono ?_
  rintro e w1 ⟨v, rfl, hp⟩
  have HB1 := Lib.hid (HB0.out.trans (hp.below.mono (by simp)))
  obtain ⟨g, cap, hv5, hcap, hg, hgl, hcell, hfree, hset⟩ := own_set hp.own (by simp [saneL])
  rw [show (saneL 3).length = 7 from rfl] at hv5 hcap
  subst hv5
  have g0 : w1.cell? ⟨g, 0, none⟩ = some (.int .u8 5) := hcell 0 (by simp [saneL])
  have g2 : w1.cell? ⟨g, 2, none⟩ = some (.int .u8 1) := hcell 2 (by simp [saneL])
  have g5 : w1.cell? ⟨g, 5, none⟩ = some (.int .u8 255) := hcell 5 (by simp [saneL])
  have g6 : w1.cell? ⟨g, 6, none⟩ = some (.int .u8 254) := hcell 6 (by simp [saneL])
  clear hcell hfree hset hp
  go_wp2_with fail
  go_ret
  exact ⟨rfl, HB1.out⟩
end Go.Proofs.YtpnofkefcoaojaaGreatDoor
set_option maxHeartbeats 2000000
set_option maxRecDepth 100000
namespace Go.Proofs.YtpnofkefcoaojaaGreatDoor
open Go.RowKit
open Go.Lib
theorem add_lit (b off j : Nat) : (⟨b, off, none⟩ : Addr).add j = ⟨b, off + j, none⟩ := by
  cases j <;> simp [Addr.add]
theorem same_any (p q : Option Addr) (c d n : Nat) (xs : List (List UInt8)) (w : World) (hx : Hid (xs.length = n)) (hn : n ≤ 4096) (hp : Ss w p xs) (hq : Ss w q xs) :
    Calls Tryz.prog 20 #[.slice p n c, .slice q n d] w fun e w' => Below w.heap.size w w' ∧ e = .returned (.bool true) := by
  have HP := Lib.hid hp
  have HQ := Lib.hid hq
  have hni : (n : Int) ≤ 4096 := by omega
  have hnn : ((n : Int) != (n : Int)) = false := by simp
  clear hp hq
  go_enter Tryz.func20, Tryz.ntmps20
  go_wp2_with fail
  go_loopw [5] (fun iv wr => ∃ i r : Nat, i ≤ n ∧ iv = .int .i64 i ∧ wr = w.drewN r) (fun iv _ => n - (intOf iv).toNat)
  case atStart => exact ⟨0, 0, Nat.zero_le _, rfl, rfl⟩
  case round =>
    obtain ⟨i, r, hi, rfl, rfl⟩ := hrel
    have ii : (i : Int) ≤ (n : Int) := by omega
    by_cases hlt : i < n
    · have ilt : (i : Int) < (n : Int) := by omega
      obtain ⟨b1, o1, x, e1, -, hc1, hx1⟩ := HP.out.at (k := i) (by rw [hx.out]; exact hlt)
      obtain ⟨b2, o2, y, e2, -, hc2, hx2⟩ := HQ.out.at (k := i) (by rw [hx.out]; exact hlt)
      subst e1 e2
      obtain rfl : x = y := hx1.out.symm.trans hx2.out
      obtain ⟨X, HX⟩ : ∃ X : ByteArray, Hid (⟨x.toArray⟩ = X) := ⟨_, rfl⟩
      rw [HX.out] at hc1 hc2
      go_wp2_with fail
      go_quiet (fail)
      go_wp2_with fail
      go_roundw
      case rel => exact ⟨i + 1, _, by omega, by go_num, rfl⟩
      case measure => simp [intOf]; omega
    · obtain rfl : i = n := by omega
      have ilt : ¬ (i : Int) < (i : Int) := by omega
      go_wp2_with fail
      go_ret
      exact ⟨⟨rfl, rfl, rfl, Nat.le_refl _, fun _ _ => rfl⟩, rfl⟩
def longT (xs : List (List UInt8)) : Bool := decide (100 < xs.length) || xs.any (fun x => decide (200 < x.length))
theorem long_any (p : Option Addr) (c n : Nat) (xs : List (List UInt8)) (w : World) (hx : Hid (xs.length = n)) (hs : Ss w p xs) :
    Calls Tryz.prog 17 #[.slice p n c] w fun e w' => e = .returned (.bool (longT xs)) ∧ w = w' := by
  have HS := Lib.hid hs
  obtain ⟨v, HV⟩ : ∃ v, Hid (longT xs = v) := ⟨_, rfl⟩
  rw [HV.out]
  clear hs
  by_cases h100 : 100 < n
  · have h1 : (100 : Int) < (n : Int) := by omega
    obtain rfl : v = true := by rw [← HV.out]; unfold longT; rw [decide_eq_true (by rw [hx.out]; exact h100)]; rfl
    go_enter Tryz.func17, Tryz.ntmps17
    go_wp2_with fail
    go_ret
    exact ⟨rfl, rfl⟩
  have h1 : ¬ (100 : Int) < (n : Int) := by omega
  have hni : (n : Int) ≤ 100 := by omega
  have HYES : Hid (∀ j, j < n → 200 < (xs.getD j []).length → v = true) := Lib.hid (fun j hj h => by
    rw [← HV.out]; unfold longT
    rw [Bool.or_eq_true]
    have hj2 : j < xs.length := by rw [hx.out]; exact hj
    rw [List.getD_eq_getElem?_getD, List.getElem?_eq_getElem hj2] at h
    exact .inr (List.any_eq_true.2 ⟨_, List.getElem_mem hj2, decide_eq_true h⟩))
  have HNO : Hid ((∀ j, j < n → ¬ 200 < (xs.getD j []).length) → v = false) := Lib.hid (fun h => by
    rw [← HV.out]; unfold longT
    rw [decide_eq_false (by rw [hx.out]; exact h100), Bool.false_or, List.any_eq_false]
    intro x hx2
    obtain ⟨j, hj, rfl⟩ := List.getElem_of_mem hx2
    have := h j (by rw [← hx.out]; exact hj)
    rw [List.getD_eq_getElem?_getD, List.getElem?_eq_getElem hj] at this
    simpa using this)
  go_enter Tryz.func17, Tryz.ntmps17
  go_wp2_with fail
  go_loopw [3] (fun iv wr => ∃ i : Nat, i ≤ n ∧ iv = .int .i64 i ∧ w = wr ∧ Hid (∀ j, j < i → ¬ 200 < (xs.getD j []).length)) (fun iv _ => n - (intOf iv).toNat)
  case atStart => exact ⟨0, Nat.zero_le _, rfl, rfl, Lib.hid (fun j hj => by omega)⟩
  case round =>
    obtain ⟨i, hi, rfl, rfl, HA⟩ := hrel
    have ii : (i : Int) ≤ (n : Int) := by omega
    by_cases hlt : i < n
    · have ilt : (i : Int) < (n : Int) := by omega
      obtain ⟨b1, o1, x, e1, -, hc1, hx1⟩ := HS.out.at (k := i) (by rw [hx.out]; exact hlt)
      subst e1
      obtain ⟨m, HM⟩ : ∃ m, Hid (x.length = m) := ⟨_, rfl⟩
      have hsz : (⟨x.toArray⟩ : ByteArray).size = m := by rw [← ByteArray.size_data]; simpa using HM.out
      obtain ⟨X, HX⟩ : ∃ X : ByteArray, Hid (⟨x.toArray⟩ = X) := ⟨_, rfl⟩
      rw [HX.out] at hc1 hsz
      by_cases h2 : 200 < m
      · have h3 : (200 : Int) < (m : Int) := by omega
        obtain rfl : v = true := HYES.out i hlt (by rw [hx1.out, HM.out]; exact h2)
        go_wp2_with fail
        go_ret
        exact ⟨rfl, by first | rfl | trivial⟩
      · have h3 : ¬ (200 : Int) < (m : Int) := by omega
        have HA2 : Hid (∀ j, j < i + 1 → ¬ 200 < (xs.getD j []).length) := Lib.hid (fun j hj => by
          by_cases e : j = i
          · rw [e, hx1.out, HM.out]; exact h2
          · exact HA.out j (by omega))
        go_wp2_with fail
        go_roundw
        case rel => exact ⟨i + 1, by omega, by go_num, by first | rfl | trivial, HA2⟩
        case measure => simp [intOf]; omega
    · obtain rfl : i = n := by omega
      have ilt : ¬ (i : Int) < (i : Int) := by omega
      obtain rfl : v = false := HNO.out HA.out
      go_wp2_with fail
      go_ret
      exact ⟨rfl, by first | rfl | trivial⟩
end Go.Proofs.YtpnofkefcoaojaaGreatDoor
namespace Go.Proofs.YtpnofkefcoaojaaGreatDoor
open Go.RowKit
open Go.Lib
theorem heap_put (W : World) (g k : Nat) (v : Value) (cs : Array Value) (t : TypeId) (h : W.heap[g]? = some (.cells cs t (0, 0))) : (W.setCell ⟨g, k, none⟩ v).heap[g]? = some (.cells (cs.setIfInBounds k v) t (0, 0)) := by
  obtain ⟨h1, h2⟩ := Array.getElem?_eq_some_iff.1 h
  unfold World.setCell
  rw [Array.getElem?_eq_getElem (by simpa using h1), Array.getElem_modify]
  simp [h2]
def Vals (W : World) (V n i : Nat) (xs : List (List UInt8)) : Prop := ∃ cs : Array Value, W.heap[V]? = some (.cells cs 9 (0, 0)) ∧ cs.size = n ∧ ∀ j, j < n → cs[j]? = some (.string (if j < i then ⟨(xs.getD j []).toArray⟩ else ⟨#[]⟩))
theorem Vals.put {W : World} {V n i : Nat} {xs : List (List UInt8)} (h : Vals W V n i xs) (hi : i < n) : Vals (W.setCell ⟨V, i, none⟩ (.string ⟨(xs.getD i []).toArray⟩)) V n (i + 1) xs := by
  obtain ⟨cs, h1, h2, h3⟩ := h
  refine ⟨_, heap_put W V i _ _ _ h1, by simp [h2], fun j hj => ?_⟩
  rw [Array.getElem?_setIfInBounds]
  by_cases e : i = j
  · subst e
    rw [if_pos rfl, if_pos (by rw [h2]; exact hi), if_pos (Nat.lt_succ_self _)]
  · rw [if_neg e, h3 j hj]
    congr 2
    by_cases h4 : j < i
    · rw [if_pos h4, if_pos (by omega)]
    · rw [if_neg h4, if_neg (by omega)]
theorem Vals.keep {W W' : World} {V n i : Nat} {xs : List (List UInt8)} (h : Vals W V n i xs) (e : W'.heap[V]? = W.heap[V]?) : Vals W' V n i xs := by
  obtain ⟨cs, h1, h2⟩ := h
  exact ⟨cs, e.trans h1, h2⟩
theorem Vals.reads {W : World} {V n : Nat} {xs : List (List UInt8)} (h : Vals W V n n xs) (hx : xs.length = n) : Ss W (some ⟨V, 0, none⟩) xs := by
  obtain ⟨cs, h1, h2, h3⟩ := h
  refine .inr ⟨V, 0, rfl, (Array.getElem?_eq_some_iff.1 h1).1, fun j hj => ?_⟩
  have h4 := h3 j (by omega)
  rw [if_pos (by omega)] at h4
  rw [Nat.zero_add]
  simp [World.cell?, h1, h4]
theorem Vals.old {W : World} {V n i : Nat} {xs : List (List UInt8)} (h : Vals W V n i xs) (hi : i < n) : W.cell? ⟨V, i, none⟩ = some (.string ⟨#[]⟩) ∧ W.frozen? ⟨V, i, none⟩ = false := by
  obtain ⟨cs, h1, h2, h3⟩ := h
  have h4 := h3 i hi
  rw [if_neg (by omega)] at h4
  exact ⟨by simp [World.cell?, h1, h4], by simp [World.frozen?, h1]⟩
theorem infoS9 : (Tryz.prog.info? 9).map (fun i => (i.zero, i.size, i.bytes)) = some (some (.string ⟨#[]⟩), 1, 16) := by kernel_rfl
theorem make_vals (n : Nat) (hn : n ≤ 10000) : ∃ Z : Array Value, (Z.size = n ∧ ∀ j, j < n → Z[j]? = some (.string ⟨#[]⟩)) ∧ ∀ W, (Instr.makeSlice 30 (.int .i64 (n : Int)) (.int .i64 (n : Int))).run Tryz.prog W = .ok (.slice (some ⟨W.heap.size, 0, none⟩) n n) (W.alloc (.cells Z 9)) := by
  obtain ⟨i0, hi, hz0, hz1, hz2⟩ := info_parts infoS9
  refine ⟨madeCells (Value.cells (.string ⟨#[]⟩)) (n * 1), ⟨by rw [size_madeCells, Nat.mul_one], fun j hj => by simp [madeCells, Value.cells, Nat.mod_one, hj]⟩, fun W => ?_⟩
  have h := run_make (P := Tryz.prog) W 30 9 i0 (.string ⟨#[]⟩) Tryz.underlying30 hi hz0 .i64 .i64 (n : Int) (n : Int) (by omega) (by omega) (by rw [hz2]; omega) (by omega)
  rw [hz1, Int.toNat_natCast] at h
  exact h
end Go.Proofs.YtpnofkefcoaojaaGreatDoor
namespace Go.Proofs.YtpnofkefcoaojaaGreatDoor
open Go.RowKit
open Go.Lib
abbrev Sg := Int × Int × List UInt8
def RdG (w : World) (p : Option Addr) (l : List Sg) : Prop := l.length = 0 ∨ ∃ b off, p = some ⟨b, off, none⟩ ∧ b < w.heap.size ∧ ∀ j, j < l.length → w.cell? ⟨b, off + j * 3, none⟩ = some (.int .i64 (l.getD j (0, 0, [])).1) ∧ w.cell? ⟨b, off + j * 3 + 1, none⟩ = some (.int .i64 (l.getD j (0, 0, [])).2.1) ∧ w.cell? ⟨b, off + j * 3 + 2, none⟩ = some (.string ⟨(l.getD j (0, 0, [])).2.2.toArray⟩)
theorem RdG.below {w w' : World} {p : Option Addr} {l : List Sg} (h : RdG w p l) (hb : Below w.heap.size w w') : RdG w' p l := h.imp id fun ⟨b, off, h1, h2, h3⟩ =>
  ⟨b, off, h1, Nat.lt_of_lt_of_le h2 hb.size, fun j hj => ⟨(hb.cell (p := ⟨b, off + j * 3, none⟩) h2).trans (h3 j hj).1, (hb.cell (p := ⟨b, off + j * 3 + 1, none⟩) h2).trans (h3 j hj).2.1, (hb.cell (p := ⟨b, off + j * 3 + 2, none⟩) h2).trans (h3 j hj).2.2⟩⟩
theorem RdG.at {w : World} {p : Option Addr} {l : List Sg} (h : RdG w p l) {k : Nat} (hk : k < l.length) : ∃ b off x y z, p = some ⟨b, off, none⟩ ∧ b < w.heap.size ∧ w.cell? ⟨b, off + k * 3, none⟩ = some (.int .i64 x) ∧ w.cell? ⟨b, off + k * 3 + 1, none⟩ = some (.int .i64 y) ∧ w.cell? ⟨b, off + k * 3 + 2, none⟩ = some (.string ⟨(z : List UInt8).toArray⟩) ∧ Hid (l.getD k (0, 0, []) = (x, y, z)) := by
  rcases h with h0 | ⟨b, off, h1, h2, h3⟩
  · omega
  · exact ⟨b, off, _, _, _, h1, h2, (h3 k hk).1, (h3 k hk).2.1, (h3 k hk).2.2, Lib.hid rfl⟩
end Go.Proofs.YtpnofkefcoaojaaGreatDoor
set_option maxRecDepth 100000
set_option maxHeartbeats 800000
namespace Big
end Big
namespace Go.Proofs.YtpnofkefcoaojaaGreatDoor
open Go.RowKit
end Go.Proofs.YtpnofkefcoaojaaGreatDoor
namespace Go.Proofs.YtpnofkefcoaojaaGreatDoor
open Go.RowKit
end Go.Proofs.YtpnofkefcoaojaaGreatDoor
namespace Go.Proofs.YtpnofkefcoaojaaGreatDoor
open Go.RowKit Big
end Go.Proofs.YtpnofkefcoaojaaGreatDoor
namespace Go.Proofs.YtpnofkefcoaojaaGreatDoor
open Go.RowKit Big
def subPost (L : List Nat) (g off n : Nat) (t : TypeId) (y : List Nat) (w : World) (e : Ending) (w' : World) : Prop :=
  ∃ L' c, Put L off n L' ∧ Dig B64 (seg L' off n) ∧ c ≤ 1 ∧ val B64 (seg L' off n) + val B64 y = val B64 (seg L off n) + B64 ^ n * c ∧
    e = .returned (.tuple #[]) ∧ Only g w w' ∧ Row w' g t L'
theorem subtractFrom_any (g off n cap : Nat) (t : TypeId) (L : List Nat) (q : Option Addr) (m c : Nat) (y : List Nat) (w : World) (hn : n ≤ maxLen) (hL : off + n ≤ L.length) (hm : m ≤ n)
    (hz : Row w g t L) (hy : Rd w q m y) (hq : m = 0 ∨ ∀ b o, q = some ⟨b, o, none⟩ → b ≠ g) (dL : Dig B64 (seg L off n)) (dy : Dig B64 y) :
    Calls Tryz.prog 182 #[.slice (some ⟨g, off, none⟩) n cap, .slice q m c] w (subPost L g off n t y w) := by
  unfold maxLen at hn
  go_enter Tryz.func182, Tryz.ntmps182
  go_wp2
  go_loopw [4, 9] (fun cy i wr => ∃ (k : Nat) (L' : List Nat) (d : Nat), k ≤ n ∧ i = .int .i64 k ∧ cy = .int .u64 d ∧ d ≤ 1 ∧ Put L off k L' ∧ Dig B64 (seg L' off k) ∧
      val B64 (seg L' off k) + val B64 (y.take k) = val B64 (seg L off k) + B64 ^ k * d ∧ Only g w wr ∧ Row wr g t L') (fun _ i _ => n - (intOf i).toNat)
  case atStart => exact ⟨0, L, 0, Nat.zero_le _, rfl, rfl, by omega, Put.refl _ _, by rw [seg_zero]; exact Dig.nil _, by simp [val], Only.refl _ _, hz⟩
  case round =>
    obtain ⟨k, L', d, hk, rfl, rfl, hd, hput, hdig, hval, ho, hr⟩ := hrel
    have Hval := hiD hval
    clear hval
    by_cases hlt : k < n
    · have hc := hr.cell (off + k) (by rw [hput.length]; omega)
      rw [hput.getD _ (by omega)] at hc
      have hf := hr.free (off + k)
      have dk : L.getD (off + k) 0 < B64 := by rw [← seg_getD L off n k hlt]; exact dL.getD B64_pos k
      obtain ⟨a, ha⟩ : ∃ a, Hid (L.getD (off + k) 0 = a) := ⟨_, rfl⟩
      have hw : ∃ b : Nat, Hid (y.getD k 0 = b) ∧ b < B64 := ⟨_, rfl, dy.getD B64_pos k⟩
      obtain ⟨b, hb, hb64⟩ := hw
      rw [ha.out] at hc dk
      obtain ⟨s, c', hs, hs1, hs2, hrun⟩ := sub64 a b d hd dk hb64
      have hrelk : ∀ wr', Only g w wr' → Row wr' g t (L'.set (off + k) s) → ∃ (k' : Nat) (L'' : List Nat) (d' : Nat), k' ≤ n ∧ Value.int .i64 ((k : Int) + 1) = .int .i64 k' ∧ Value.int .u64 (c' : Int) = .int .u64 d' ∧ d' ≤ 1 ∧ Put L off k' L'' ∧ Dig B64 (seg L'' off k') ∧
          val B64 (seg L'' off k') + val B64 (y.take k') = val B64 (seg L off k') + B64 ^ k' * d' ∧ Only g w wr' ∧ Row wr' g t L'' := by
        intro wr' h1 h2
        refine ⟨k + 1, L'.set (off + k) s, c', by omega, by go_num, rfl, hs2, hput.set s, ?_, ?_, h1, h2⟩
        · rw [hput.seg_set (by omega)]; exact hdig.append (Dig.one hs1)
        · rw [hput.seg_set (by omega), seg_succ L off k (by omega), val_snoc, val_snoc, val_take_succD, seg_length _ _ _ (by rw [hput.length]; omega), seg_length _ _ _ (by omega), ha.out, hb.out, Nat.pow_succ]
          exact sub_step Hval.out hs.out
      have Hrel := hiD hrelk
      clear hrelk
      by_cases hkm : k < m
      · obtain ⟨b0, o0, d0, rfl, hb0, hc0, hd0⟩ := hy.at hkm
        have e0 : d0 = b := by rw [← hd0.out]; exact hb.out
        subst e0
        have hcy : wr.cell? ⟨b0, o0 + k, none⟩ = some (.int .u64 (d0 : Int)) := by
          rw [← hc0]
          exact World.cell?_of_block (w := w) (ho.block b0 ((hq.resolve_left (by omega)) b0 o0 rfl))
        go_wp2
        go_roundw
        case rel => exact Hrel.out _ (ho.setCell _ _) (hr.set _ _)
        case measure => simp [intOf]; omega
      · have e0 : b = 0 := by
          rw [← hb.out, List.getD_eq_getElem?_getD, List.getElem?_eq_none (by rw [hy.len]; omega)]; rfl
        subst e0
        rw [show ((0 : Nat) : Int) = 0 from rfl] at hrun
        clear hb64 hb
        go_wp2
        go_roundw
        case rel => exact Hrel.out _ (ho.setCell _ _) (hr.set _ _)
        case measure => simp [intOf]; omega
    · obtain rfl : k = n := by omega
      have hval := Hval.out
      rw [List.take_of_length_le (by rw [hy.len]; exact hm)] at hval
      have Hv := hiD hval
      clear hval
      go_wp2
      go_end0
      exact ⟨L', d, hput, hdig, hd, Hv.out, rfl, ho, hr⟩
end Go.Proofs.YtpnofkefcoaojaaGreatDoor
namespace Go.Proofs.YtpnofkefcoaojaaGreatDoor
open Go.RowKit Big
end Go.Proofs.YtpnofkefcoaojaaGreatDoor
namespace Go.Proofs.YtpnofkefcoaojaaGreatDoor
open Go.RowKit Big
end Go.Proofs.YtpnofkefcoaojaaGreatDoor
