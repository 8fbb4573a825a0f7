/- The bytes of numbers: appendNumber of the program, number of the document. -/
import Derived.Test.YtpnofkefcoaojaaGreatDoorCC
set_option maxHeartbeats 1600000
set_option maxRecDepth 100000
namespace Go.Proofs.YtpnofkefcoaojaaGreatDoor
open Go.RowKit
open Go.Lib
def be : Nat → Nat → List UInt8
  | 0, _ => []
  | n + 1, x => UInt8.ofNat (x / 256 ^ n % 256) :: be n x
theorem be_length (x : Nat) : ∀ n, (be n x).length = n
  | 0 => rfl
  | n + 1 => by rw [be, List.length_cons, be_length x n]
theorem grown_trans {a b c : World} {r s : Option Nat} (h : a.grownBy b r) (k : b.grownBy c s) (hs : ∀ j, s = some j → s = r ∨ a.heap.size ≤ j) : a.grownBy c r :=
  ⟨k.os.trans h.os, k.tape.trans h.tape, k.output.trans h.output, Nat.le_trans h.size k.size, fun i hi hne => (k.block i (Nat.lt_of_lt_of_le hi h.size) (fun e => by
    rcases hs i e.symm with h1 | h1
    · exact hne (e.trans h1)
    · omega)).trans (h.block i hi hne)⟩
theorem grown_refl (w : World) (r : Option Nat) : w.grownBy w r := ⟨rfl, rfl, rfl, Nat.le_refl _, fun _ _ _ => rfl⟩
theorem grown_alloc (w : World) (o : Obj) (r : Option Nat) : w.grownBy (w.alloc o) r := ⟨rfl, rfl, rfl, by simp, fun k hk _ => Go.heap_alloc_old w o hk⟩
theorem shift_byte (x s : Nat) : (x : Int) / 2 ^ s % 256 = ((UInt8.ofNat (x / 2 ^ s % 256)).toNat : Int) := by
  rw [UInt8.toNat_ofNat']; simp
structure Grew (B : Nat) (w : World) (v : Value) (l : List UInt8) (w' : World) (v' : Value) : Prop where
  own : w'.ownsRow B 5 1 v' l.length (ubs l)
  grown : w.grownBy w' v.ownBlock
  lies : v'.ownBlock = v.ownBlock ∨ ∃ j, v'.ownBlock = some j ∧ w.heap.size ≤ j
theorem Grew.refl {B : Nat} {w : World} {v : Value} {l : List UInt8} (h : w.ownsRow B 5 1 v l.length (ubs l)) : Grew B w v l w v := ⟨h, grown_refl _ _, .inl rfl⟩
theorem Grew.trans {B : Nat} {w w1 w2 : World} {v v1 v2 : Value} {l l2 : List UInt8} (h : Grew B w v l w1 v1) (k : Grew B w1 v1 l2 w2 v2) : Grew B w v l2 w2 v2 := by
  refine ⟨k.own, grown_trans h.grown k.grown (fun j hj => ?_), ?_⟩
  · rcases h.lies with h1 | ⟨i, h1, h2⟩
    · exact .inl h1
    · rw [h1] at hj; cases hj; exact .inr h2
  · rcases k.lies with h1 | ⟨i, h1, h2⟩
    · rw [h1]; exact h.lies
    · exact .inr ⟨i, h1, Nat.le_trans h.grown.size h2⟩
theorem Grew.next {B : Nat} {w wr w5 : World} {v vr v5 : Value} {l : List UInt8} {m : Nat} {c : UInt8} {o : Obj} (h : Grew B w v l wr vr) (hm : m = l.length + 1) (hown : w5.ownsRow B 5 1 v5 m (ubs l ++ [.int .u8 (c.toNat : Int)])) (hg : (wr.alloc o).grownBy w5 vr.ownBlock) (hl : v5.ownBlock = vr.ownBlock ∨ v5.ownBlock = some (wr.heap.size + 1)) : Grew B w v (l ++ [c]) w5 v5 := by
  subst hm
  refine h.trans ⟨?_, (grown_alloc wr o _).trans hg, ?_⟩
  · have e : ubs (l ++ [c]) = ubs l ++ [.int .u8 (c.toNat : Int)] := by simp [ubs]
    rw [e, List.length_append]; exact hown
  · rcases hl with h1 | h1
    · exact .inl h1
    · exact .inr ⟨_, h1, by simp⟩
theorem Grew.below {B : Nat} {w w' : World} {v v' : Value} {l : List UInt8} (h : Grew B w v l w' v') (hB : B ≤ w.heap.size) (hv : ∀ k, v.ownBlock = some k → B ≤ k) : Below B w w' := (Below.refl _ _).grown h.grown hB hv
def App (B : Nat) (w : World) (v : Value) (l : List UInt8) (e : Ending) (w' : World) : Prop := ∃ v', e = .returned v' ∧ Grew B w v l w' v'
theorem appendNumber_any (B : Nat) (v : Value) (l : List UInt8) (x n : Nat) (w : World) (hn : n ≤ 8) (hl : l.length ≤ 100000000) (hB : B ≤ w.heap.size) (hv : w.ownsRow B 5 1 v l.length (ubs l)) (hx : x < 18446744073709551616) :
    Calls Tryz.prog 128 #[v, .int .u64 (x : Int), .int .i64 (n : Int)] w (App B w v (l ++ be n x)) := by
  obtain ⟨i0, hi, hz0, hz1, hz2⟩ := info_parts infoB5
  have HX := Lib.hid hx
  have HG0 := Lib.hid (Grew.refl hv)
  clear hv hx
  have hni : (n : Int) ≤ 8 := by omega
  have HL := Lib.hid hl
  clear hl
  go_enter Tryz.func128, Tryz.ntmps128
  go_wp2_with fail
  go_loopw [0, 7] (fun vr s wr => ∃ (m : Nat) (b : List UInt8), m ≤ n ∧ s = .int .i64 (8 * (m : Int) - 8) ∧ Hid (b ++ be m x = l ++ be n x) ∧ Hid (Grew B w v b wr vr)) (fun _ s _ => (intOf s + 8).toNat)
  case atStart => exact ⟨n, l, Nat.le_refl _, by first | rfl | (congr 1; omega), rfl, HG0⟩
  case round =>
    obtain ⟨m, b, hm, rfl, HE, HG⟩ := hrel
    cases m with
    | zero =>
      go_wp2_with fail
      go_ret
      have hE := HE.out
      rw [be, List.append_nil] at hE
      rw [← hE]
      exact ⟨_, rfl, HG.out⟩
    | succ m =>
      have e1 : 8 * ((m + 1 : Nat) : Int) - 8 = ((8 * m : Nat) : Int) := by omega
      rw [e1]
      obtain ⟨c, HC⟩ : ∃ c : UInt8, Hid (c = UInt8.ofNat (x / 256 ^ m % 256)) := ⟨_, rfl⟩
      obtain ⟨k, hk⟩ : ∃ k : Nat, 8 * m = k := ⟨_, rfl⟩
      rw [hk]
      have hcv : (x : Int) / 2 ^ k % 256 = ((c.toNat : Nat) : Int) := by rw [← hk, HC.out, shift_byte, Nat.pow_mul]
      have hk64 : (k : Int) ≤ 56 := by omega
      have hbl : Hid (b.length + 1 ≤ maxLen ∧ (b.length + 1) * 1 ≤ 140737488355328 ∧ B ≤ wr.heap.size + 1) := Lib.hid (by
        have h1 := congrArg List.length HE.out
        have h2 := HL.out
        have h3 := HG.out.grown.size
        simp only [List.length_append, be_length] at h1
        unfold maxLen; omega)
      have hne : Hid (b ++ [c] ++ be m x = l ++ be n x) := Lib.hid (by rw [← HE.out, be, HC.out]; simp)
      go_wp2_with (at_builtin; refine wpList_append_own_at _ rfl (.tmp 15) (.tmp 20) 39 rfl B 5 i0 (.int .u8 0) 1 1 Tryz.underlying39 hi hz0 hz1 hz2 rfl (by decide) _ _ _ rfl ((HG.out.own).alloc _) ⟨_, 0, none⟩ 1 1 [.int .u8 (c.toNat : Int)] rfl rfl (cell_one_new _ _ _) (by intro u hu; simp at hu; subst hu; rfl) hbl.out.1 hbl.out.2.1 (by simp; exact hbl.out.2.2) ?_)
      intro v5 w5 hown5 hgrow5 _ hat5
      have HG5 := Lib.hid (HG.out.next rfl hown5 hgrow5 hat5)
      clear hown5 hgrow5 hat5
      go_wp2_with fail
      go_roundw
      case rel => exact ⟨m, b ++ [c], by omega, by first | rfl | (congr 1; omega), hne, HG5⟩
      case measure => simp [intOf]; omega
end Go.Proofs.YtpnofkefcoaojaaGreatDoor
