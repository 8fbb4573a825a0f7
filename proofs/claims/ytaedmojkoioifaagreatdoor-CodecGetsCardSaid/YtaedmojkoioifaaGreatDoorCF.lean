/- The bytes of numbers: appendNumber of the program, number of the document. -/
import Derived.Test.YtaedmojkoioifaaGreatDoorCC
import Derived.Test.YtaedmojkoioifaaGreatDoorQA
set_option maxHeartbeats 1600000
set_option maxRecDepth 100000
namespace Go.Proofs.YtaedmojkoioifaaGreatDoor
open Go.RowKit
open Go.Lib
def be : Nat → Nat → List UInt8
  | 0, _ => []
  | n + 1, x => UInt8.ofNat (x / 256 ^ n % 256) :: be n x
theorem be_length (x : Nat) : ∀ n, (be n x).length = n
  | 0 => rfl
  | n + 1 => by rw [be, List.length_cons, be_length x n]
theorem grown_trans {a b c : World} {r s : Option Nat} (h : a.grownBy b r) (k : b.grownBy c s) (hs : ∀ j, s = some j → s = r ∨ a.heap.size ≤ j) : a.grownBy c r :=
  ⟨k.os.trans h.os, k.tape.trans h.tape, k.output.trans h.output, Nat.le_trans h.size k.size, fun i hi hne => (k.block i (Nat.lt_of_lt_of_le hi h.size) (fun e => by
    rcases hs i e.symm with h1 | h1
    · exact hne (e.trans h1)
    · omega)).trans (h.block i hi hne)⟩
theorem grown_refl (w : World) (r : Option Nat) : w.grownBy w r := ⟨rfl, rfl, rfl, Nat.le_refl _, fun _ _ _ => rfl⟩
theorem grown_alloc (w : World) (o : Obj) (r : Option Nat) : w.grownBy (w.alloc o) r := ⟨rfl, rfl, rfl, by simp, fun k hk _ => Go.heap_alloc_old w o hk⟩
theorem shift_byte (x s : Nat) : (x : Int) / 2 ^ s % 256 = ((UInt8.ofNat (x / 2 ^ s % 256)).toNat : Int) := by
  rw [UInt8.toNat_ofNat']; simp
structure Grew (B : Nat) (w : World) (v : Value) (l : List UInt8) (w' : World) (v' : Value) : Prop where
  own : w'.ownsRow B 5 1 v' l.length (ubs l)
  grown : w.grownBy w' v.ownBlock
  lies : v'.ownBlock = v.ownBlock ∨ ∃ j, v'.ownBlock = some j ∧ w.heap.size ≤ j
theorem Grew.refl {B : Nat} {w : World} {v : Value} {l : List UInt8} (h : w.ownsRow B 5 1 v l.length (ubs l)) : Grew B w v l w v := ⟨h, grown_refl _ _, .inl rfl⟩
theorem Grew.trans {B : Nat} {w w1 w2 : World} {v v1 v2 : Value} {l l2 : List UInt8} (h : Grew B w v l w1 v1) (k : Grew B w1 v1 l2 w2 v2) : Grew B w v l2 w2 v2 := by
  refine ⟨k.own, grown_trans h.grown k.grown (fun j hj => ?_), ?_⟩
  · rcases h.lies with h1 | ⟨i, h1, h2⟩
    · exact .inl h1
    · rw [h1] at hj; cases hj; exact .inr h2
  · rcases k.lies with h1 | ⟨i, h1, h2⟩
    · rw [h1]; exact h.lies
    · exact .inr ⟨i, h1, Nat.le_trans h.grown.size h2⟩
theorem Grew.next {B : Nat} {w wr w5 : World} {v vr v5 : Value} {l : List UInt8} {m : Nat} {c : UInt8} {o : Obj} (h : Grew B w v l wr vr) (hm : m = l.length + 1) (hown : w5.ownsRow B 5 1 v5 m (ubs l ++ [.int .u8 (c.toNat : Int)])) (hg : (wr.alloc o).grownBy w5 vr.ownBlock) (hl : v5.ownBlock = vr.ownBlock ∨ v5.ownBlock = some (wr.heap.size + 1)) : Grew B w v (l ++ [c]) w5 v5 := by
  subst hm
  refine h.trans ⟨?_, (grown_alloc wr o _).trans hg, ?_⟩
  · have e : ubs (l ++ [c]) = ubs l ++ [.int .u8 (c.toNat : Int)] := by simp [ubs]
    rw [e, List.length_append]; exact hown
  · rcases hl with h1 | h1
    · exact .inl h1
    · exact .inr ⟨_, h1, by simp⟩
theorem Grew.below {B : Nat} {w w' : World} {v v' : Value} {l : List UInt8} (h : Grew B w v l w' v') (hB : B ≤ w.heap.size) (hv : ∀ k, v.ownBlock = some k → B ≤ k) : Below B w w' := (Below.refl _ _).grown h.grown hB hv
def App (B : Nat) (w : World) (v : Value) (l : List UInt8) (e : Ending) (w' : World) : Prop := ∃ v', e = .returned v' ∧ Grew B w v l w' v'
theorem appendNumber_any (B : Nat) (v : Value) (l : List UInt8) (x n : Nat) (w : World) (hn : n ≤ 8) (hl : l.length ≤ 100000000) (hB : B ≤ w.heap.size) (hv : w.ownsRow B 5 1 v l.length (ubs l)) (hx : x < 18446744073709551616) :
    Calls Tryz.prog 30 #[v, .int .u64 (x : Int), .int .i64 (n : Int)] w (App B w v (l ++ be n x)) := by
  obtain ⟨i0, hi, hz0, hz1, hz2⟩ := info_parts infoB5
  have HX := Lib.hid hx
  have HG0 := Lib.hid (Grew.refl hv)
  clear hv hx
  have hni : (n : Int) ≤ 8 := by omega
  have HL := Lib.hid hl
  clear hl
  go_enter Tryz.func30, Tryz.ntmps30
  go_wp2_with fail
  go_loopw [0, 7] (fun vr s wr => ∃ (m : Nat) (b : List UInt8), m ≤ n ∧ s = .int .i64 (8 * (m : Int) - 8) ∧ Hid (b ++ be m x = l ++ be n x) ∧ Hid (Grew B w v b wr vr)) (fun _ s _ => (intOf s + 8).toNat)
  case atStart => exact ⟨n, l, Nat.le_refl _, by first | rfl | (congr 1; omega), rfl, HG0⟩
  case round =>
    obtain ⟨m, b, hm, rfl, HE, HG⟩ := hrel
    cases m with
    | zero =>
      go_wp2_with fail
      go_ret
      have hE := HE.out
      rw [be, List.append_nil] at hE
      rw [← hE]
      exact ⟨_, rfl, HG.out⟩
    | succ m =>
      have e1 : 8 * ((m + 1 : Nat) : Int) - 8 = ((8 * m : Nat) : Int) := by omega
      rw [e1]
      obtain ⟨c, HC⟩ : ∃ c : UInt8, Hid (c = UInt8.ofNat (x / 256 ^ m % 256)) := ⟨_, rfl⟩
      obtain ⟨k, hk⟩ : ∃ k : Nat, 8 * m = k := ⟨_, rfl⟩
      rw [hk]
      have hcv : (x : Int) / 2 ^ k % 256 = ((c.toNat : Nat) : Int) := by rw [← hk, HC.out, shift_byte, Nat.pow_mul]
      have hk64 : (k : Int) ≤ 56 := by omega
      have hbl : Hid (b.length + 1 ≤ maxLen ∧ (b.length + 1) * 1 ≤ 140737488355328 ∧ B ≤ wr.heap.size + 1) := Lib.hid (by
        have h1 := congrArg List.length HE.out
        have h2 := HL.out
        have h3 := HG.out.grown.size
        simp only [List.length_append, be_length] at h1
        unfold maxLen; omega)
      have hne : Hid (b ++ [c] ++ be m x = l ++ be n x) := Lib.hid (by rw [← HE.out, be, HC.out]; simp)
      go_wp2_with (at_builtin; refine wpList_append_own_at _ rfl (.tmp 15) (.tmp 20) 25 rfl B 5 i0 (.int .u8 0) 1 1 Tryz.underlying25 hi hz0 hz1 hz2 rfl (by decide) _ _ _ rfl ((HG.out.own).alloc _) ⟨_, 0, none⟩ 1 1 [.int .u8 (c.toNat : Int)] rfl rfl (cell_one_new _ _ _) (by intro u hu; simp at hu; subst hu; rfl) hbl.out.1 hbl.out.2.1 (by simp; exact hbl.out.2.2) ?_)
      intro v5 w5 hown5 hgrow5 _ hat5
      have HG5 := Lib.hid (HG.out.next rfl hown5 hgrow5 hat5)
      clear hown5 hgrow5 hat5
      go_wp2_with fail
      go_roundw
      case rel => exact ⟨m, b ++ [c], by omega, by first | rfl | (congr 1; omega), hne, HG5⟩
      case measure => simp [intOf]; omega
theorem rnumber_any (x n : Nat) (w : World) (hn : n ≤ 8) (hx : x < 18446744073709551616) :
    Calls Tryz.prog 33 #[.int .u64 (x : Int), .int .i64 (n : Int)] w (App w.heap.size w (.slice none 0 0) (be n x)) := by
  obtain ⟨i0, hi, hz0, hz1, hz2⟩ := info_parts infoB5
  have HX := Lib.hid hx
  have HG0 := Lib.hid (Grew.refl (l := []) (World.ownsRow_nil w w.heap.size 5 1))
  clear hx
  have hni : (n : Int) ≤ 8 := by omega
  go_enter Tryz.func33, Tryz.ntmps33
  go_wp2_with fail
  go_loopw [5, 6] (fun vr s wr => ∃ (m : Nat) (b : List UInt8), m ≤ n ∧ s = .int .i64 ((m : Int) - 1) ∧ Hid (b ++ be m x = be n x) ∧ Hid (Grew w.heap.size w (.slice none 0 0) b wr vr)) (fun _ s _ => (intOf s + 1).toNat)
  case atStart => exact ⟨n, [], Nat.le_refl _, by first | rfl | (congr 1; omega), rfl, HG0⟩
  case round =>
    obtain ⟨m, b, hm, rfl, HE, HG⟩ := hrel
    cases m with
    | zero =>
      go_wp2_with fail
      go_ret
      have hE := HE.out
      rw [be, List.append_nil] at hE
      rw [← hE]
      exact ⟨_, rfl, HG.out⟩
    | succ m =>
      have e1 : ((m + 1 : Nat) : Int) - 1 = (m : Int) := by omega
      rw [e1]
      obtain ⟨c, HC⟩ : ∃ c : UInt8, Hid (c = UInt8.ofNat (x / 256 ^ m % 256)) := ⟨_, rfl⟩
      have hcv : (x : Int) / 2 ^ (8 * m) % 256 = ((c.toNat : Nat) : Int) := by rw [HC.out, shift_byte, Nat.pow_mul]
      have hk64 : (m : Int) ≤ 7 := by omega
      have hbl : Hid (b.length + 1 ≤ maxLen ∧ (b.length + 1) * 1 ≤ 140737488355328 ∧ w.heap.size ≤ wr.heap.size + 1) := Lib.hid (by
        have h1 := congrArg List.length HE.out
        have h3 := HG.out.grown.size
        simp only [List.length_append, be_length] at h1
        unfold maxLen; omega)
      have hne : Hid (b ++ [c] ++ be m x = be n x) := Lib.hid (by rw [← HE.out, be, HC.out]; simp)
      go_wp2_with (at_builtin; refine wpList_append_own_at _ rfl (.tmp 13) (.tmp 19) 25 rfl w.heap.size 5 i0 (.int .u8 0) 1 1 Tryz.underlying25 hi hz0 hz1 hz2 rfl (by decide) _ _ _ rfl ((HG.out.own).alloc _) ⟨_, 0, none⟩ 1 1 [.int .u8 (c.toNat : Int)] rfl rfl (cell_one_new _ _ _) (by intro u hu; simp at hu; subst hu; rfl) hbl.out.1 hbl.out.2.1 (by simp; exact hbl.out.2.2) ?_)
      intro v5 w5 hown5 hgrow5 _ hat5
      have HG5 := Lib.hid (HG.out.next rfl hown5 hgrow5 hat5)
      clear hown5 hgrow5 hat5
      go_wp2_with fail
      go_roundw
      case rel => exact ⟨m, b ++ [c], by omega, by first | rfl | (congr 1; omega), hne, HG5⟩
      case measure => simp [intOf]
end Go.Proofs.YtaedmojkoioifaaGreatDoor
set_option maxHeartbeats 1600000
set_option maxRecDepth 100000
namespace Go.Proofs.YtaedmojkoioifaaGreatDoor
open Go.RowKit
open Go.Lib
theorem fit_a : fitT 2 [49] = true := by decide +kernel
theorem fit_b : fitT 2 [] = true := by decide
theorem fit_c : fitT 2 [45, 50] = true := by decide +kernel
theorem pi_a : parseIntB 64 [49] = .ok 1 := by decide
theorem pi_c : parseIntB 64 [45, 50] = .ok (-2) := by decide
theorem width_two (w : World) : Calls Tryz.prog 16 #[.int .i64 2] w fun e w' => e = .returned (.int .i64 2) ∧ w = w' := by
  go_enter Tryz.func16, Tryz.ntmps16
  go_wp2_with fail
  go_ret
  exact ⟨rfl, rfl⟩
theorem isType_two (w : World) : Calls Tryz.prog 19 #[.int .i64 2] w fun e w' => e = .returned (.bool true) ∧ w = w' := by
  go_enter Tryz.func19, Tryz.ntmps19
  go_wp2_with fail
  refine (width_two _).mono ?_
  rintro e w' ⟨rfl, rfl⟩
  go_wp2_with fail
  go_ret
  exact ⟨rfl, rfl⟩
theorem isCount_any (n : Nat) (hn : (n : Int) ≤ 4096) (w : World) : Calls Tryz.prog 20 #[.int .i64 (n : Int)] w fun e w' => e = .returned (.bool true) ∧ w = w' := by
  go_enter Tryz.func20, Tryz.ntmps20
  go_wp2_with fail
  go_ret
  exact ⟨rfl, rfl⟩
theorem presence_any (n : Nat) (hn : (n : Int) ≤ 4096) (w : World) : Calls Tryz.prog 13 #[.int .i64 (n : Int)] w fun e w' => e = .returned (.int .i64 (((n : Int) + 7) / 8)) ∧ w = w' := by
  go_enter Tryz.func13, Tryz.ntmps13
  go_wp2_with fail
  go_ret
  exact ⟨rfl, rfl⟩
def Ss (w : World) (p : Option Addr) (xs : List (List UInt8)) : Prop := xs.length = 0 ∨ ∃ b off, p = some ⟨b, off, none⟩ ∧ b < w.heap.size ∧ ∀ j, j < xs.length → w.cell? ⟨b, off + j, none⟩ = some (.string ⟨(xs.getD j []).toArray⟩)
theorem Ss.below {w w' : World} {p : Option Addr} {xs : List (List UInt8)} (h : Ss w p xs) (hb : Below w.heap.size w w') : Ss w' p xs := by
  rcases h with h0 | ⟨b, off, hp, hlt, hc⟩
  · exact .inl h0
  · exact .inr ⟨b, off, hp, Nat.lt_of_lt_of_le hlt hb.size, fun j hj => (hb.cell (p := ⟨b, off + j, none⟩) hlt).trans (hc j hj)⟩
theorem Ss.at {w : World} {p : Option Addr} {xs : List (List UInt8)} (h : Ss w p xs) {k : Nat} (hk : k < xs.length) : ∃ (b off : Nat) (x : List UInt8), p = some ⟨b, off, none⟩ ∧ b < w.heap.size ∧ w.cell? ⟨b, off + k, none⟩ = some (.string ⟨x.toArray⟩) ∧ Hid (xs.getD k [] = x) := by
  rcases h with h0 | ⟨b, off, h1, h2, h3⟩
  · omega
  · exact ⟨b, off, _, h1, h2, h3 k hk, rfl⟩
theorem checkValues_two (p : Option Addr) (c : Nat) (xs : List (List UInt8)) (w : World) (hn : xs.length ≤ 4096) (hs : Ss w p xs) (hf : ∀ k, k < xs.length → fitT 2 (xs.getD k []) = true) (he : Env w) :
    Calls Tryz.prog 12 #[.int .i64 2, .slice p xs.length c] w fun e w' => e = .returned (.int .i64 0) ∧ Below w.heap.size w w' := by
  have HS := Lib.hid hs
  have HF := Lib.hid hf
  have HV := Lib.hid he
  clear hs hf he
  obtain ⟨n, HN⟩ : ∃ n, Hid (n = xs.length) := ⟨_, rfl⟩
  rw [← HN.out] at hn ⊢
  have hn' : (n : Int) ≤ 4096 := by omega
  go_enter Tryz.func12, Tryz.ntmps12
  go_wp2_with fail
  refine (isType_two _).mono ?_
  rintro e w' ⟨rfl, rfl⟩
  go_wp2_with fail
  refine (isCount_any n hn' _).mono ?_
  rintro e w' ⟨rfl, rfl⟩
  go_wp2_with fail
  go_loopw [16] (fun i wr => ∃ k : Nat, k ≤ n ∧ i = .int .i64 k ∧ Hid (Below w.heap.size w wr)) (fun i _ => n - (intOf i).toNat)
  case atStart => exact ⟨0, Nat.zero_le _, rfl, Lib.hid (Below.refl _ _)⟩
  case round =>
    obtain ⟨k, hk, rfl, HB⟩ := hrel
    by_cases hlt : k < n
    · obtain ⟨b1, o1, x, rfl, hb1, hc1, hx⟩ := (HS.out.below HB.out).at (k := k) (by rw [← HN.out]; exact hlt)
      have HC := Lib.hid (pfits_list 2 x wr (HV.out.below HB.out))
      have hft : Hid (fitT 2 x = true) := Lib.hid (by rw [← hx.out]; exact HF.out k (by rw [← HN.out]; exact hlt))
      rw [hft.out] at HC
      go_wp2_with fail
      refine (HC.out).mono ?_
      rintro e w2 ⟨rfl, hb2⟩
      have HB2 := Lib.hid (HB.out.trans (hb2.mono HB.out.size))
      clear hb2
      go_wp2_with fail
      go_roundw
      case rel => exact ⟨k + 1, by omega, by go_num, HB2⟩
      case measure => simp [intOf]; omega
    · obtain rfl : k = n := by omega
      go_wp2_with fail
      go_ret
      exact ⟨rfl, HB.out⟩
end Go.Proofs.YtaedmojkoioifaaGreatDoor
