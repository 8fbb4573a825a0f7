/- Types, and whether values fit them. -/
import Derived.Test.YtpnofkefcoaojaaGreatDoorQA
import Derived.Test.YtpnofkefcoaojaaGreatDoorQL
import Derived.Outline
import Derived.Lib.AppendStr
set_option maxHeartbeats 2000000
set_option maxRecDepth 100000
namespace Go.Proofs.YtpnofkefcoaojaaGreatDoor
open Go.RowKit
open Go.Lib
def widT (k : Int) : Nat := if k = 1 then 1 else if k = 2 then 2 else if k = 3 then 4 else if k = 4 then 8 else 0
def isT (k : Int) : Bool := decide (1 ≤ k) && decide (k ≤ 5)
theorem widT_le (k : Int) : widT k ≤ 8 := by unfold widT; repeat' split
                                             all_goals omega
theorem widT_out {k : Int} (h : k < 1 ∨ 4 < k) : widT k = 0 := by
  unfold widT
  rw [if_neg (by omega), if_neg (by omega), if_neg (by omega), if_neg (by omega)]
theorem kinds (k : Int) : k = 1 ∨ k = 2 ∨ k = 3 ∨ k = 4 ∨ k = 5 ∨ k < 1 ∨ 5 < k := by omega
def chkE (k : Int) (xs : List (List UInt8)) : Int := if isT k = false then 2 else if xs.all (fitT k) = false then 41 else 0
theorem width_any (k : Int) (w : World) : Calls Tryz.prog 13 #[.int .i64 k] w fun e w' => e = .returned (.int .i64 (widT k : Int)) ∧ w = w' := by
  by_cases h1 : k = 1
  · subst h1
    go_enter Tryz.func13, Tryz.ntmps13
    go_wp2_with fail
    go_ret
    exact ⟨rfl, rfl⟩
  by_cases h2 : k = 2
  · subst h2
    go_enter Tryz.func13, Tryz.ntmps13
    go_wp2_with fail
    go_ret
    exact ⟨rfl, rfl⟩
  by_cases h3 : k = 3
  · subst h3
    go_enter Tryz.func13, Tryz.ntmps13
    go_wp2_with fail
    go_ret
    exact ⟨rfl, rfl⟩
  by_cases h4 : k = 4
  · subst h4
    go_enter Tryz.func13, Tryz.ntmps13
    go_wp2_with fail
    go_ret
    exact ⟨rfl, rfl⟩
  have e : widT k = 0 := by unfold widT; rw [if_neg h1, if_neg h2, if_neg h3, if_neg h4]
  rw [e]
  have g1 : (k == 1) = false := by simpa using h1
  have g2 : (k == 2) = false := by simpa using h2
  have g3 : (k == 3) = false := by simpa using h3
  have g4 : (k == 4) = false := by simpa using h4
  go_enter Tryz.func13, Tryz.ntmps13
  go_wp2_with fail
  go_ret
  exact ⟨rfl, rfl⟩
theorem isType_any (k : Int) (w : World) : Calls Tryz.prog 39 #[.int .i64 k] w fun e w' => e = .returned (.bool (isT k)) ∧ w = w' := by
  have HW := Lib.hid (width_any k w)
  obtain ⟨d, HD⟩ : ∃ d, Hid (d = widT k) := ⟨_, rfl⟩
  rw [← HD.out] at HW
  obtain ⟨b, HB⟩ : ∃ b, Hid (b = isT k) := ⟨_, rfl⟩
  rw [← HB.out]
  by_cases h : 1 ≤ k ∧ k ≤ 4
  · obtain rfl : b = true := by rw [HB.out]; unfold isT; rw [decide_eq_true h.1, decide_eq_true (by omega)]; rfl
    have hd : (0 : Int) < (d : Int) := by
      have : 0 < d := by
        rw [HD.out]; unfold widT
        have : k = 1 ∨ k = 2 ∨ k = 3 ∨ k = 4 := by omega
        rcases this with rfl | rfl | rfl | rfl <;> decide
      omega
    go_enter Tryz.func39, Tryz.ntmps39
    go_wp2_with fail
    refine (HW.out).mono ?_
    rintro e w' ⟨rfl, rfl⟩
    go_wp2_with fail
    go_ret
    exact ⟨rfl, rfl⟩
  · obtain rfl : d = 0 := by rw [HD.out]; exact widT_out (by omega)
    by_cases h5 : k = 5
    · subst h5
      obtain rfl : b = true := HB.out
      go_enter Tryz.func39, Tryz.ntmps39
      go_wp2_with fail
      refine (HW.out).mono ?_
      rintro e w' ⟨rfl, rfl⟩
      go_wp2_with fail
      go_ret
      exact ⟨rfl, rfl⟩
    · obtain rfl : b = false := by
        rw [HB.out]; unfold isT
        by_cases h1 : 1 ≤ k
        · rw [decide_eq_false (show ¬ k ≤ 5 by omega), Bool.and_false]
        · rw [decide_eq_false h1]; rfl
      have g5 : (k == 5) = false := by simpa using h5
      go_enter Tryz.func39, Tryz.ntmps39
      go_wp2_with fail
      refine (HW.out).mono ?_
      rintro e w' ⟨rfl, rfl⟩
      go_wp2_with fail
      go_ret
      exact ⟨rfl, rfl⟩
theorem checkV_any (k : Int) (p : Option Addr) (c n : Nat) (xs : List (List UInt8)) (w : World) (hx : Hid (xs.length = n)) (hn : n ≤ 4096) (hs : Ss w p xs) (he : Env w) :
    Calls Tryz.prog 44 #[.int .i64 k, .slice p n c] w fun e w' => e = .returned (.int .i64 (chkE k xs)) ∧ Below w.heap.size w w' := by
  have HS := Lib.hid hs
  have hn' : (n : Int) ≤ 4096 := by omega
  have HT := Lib.hid (fun W => isType_any k W)
  have HE := Lib.hid he
  clear he
  obtain ⟨b, HBT⟩ : ∃ b, Hid (isT k = b) := ⟨_, rfl⟩
  rw [HBT.out] at HT
  obtain ⟨v, HV⟩ : ∃ v, Hid (v = chkE k xs) := ⟨_, rfl⟩
  rw [← HV.out]
  have HB0 := Lib.hid (Below.refl w.heap.size w)
  clear hs
  cases b with
  | false =>
    obtain rfl : v = 2 := by rw [HV.out]; unfold chkE; rw [if_pos HBT.out]
    go_enter Tryz.func44, Tryz.ntmps44
    go_wp2_with fail
    refine (HT.out _).mono ?_
    rintro e w' ⟨rfl, rfl⟩
    go_wp2_with fail
    go_ret
    exact ⟨rfl, HB0.out⟩
  | true =>
    have HNO : Hid (∀ j, j < n → fitT k (xs.getD j []) = false → v = 41) := Lib.hid (fun j hj h => by
      rw [HV.out]; unfold chkE
      rw [if_neg (by rw [HBT.out]; simp), if_pos]
      rw [List.all_eq_false]
      have hj2 : j < xs.length := by rw [hx.out]; exact hj
      rw [List.getD_eq_getElem?_getD, List.getElem?_eq_getElem hj2] at h
      exact ⟨_, List.getElem_mem hj2, by simpa using h⟩)
    have HYES : Hid ((∀ j, j < n → fitT k (xs.getD j []) = true) → v = 0) := Lib.hid (fun h => by
      rw [HV.out]; unfold chkE
      rw [if_neg (by rw [HBT.out]; simp), if_neg]
      rw [Bool.not_eq_false, List.all_eq_true]
      intro x hx2
      obtain ⟨j, hj, rfl⟩ := List.getElem_of_mem hx2
      have := h j (by rw [← hx.out]; exact hj)
      rwa [List.getD_eq_getElem?_getD, List.getElem?_eq_getElem hj] at this)
    go_enter Tryz.func44, Tryz.ntmps44
    go_wp2_with fail
    refine (HT.out _).mono ?_
    rintro e w' ⟨rfl, rfl⟩
    go_wp2_with fail
    refine (isCount_any n hn' _).mono ?_
    rintro e w' ⟨rfl, rfl⟩
    go_wp2_with fail
    go_loopw [16] (fun iv wr => ∃ i : Nat, i ≤ n ∧ iv = .int .i64 i ∧ Hid (Below w.heap.size w wr) ∧ Hid (∀ j, j < i → fitT k (xs.getD j []) = true)) (fun iv _ => n - (intOf iv).toNat)
    case atStart => exact ⟨0, Nat.zero_le _, rfl, HB0, Lib.hid (fun j hj => by omega)⟩
    case round =>
      obtain ⟨i, hi, rfl, HB, HA⟩ := hrel
      have ii : (i : Int) ≤ (n : Int) := by omega
      by_cases hlt : i < n
      · have ilt : (i : Int) < (n : Int) := by omega
        obtain ⟨b1, o1, x, e1, hb1, hc1, hxx⟩ := (HS.out.below HB.out).at (k := i) (by rw [hx.out]; exact hlt)
        subst e1
        have HC := Lib.hid (pfits_list k x wr (HE.out.below HB.out))
        obtain ⟨f, HF⟩ : ∃ f, Hid (fitT k x = f) := ⟨_, rfl⟩
        rw [HF.out] at HC
        cases f with
        | true =>
          have HA2 : Hid (∀ j, j < i + 1 → fitT k (xs.getD j []) = true) := Lib.hid (fun j hj => by
            by_cases e : j = i
            · rw [e, hxx.out]; exact HF.out
            · exact HA.out j (by omega))
          go_wp2_with fail
          refine (HC.out).mono ?_
          rintro e w2 ⟨rfl, hb2⟩
          have HB2 := Lib.hid (HB.out.trans (hb2.mono HB.out.size))
          clear hb2
          go_wp2_with fail
          go_roundw
          case rel => exact ⟨i + 1, by omega, by go_num, HB2, HA2⟩
          case measure => simp [intOf]; omega
        | false =>
          obtain rfl : v = 41 := HNO.out i hlt (by rw [hxx.out]; exact HF.out)
          go_wp2_with fail
          refine (HC.out).mono ?_
          rintro e w2 ⟨rfl, hb2⟩
          have HB2 := Lib.hid (HB.out.trans (hb2.mono HB.out.size))
          clear hb2
          go_wp2_with fail
          go_ret
          exact ⟨rfl, HB2.out⟩
      · obtain rfl : i = n := by omega
        have ilt : ¬ (i : Int) < (i : Int) := by omega
        obtain rfl : v = 0 := HYES.out HA.out
        go_wp2_with fail
        go_ret
        exact ⟨rfl, HB.out⟩
end Go.Proofs.YtpnofkefcoaojaaGreatDoor
set_option maxHeartbeats 1600000
set_option maxRecDepth 100000
namespace Go.Proofs.YtpnofkefcoaojaaGreatDoor
open Go.RowKit
open Go.Lib
theorem grown_below {w w' : World} (h : Below w.heap.size w w') (r : Option Nat) : w.grownBy w' r := ⟨h.os, h.tape, h.output, h.size, fun k hk _ => h.block k hk⟩
theorem own_below {w w' : World} {B e size n : Nat} {v : Value} {xs : List Value} (h : w.ownsRow B e size v n xs) (hb : Below w.heap.size w w') : w'.ownsRow B e size v n xs := by
  refine h.kept (row := none) (grown_below hb none) ?_
  cases v.ownBlock with
  | none => exact .inl rfl
  | some a => exact .inr (by simp)
theorem Grew.of_below {B : Nat} {w w' : World} {v : Value} {l : List UInt8} (h : w.ownsRow B 5 1 v l.length (ubs l)) (hb : Below w.heap.size w w') : Grew B w v l w' v := ⟨own_below h hb, grown_below hb _, .inl rfl⟩
theorem appendInteger_ok (B : Nat) (v : Value) (l x : List UInt8) (z : Int) (y n : Nat) (w : World) (hn : n ≤ 8) (hl : l.length ≤ 100000000) (hB : B ≤ w.heap.size) (hv : w.ownsRow B 5 1 v l.length (ubs l)) (hx : x.length ≤ 100) (hp : parseIntB 64 x = .ok z) (hy : IntKind.u64.wrap z = (y : Int)) (hy2 : y < 18446744073709551616) :
    Calls Tryz.prog 77 #[v, .string ⟨x.toArray⟩, .int .i64 (n : Int)] w (App B w v (l ++ be n y)) := by
  have HP := Lib.hid (Tryz.strconv_ParseInt_10_at64_ok ⟨x.toArray⟩ (by rw [← ByteArray.size_data]; simp; omega) z (by simpa using hp) w)
  have HW : Hid (∀ W, Below w.heap.size w W → Calls Tryz.prog 128 #[v, .int .u64 (y : Int), .int .i64 (n : Int)] W (App B W v (l ++ be n y))) := Lib.hid fun W hW => appendNumber_any B v l y n W hn hl (Nat.le_trans hB hW.size) (own_below hv hW) hy2
  have HG := Lib.hid hv
  clear hv hp hx hl hB
  clear hy2 hn
  go_enter Tryz.func77, Tryz.ntmps77
  go_wp2_with fail
  refine (HP.out).mono ?_
  rintro e w1 ⟨rfl, hb1⟩
  have HB1 := Lib.hid (pi_world hb1)
  clear hb1
  go_wp2_with fail
  refine (HW.out _ HB1.out).mono ?_
  rintro e w2 ⟨v2, rfl, hg2⟩
  have HG2 := Lib.hid ((Grew.of_below HG.out HB1.out).trans hg2)
  clear hg2
  go_wp2_with fail
  go_ret
  exact ⟨_, rfl, HG2.out⟩
theorem appendInteger_bad (B : Nat) (v : Value) (l x : List UInt8) (n : Nat) (w : World) (hn : n ≤ 8) (hl : l.length ≤ 100000000) (hB : B ≤ w.heap.size) (hv : w.ownsRow B 5 1 v l.length (ubs l)) (hx : x.length ≤ 100) (hp : parseIntB 64 x = parseIntB 64 []) (he : Env w) :
    Calls Tryz.prog 77 #[v, .string ⟨x.toArray⟩, .int .i64 (n : Int)] w (App B w v (l ++ be n 0)) := by
  obtain ⟨ev, h1, k1⟩ := he.syn
  have HP : Hid (Calls Tryz.prog 127 #[.string ⟨x.toArray⟩, .int .i64 10, .int .i64 64] w fun e w' => Below w.heap.size w w' ∧ ∃ z T N, e = .returned (.tuple #[.int .i64 z, .iface T (.pointer (some ⟨N, 0, none⟩))])) := Lib.hid
    ((Tryz.strconv_ParseInt_10_at64_syntax ⟨x.toArray⟩ (by rw [← ByteArray.size_data]; simp; omega) (by simpa using hp) ev w h1 k1).mono fun e w' ⟨N, h, _, _, hb⟩ => ⟨hb, _, _, N, h⟩)
  have HW : Hid (∀ W, Below w.heap.size w W → Calls Tryz.prog 128 #[v, .int .u64 ((0 : Nat) : Int), .int .i64 (n : Int)] W (App B W v (l ++ be n 0))) := Lib.hid fun W hW => appendNumber_any B v l 0 n W hn hl (Nat.le_trans hB hW.size) (own_below hv hW) (by omega)
  have HG := Lib.hid hv
  clear hv hp hx hl hB he h1 k1
  clear hn
  go_enter Tryz.func77, Tryz.ntmps77
  go_wp2_with fail
  refine (HP.out).mono ?_
  rintro e w1 ⟨hb1, z, T, N, rfl⟩
  have HB1 := Lib.hid hb1
  clear hb1
  go_wp2_with fail
  refine (HW.out _ HB1.out).mono ?_
  rintro e w2 ⟨v2, rfl, hg2⟩
  have HG2 := Lib.hid ((Grew.of_below HG.out HB1.out).trans hg2)
  clear hg2
  go_wp2_with fail
  go_ret
  exact ⟨_, rfl, HG2.out⟩
end Go.Proofs.YtpnofkefcoaojaaGreatDoor
set_option maxHeartbeats 2000000
set_option maxRecDepth 100000
namespace Go.Proofs.YtpnofkefcoaojaaGreatDoor
open Go.RowKit
open Go.Lib
def vT (x : List UInt8) : Nat := match num x with
  | some q => (q.num % 18446744073709551616).toNat
  | none => 0
def elemL (k : Int) (x : List UInt8) : List UInt8 := if k = 5 then (if x = [] then [] else UInt8.ofNat x.length :: x) else be (widT k) (vT x)
theorem vT_lt (x : List UInt8) : vT x < 18446744073709551616 := by
  unfold vT
  split
  · omega
  · omega
theorem vT_nil : vT [] = 0 := by unfold vT; rw [num_nil]
structure Gro (B : Nat) (w : World) (v : Value) (l : List UInt8) (w' : World) (v' : Value) : Prop where
  own : w'.ownsRow B 5 1 v' l.length (ubs l)
  grown : w.grownBy w' v.ownBlock
def AppG (B : Nat) (w : World) (v : Value) (l : List UInt8) (e : Ending) (w' : World) : Prop := ∃ v', e = .returned v' ∧ Gro B w v l w' v'
theorem app_g {B : Nat} {w w' : World} {v : Value} {l : List UInt8} {e : Ending} (h : App B w v l e w') : AppG B w v l e w' := by
  obtain ⟨v', h1, h2⟩ := h
  exact ⟨v', h1, h2.own, h2.grown⟩
theorem fit_int {k : Int} {x : List UInt8} (h : fitT k x = true) (h1 : 1 ≤ k) (h4 : k ≤ 4) (hx : x ≠ []) : ∃ q : Rat, num x = some q ∧ q.den = 1 ∧ -((2 ^ (8 * widT k - 1) : Nat) : Int) ≤ q.num ∧ q.num < ((2 ^ (8 * widT k - 1) : Nat) : Int) := by
  have key : ∀ B, (x.isEmpty || (intT B x).isSome) = true → ∃ q : Rat, num x = some q ∧ q.den = 1 ∧ -((2 ^ (B - 1) : Nat) : Int) ≤ q.num ∧ q.num < ((2 ^ (B - 1) : Nat) : Int) := fun B hB => by
    have he : x.isEmpty = false := by cases x with
      | nil => exact absurd rfl hx
      | cons => rfl
    rw [he, Bool.false_or] at hB
    unfold intT at hB
    cases hn : num x with
    | none => rw [hn] at hB; cases hB
    | some q =>
      rw [hn] at hB
      simp only at hB
      by_cases hc : q.den = 1 ∧ -((2 ^ (B - 1) : Nat) : Int) ≤ q.num ∧ q.num < ((2 ^ (B - 1) : Nat) : Int)
      · exact ⟨q, rfl, hc.1, hc.2.1, hc.2.2⟩
      · rw [if_neg hc] at hB; cases hB
  have hk : k = 1 ∨ k = 2 ∨ k = 3 ∨ k = 4 := by omega
  unfold fitT at h
  rcases hk with rfl | rfl | rfl | rfl
  · exact key 8 h
  · exact key 16 h
  · exact key 32 h
  · exact key 64 h
theorem pow_le64 (k : Int) : (2 ^ (8 * widT k - 1) : Nat) ≤ 9223372036854775808 := by
  have := widT_le k
  calc 2 ^ (8 * widT k - 1) ≤ 2 ^ 63 := Nat.pow_le_pow_right (by omega) (by omega)
    _ = 9223372036854775808 := by decide
theorem fit_parse {k : Int} {x : List UInt8} (h : fitT k x = true) (h1 : 1 ≤ k) (h4 : k ≤ 4) (hx : x ≠ []) : ∃ z : Int, parseIntB 64 x = .ok z ∧ IntKind.u64.wrap z = (vT x : Int) := by
  obtain ⟨q, hq, hd, hl, hh⟩ := fit_int h h1 h4 hx
  have hp := pow_le64 k
  have h64 : intT 64 x = some q.num := by
    unfold intT
    rw [hq]
    simp only
    rw [if_pos ⟨hd, by show -((2 ^ 63 : Nat) : Int) ≤ q.num; omega, by show q.num < ((2 ^ 63 : Nat) : Int); omega⟩]
  have := pi_num (B := 64) (by decide) (by decide) hq
  rw [h64] at this
  refine ⟨q.num, this, ?_⟩
  rw [IntKind.wrap_u64]
  unfold vT
  rw [hq]
  show q.num % 18446744073709551616 = ((q.num % 18446744073709551616).toNat : Int)
  omega
theorem fit_len {k : Int} {x : List UInt8} (h : fitT k x = true) : x.length ≤ 82 := by
  have key : (x.isEmpty || (num x).isSome) = true → x.length ≤ 82 := fun h => by
    cases x with
    | nil => simp
    | cons a r =>
      rw [show (a :: r).isEmpty = false from rfl, Bool.false_or] at h
      obtain ⟨q, hq⟩ := Option.isSome_iff_exists.1 h
      exact num_len hq
  by_cases hx : x = []
  · rw [hx]; simp
  unfold fitT at h
  have e : ∀ B, (x.isEmpty || (intT B x).isSome) = true → (x.isEmpty || (num x).isSome) = true := fun B hB => by
    rw [Bool.or_eq_true] at hB ⊢
    refine hB.imp id (fun hB => ?_)
    unfold intT at hB
    cases hn : num x with
    | none => rw [hn] at hB; cases hB
    | some q => rfl
  repeat' split at h
  · exact key (e _ h)
  · exact key (e _ h)
  · exact key (e _ h)
  · exact key (e _ h)
  · exact key h
  · cases h
theorem appendInteger_any (B : Nat) (v : Value) (k : Int) (l x : List UInt8) (w : World) (hf : fitT k x = true) (h1 : 1 ≤ k) (h4 : k ≤ 4) (hl : l.length ≤ 100000000) (hB : B ≤ w.heap.size) (hv : w.ownsRow B 5 1 v l.length (ubs l)) (he : Env w) :
    Calls Tryz.prog 77 #[v, .string ⟨x.toArray⟩, .int .i64 (widT k : Int)] w (AppG B w v (l ++ elemL k x)) := by
  have e5 : elemL k x = be (widT k) (vT x) := by unfold elemL; rw [if_neg (by omega)]
  rw [e5]
  by_cases hx : x = []
  · subst hx
    rw [vT_nil]
    exact (appendInteger_bad B v l [] (widT k) w (widT_le k) hl hB hv (by simp) rfl he).mono fun _ _ => app_g
  · obtain ⟨z, hz, hw⟩ := fit_parse hf h1 h4 hx
    exact (appendInteger_ok B v l x z (vT x) (widT k) w (widT_le k) hl hB hv (by have := fit_len hf; omega) hz hw (vT_lt x)).mono fun _ _ => app_g
theorem u8s_app (a b : List UInt8) : ubs (a ++ b) = ubs a ++ ubs b := by simp [ubs]
theorem str_u8s (x : List UInt8) : strCells ⟨x.toArray⟩ = ubs x := by simp [strCells, ubs]
theorem appendText_any (B : Nat) (v : Value) (l x : List UInt8) (w : World) (hx : x.length ≤ 82) (hl : l.length ≤ 100000000) (hB : B ≤ w.heap.size) (hv : w.ownsRow B 5 1 v l.length (ubs l)) :
    Calls Tryz.prog 76 #[v, .string ⟨x.toArray⟩] w (AppG B w v (l ++ (if x = [] then [] else UInt8.ofNat x.length :: x))) := by
  obtain ⟨i0, hi, hz0, hz1, hz2⟩ := info_parts infoB5
  have HG := Lib.hid hv
  have HL := Lib.hid hl
  have HBB := Lib.hid hB
  clear hv hl hB
  by_cases he : x = []
  · subst he
    rw [if_pos rfl, List.append_nil]
    have HR : Hid (AppG B w v l (.returned v) w) := Lib.hid ⟨v, rfl, HG.out, grown_refl _ _⟩
    go_enter Tryz.func76, Tryz.ntmps76
    go_wp2_with fail
    go_ret
    exact HR.out
  rw [if_neg he]
  obtain ⟨m, HM⟩ : ∃ m, Hid (x.length = m) := ⟨_, rfl⟩
  have hne : x.isEmpty = false := by
    cases x with
    | nil => exact absurd rfl he
    | cons => rfl
  have hm82 : (m : Int) ≤ 82 := by rw [← HM.out]; omega
  have hsz : (⟨x.toArray⟩ : ByteArray).size = m := by rw [← ByteArray.size_data]; simpa using HM.out
  have hwr : IntKind.u8.wrap (m : Int) = ((UInt8.ofNat m).toNat : Int) := by rw [UInt8.toNat_ofNat']; simp [IntKind.wrap_u8]
  have HX := Lib.hid hx
  clear hx
  obtain ⟨c, HC⟩ : ∃ c, Hid (c = UInt8.ofNat m) := ⟨_, rfl⟩
  have hcv : (m : Int) % 256 = ((c.toNat : Nat) : Int) := by rw [HC.out, UInt8.toNat_ofNat']; simp
  have hbl : Hid (l.length + 1 ≤ maxLen ∧ (l.length + 1) * 1 ≤ 140737488355328 ∧ B ≤ w.heap.size + 1) := Lib.hid (by
    have h2 := HL.out
    have h3 := HBB.out
    unfold maxLen; omega)
  have hres : Hid (l ++ UInt8.ofNat x.length :: x = (l ++ [c]) ++ x) := Lib.hid (by rw [HM.out, ← HC.out]; simp)
  rw [hres.out]
  go_enter Tryz.func76, Tryz.ntmps76
  go_wp2_with (at_builtin; refine wpList_append_own_at _ rfl (.tmp 8) (.tmp 12) 39 rfl B 5 i0 (.int .u8 0) 1 1 Tryz.underlying39 hi hz0 hz1 hz2 rfl (by decide) _ _ _ rfl ((HG.out).alloc _) ⟨_, 0, none⟩ 1 1 [.int .u8 (c.toNat : Int)] rfl rfl (cell_one_new _ _ _) (by intro u hu; simp at hu; subst hu; rfl) hbl.out.1 hbl.out.2.1 (by simp; exact hbl.out.2.2) ?_)
  intro v5 w5 hown5 hgrow5 _ hat5
  have HG5 := Lib.hid ((Grew.refl HG.out).next rfl hown5 hgrow5 hat5)
  have hbl2 : Hid ((l ++ [c]).length + (⟨x.toArray⟩ : ByteArray).size ≤ maxLen ∧ (l ++ [c]).length + (⟨x.toArray⟩ : ByteArray).size ≤ 140737488355328 ∧ B ≤ w5.heap.size) := Lib.hid (by
    have h2 := HL.out
    have h3 := HBB.out
    have h4 := HG5.out.grown.size
    rw [hsz, List.length_append, List.length_singleton]
    unfold maxLen; omega)
  clear hown5 hgrow5 hat5 hbl
  go_wp2_with (at_builtin; refine wpList_append_own_string _ rfl (.tmp 14) (.tmp 15) 39 9 rfl B 5 i0 Tryz.underlying39 Tryz.underlying9 hi hz0 hz1 hz2 _ _ _ rfl HG5.out.own ⟨x.toArray⟩ rfl hbl2.out.1 hbl2.out.2.1 hbl2.out.2.2 ?_)
  intro v6 w6 hown6 hgrow6 _
  have HG6 : Hid (Gro B w v (l ++ [c] ++ x) w6 v6) := Lib.hid (by
    refine ⟨?_, ?_⟩
    · rw [str_u8s, ← u8s_app] at hown6
      have e : l.length + 1 + m = (l ++ [c] ++ x).length := by simp only [List.length_append, HM.out, List.length_singleton]
      rw [e] at hown6
      exact hown6
    · refine grown_trans HG5.out.grown hgrow6 (fun j hj => ?_)
      rcases HG5.out.lies with h | ⟨i, h, h2⟩
      · exact .inl h
      · rw [h] at hj; cases hj; exact .inr h2)
  clear hown6 hgrow6
  go_wp2_with fail
  go_ret
  exact ⟨_, rfl, HG6.out⟩
end Go.Proofs.YtpnofkefcoaojaaGreatDoor
