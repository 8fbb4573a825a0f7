/- Numbers as rational numbers, and their texts. The four operations and Compare on texts: the laws of a field and of an order. -/
import Derived.Test.YtpnofkefcoaojaaGreatDoorV01
import Derived.Outline
import Derived.Test.YtpnofkefcoaojaaGreatDoorU05
import Derived.Test.YtpnofkefcoaojaaGreatDoorU06
set_option maxHeartbeats 1600000
set_option maxRecDepth 100000
namespace Go.Proofs.YtpnofkefcoaojaaGreatDoor
open Go.RowKit Go.Lib Big
end Go.Proofs.YtpnofkefcoaojaaGreatDoor
namespace Go.Proofs.YtpnofkefcoaojaaGreatDoor
open Go.RowKit Go.Lib Big
end Go.Proofs.YtpnofkefcoaojaaGreatDoor
namespace Go.Proofs.YtpnofkefcoaojaaGreatDoor
open Go.RowKit Go.Lib Big
end Go.Proofs.YtpnofkefcoaojaaGreatDoor
namespace Go.Proofs.YtpnofkefcoaojaaGreatDoor
open Go.RowKit Go.Lib Big
end Go.Proofs.YtpnofkefcoaojaaGreatDoor
namespace Go.Proofs.YtpnofkefcoaojaaGreatDoor
open Go.RowKit Go.Lib Big
end Go.Proofs.YtpnofkefcoaojaaGreatDoor
namespace Go.Proofs.YtpnofkefcoaojaaGreatDoor
open Go.RowKit Go.Lib Big
theorem onTexts_any (f : FuncId) (w : World) : Calls Tryz.prog 78 #[.func (.func f) #[] #[]] w fun e w' => e = .returned (.func (.func 129) #[] #[.pointer (some ⟨w.heap.size, 0, none⟩)]) ∧ w' = w.alloc (.cells #[.func (.func f) #[] #[]] 94) := by
  go_enter Tryz.func78, Tryz.ntmps78
  go_wp2_with fail
  go_ret
  exact ⟨rfl, rfl⟩
end Go.Proofs.YtpnofkefcoaojaaGreatDoor
namespace Go.Proofs.YtpnofkefcoaojaaGreatDoor
open Go.RowKit Go.Lib Big
theorem closure_bad2 (x y : ByteArray) (g : Addr) (t : Bool × Nat × Nat) (w : World) (hx : Hid (Calls Tryz.prog 130 #[.string x] w (ReadC (some t) w))) (hy : ∀ W, Below w.heap.size w W → Hid (Calls Tryz.prog 130 #[.string y] W (ReadC none W))) : Calls Tryz.prog 129 #[.string x, .string y, .pointer (some g)] w fun e w' => e = .returned (.string ⟨#[]⟩) ∧ Below w.heap.size w w' := by
  go_enter Tryz.func129, Tryz.ntmps129
  go_wp2_with fail
  refine hx.out.mono ?_
  rintro e w2 ⟨hb2, b, p, n, c, q, m, d, rfl, -⟩
  have hbw := hiD (hb2.trans ((bea w2 (.cells #[.bool b, .slice p n c, .slice q m d] 98)).mono hb2.size))
  have hy2 := hy _ hbw.out
  clear hb2 hy
  go_wp2_with fail
  refine hy2.out.mono ?_
  rintro e w3 ⟨hb3, b', p', n', c', q', m', d', rfl, -⟩
  have hbw3 := hiD (hbw.out.trans (hb3.mono hbw.out.size))
  have hbw4 := hiD (hbw3.out.trans ((bea w3 (.cells #[.bool b', .slice p' n' c', .slice q' m' d'] 98)).mono hbw3.out.size))
  clear hb3
  go_wp2_with fail
  go_ret
  exact ⟨rfl, hbw4.out⟩
end Go.Proofs.YtpnofkefcoaojaaGreatDoor
namespace Go.Proofs.YtpnofkefcoaojaaGreatDoor
open Go.RowKit Go.Lib Big
end Go.Proofs.YtpnofkefcoaojaaGreatDoor
namespace Go.Proofs.YtpnofkefcoaojaaGreatDoor
open Go.Lib Big
theorem num_inj {l m : List UInt8} {q : Rat} (h : num l = some q) (h2 : num m = some q) : l = m := by
  rw [← txt_num h, txt_num h2]
/-! Digits -/
theorem dec_allDig (u : Nat) : allDig (decDigits u) = true := by
  unfold allDig
  rw [(dec_all u).1]
  simp [dec_ne u]
theorem dec_head (u : Nat) (x : List UInt8) : Lib.hasPrefix (decDigits u ++ x) [45] = false := by
  cases h : decDigits u with
  | nil => exact absurd h (dec_ne u)
  | cons b t =>
    have hb : isDig b = true := by
      have := (dec_all u).1
      rw [h, List.all_cons, Bool.and_eq_true] at this
      exact this.1
    have : ((45 : UInt8) == b) = false := by rw [beq_eq_false_iff_ne]; rintro rfl; revert hb; decide
    simp [Lib.hasPrefix, List.isPrefixOf, this]
theorem readAbs_wrote {n d : Nat} (hd : 0 < d) : readAbs (decDigits n ++ (if d = 1 then [] else 47 :: decDigits d)) = some (n, d) := by
  have k1 : isDig 46 = false := by decide
  have k2 : isDig 47 = false := by decide
  have a1 := isDig_ne (dec_all n).1 k1
  have a2 := isDig_ne (dec_all n).1 k2
  have b1 := isDig_ne (dec_all d).1 k1
  unfold readAbs
  by_cases h : d = 1
  · rw [if_pos h, List.append_nil, cut_none a1, cut_none a2]
    simp only [Bool.false_eq_true, if_false]
    rw [if_pos (dec_allDig n), (dec_all n).2, h]
  · rw [if_neg h, cut_none (by simp [a1, b1]), cut_at a2]
    simp only [Bool.false_eq_true, if_false, if_true]
    rw [dec_allDig n, dec_allDig d, (dec_all n).2, (dec_all d).2]
    have : (d == 0) = false := by rw [beq_eq_false_iff_ne]; omega
    simp [this]
theorem readL_wrote {s : Bool} {n d : Nat} (hd : 0 < d) : readL (wrote s n d) = some (s, n, d) := by
  unfold readL wrote
  cases s
  · simp only [Bool.false_eq_true, if_false, List.nil_append]
    rw [dec_head]
    unfold Lib.trimPrefix
    rw [dec_head]
    simp only [Bool.false_eq_true, if_false]
    rw [readAbs_wrote hd]; rfl
  · simp only [if_true]
    have h : Lib.hasPrefix ([45] ++ decDigits n ++ (if d = 1 then [] else 47 :: decDigits d)) [45] = true := by simp [Lib.hasPrefix, List.isPrefixOf]
    unfold Lib.trimPrefix
    rw [h]
    simp only [if_true]
    have : ([45] ++ decDigits n ++ (if d = 1 then [] else 47 :: decDigits d)).drop [(45 : UInt8)].length = decDigits n ++ (if d = 1 then [] else 47 :: decDigits d) := by simp
    rw [this, readAbs_wrote hd]; rfl
theorem wrote_len (s : Bool) (n d : Nat) : (wrote s n d).length ≤ 2 + nDigits n + nDigits d := by
  unfold wrote
  rw [List.length_append, List.length_append, decDigits_length]
  split <;> split <;> simp [decDigits_length] <;> omega
theorem num_txt {q : Rat} (h : txt q ≠ []) : num (txt q) = some q := by
  have hs := txt_ne.1 h
  have e := txt_eq q
  unfold short at hs
  rw [if_pos hs] at e
  have hself := ratv_self q
  have hr : readQ (txt q) = some (decide (q.num < 0), q.num.natAbs, q.den) := by
    unfold readQ
    rw [e]
    have hl := wrote_len (decide (q.num < 0)) q.num.natAbs q.den
    rw [if_neg (by omega), readL_wrote q.den_pos]
    have hsg : (decide (q.num < 0) && !(q.num.natAbs == 0)) = decide (q.num < 0) := by
      by_cases h : q.num < 0
      · have : (q.num.natAbs == 0) = false := by rw [beq_eq_false_iff_ne]; omega
        simp [h, this]
      · simp [h]
    simp only [hsg]
    rw [if_pos]
    exact e
  unfold num
  rw [hr, Option.map_some]
  simp only [hself]
end Go.Proofs.YtpnofkefcoaojaaGreatDoor
namespace Go.Proofs.YtpnofkefcoaojaaGreatDoor
open Go.Lib Big
def opT (f : Rat → Rat → Rat) (x y : List UInt8) : List UInt8 :=
  match num x, num y with
  | some a, some b => txt (f a b)
  | _, _ => []
theorem opT_some {f : Rat → Rat → Rat} {x y : List UInt8} {a b : Rat} (hx : num x = some a) (hy : num y = some b) : opT f x y = txt (f a b) := by
  unfold opT; rw [hx, hy]
theorem opT_none1 {f : Rat → Rat → Rat} {x y : List UInt8} (hx : num x = none) : opT f x y = [] := by unfold opT; rw [hx]
theorem opT_none2 {f : Rat → Rat → Rat} {x y : List UInt8} (hy : num y = none) : opT f x y = [] := by unfold opT; rw [hy]; cases num x <;> rfl
def divT (x y : List UInt8) : List UInt8 := if y = [48] then [] else opT (· / ·) x y
theorem num_zero : num [48] = some 0 := by
  have h : txt 0 = [48] := by
    rw [txt_eq]
    have : nDigits (0 : Rat).num.natAbs = 1 := nDigits_small (by decide)
    have h2 : nDigits (0 : Rat).den = 1 := nDigits_small (by decide)
    rw [if_pos (by omega)]
    unfold wrote
    rw [show decDigits (0 : Rat).num.natAbs = [48] from decDigits_one (by decide)]
    rfl
  have := num_txt (q := 0) (by rw [h]; decide)
  rwa [h] at this
theorem num_zero_iff {y : List UInt8} : num y = some 0 ↔ y = [48] :=
  ⟨fun h => num_inj h num_zero, fun h => h ▸ num_zero⟩
/-! Compare -/
def cmpT (x y : List UInt8) : Int × Bool :=
  match num x, num y with
  | some a, some b => (sgnR (a - b), true)
  | _, _ => (0, false)
end Go.Proofs.YtpnofkefcoaojaaGreatDoor
namespace Go.Proofs.YtpnofkefcoaojaaGreatDoor
open Go.Lib Big
end Go.Proofs.YtpnofkefcoaojaaGreatDoor
