/-  -/
import Derived.Test.YtoegbjmoecbjdaaGreatDoorPart07
import Derived.Lib.AppendIntMem
import Derived.Lib.ItoaMem
import Derived.Lib.ItoaLen
import Derived.Lib.OwnBridge
set_option maxHeartbeats 3200000
set_option maxRecDepth 100000
namespace Go.Proofs.YtoegbjmoecbjdaaGreatDoor
open Go.RowKit Big
theorem size_toArray (l : List UInt8) : (⟨l.toArray⟩ : ByteArray).size = l.length := by
  show l.toArray.size = _; simp
theorem digIs (a : ByteArray) (f : Bool) (ha : a.size ≤ 100000) (h : allDig a.data.toList = f) : DigIs a f := by
  intro W
  have := isDigits_any a W (by omega)
  rw [h] at this
  exact hiD this
theorem cutIs (r : ByteArray) (c : UInt8) (a b : List UInt8) (f : Bool) (hr : r.size ≤ 100000) (h : Lib.cut r.data.toList [c] = (a, b, f)) : CutIs r ⟨a.toArray⟩ ⟨b.toArray⟩ c f := by
  intro W
  have := cut_one r c W (by omega)
  rw [h] at this
  exact hiD (this.mono fun e w' hh => ⟨hh.1, hh.2.elim fun n hn => hn ▸ below_drewN _ _ _⟩)
theorem natIs (a : ByteArray) (ha : a.size ≤ 100000) (h : allDig a.data.toList = true) : NatIs a (dval a.data.toList) := fun W =>
  hiD (naturalOf_any a W ha (allDig_all h))
theorem read_any (s : ByteArray) (w : World) (hs : s.size ≤ 90000) : Calls Tryz.prog 63 #[.string s] w (ReadPost (readL s.data.toList) w) := by
  have hl : s.data.toList.length ≤ 90000 := by simpa using hs
  have htl := trim_len s.data.toList
  unfold readL
  generalize hneg : Lib.hasPrefix s.data.toList [45] = neg
  generalize hr : Lib.trimPrefix s.data.toList [45] = l at htl ⊢
  have hp : PreIs s ⟨l.toArray⟩ neg := by
    intro W
    have := Go.Proofs.Tryz.strings_CutPrefix s ⟨#[45]⟩ W
    have e1 : Lib.trimPrefix s.data.toList (⟨#[45]⟩ : ByteArray).data.toList = l := hr
    have e2 : Lib.hasPrefix s.data.toList (⟨#[45]⟩ : ByteArray).data.toList = neg := hneg
    rw [e1, e2] at this
    exact hiD this
  have hls : (⟨l.toArray⟩ : ByteArray).size ≤ 100000 := by rw [size_toArray]; omega
  unfold readAbs
  obtain ⟨k1, k2, k3⟩ := cut_len l 46
  generalize hc : Lib.cut l [46] = q at k1 k2 k3 ⊢
  obtain ⟨a, b, f⟩ := q
  have hcut := cutIs ⟨l.toArray⟩ 46 a b f hls (by simpa using hc)
  have sa : (⟨a.toArray⟩ : ByteArray).size ≤ 100000 := by rw [size_toArray]; simp only at k1; omega
  have sb : (⟨b.toArray⟩ : ByteArray).size ≤ 100000 := by rw [size_toArray]; simp only at k2; omega
  cases f with
  | true =>
    simp only [if_true]
    by_cases ha : allDig a = true
    · by_cases hb : allDig b = true
      · rw [ha, hb]
        simp only [Bool.and_true, if_true, Option.map_some]
        have hab : ((⟨a.toArray⟩ : ByteArray) ++ ⟨b.toArray⟩).data.toList = a ++ b := by simp
        have hone : ((⟨#[49]⟩ : ByteArray) ++ ⟨(Lib.repeatL [48] b.length).toArray⟩).data.toList = 49 :: Lib.repeatL [48] b.length := by simp
        have hrl : (Lib.repeatL [48] b.length).length ≤ 90000 := by rw [Lib.repeatL_length]; simp only at k2; simp; omega
        refine read_dot_ok s ⟨l.toArray⟩ ⟨a.toArray⟩ ⟨b.toArray⟩ neg _ _ ⟨(Lib.repeatL [48] b.length).toArray⟩ w (by rw [size_toArray]; omega) ?_ hp hcut (digIs _ _ sa (by simpa using ha)) (digIs _ _ sb (by simpa using hb)) (by omega) (by omega) ?_
        · intro W
          have := Go.Proofs.Tryz.strings_Repeat ⟨#[48]⟩ (⟨b.toArray⟩ : ByteArray).size W (by omega) (by have : (⟨#[48]⟩ : ByteArray).size = 1 := rfl; rw [this]; omega)
          rw [size_toArray] at this ⊢
          exact hiD this
        · intro W
          have h1 : (((⟨a.toArray⟩ : ByteArray) ++ ⟨b.toArray⟩).data.toList.all isDig) = true := by rw [hab, List.all_append, allDig_all ha, allDig_all hb]; rfl
          have h2 := fraction_any neg (⟨a.toArray⟩ ++ ⟨b.toArray⟩) (⟨#[49]⟩ ++ ⟨(Lib.repeatL [48] b.length).toArray⟩) W ?_ ?_ h1 (by rw [hone]; exact (dval_ones _).2)
          · rw [hab, hone, (dval_ones _).1] at h2
            exact hiD h2
          · rw [ByteArray.size_append, size_toArray, size_toArray]; simp only at k3; omega
          · rw [ByteArray.size_append, size_toArray, size_toArray]
            have : ([49] : List UInt8).length = 1 := rfl
            omega
      · have hb' : allDig b = false := by simpa using hb
        rw [ha, hb']
        exact read_dot_bad2 s ⟨l.toArray⟩ ⟨a.toArray⟩ ⟨b.toArray⟩ neg w hp hcut (digIs _ _ sa (by simpa using ha)) (digIs _ _ sb (by simpa using hb'))
    · have ha' : allDig a = false := by simpa using ha
      rw [ha']
      exact read_dot_bad1 s ⟨l.toArray⟩ ⟨a.toArray⟩ ⟨b.toArray⟩ neg w hp hcut (digIs _ _ sa (by simpa using ha'))
  | false =>
    simp only [Bool.false_eq_true, if_false]
    obtain ⟨m1, m2, m3⟩ := cut_len l 47
    generalize hd : Lib.cut l [47] = q at m1 m2 m3 ⊢
    obtain ⟨c, d, g⟩ := q
    have hcutd := cutIs ⟨l.toArray⟩ 47 c d g hls (by simpa using hd)
    have sc : (⟨c.toArray⟩ : ByteArray).size ≤ 100000 := by rw [size_toArray]; simp only at m1; omega
    have sd : (⟨d.toArray⟩ : ByteArray).size ≤ 100000 := by rw [size_toArray]; simp only at m2; omega
    have kc : (⟨c.toArray⟩ : ByteArray).data.toList = c := by simp
    have kd : (⟨d.toArray⟩ : ByteArray).data.toList = d := by simp
    cases g with
    | true =>
      simp only [if_true]
      by_cases ha : allDig c = true
      · by_cases hb : allDig d = true
        · rw [ha, hb]
          have hn := natIs ⟨d.toArray⟩ sd (by rw [kd]; exact hb)
          rw [kd] at hn
          by_cases h0 : dval d = 0
          · rw [h0] at hn ⊢
            exact read_slash_zero s ⟨l.toArray⟩ ⟨a.toArray⟩ ⟨b.toArray⟩ ⟨c.toArray⟩ ⟨d.toArray⟩ neg w hp hcut hcutd (digIs _ _ sc (by rw [kc]; exact ha)) (digIs _ _ sd (by rw [kd]; exact hb)) hn
          · have h0' : (dval d == 0) = false := by rw [beq_eq_false_iff_ne]; exact h0
            rw [h0']
            refine read_slash_ok s ⟨l.toArray⟩ ⟨a.toArray⟩ ⟨b.toArray⟩ ⟨c.toArray⟩ ⟨d.toArray⟩ neg _ _ w hp hcut hcutd (digIs _ _ sc (by rw [kc]; exact ha)) (digIs _ _ sd (by rw [kd]; exact hb)) hn (Nat.pos_of_ne_zero h0) ?_
            intro W
            have h2 := fraction_any neg ⟨c.toArray⟩ ⟨d.toArray⟩ W sc sd (by rw [kc]; exact allDig_all ha) (by rw [kd]; exact allDig_all hb)
            rw [kc, kd] at h2
            exact hiD h2
        · have hb' : allDig d = false := by simpa using hb
          rw [ha, hb']
          exact read_slash_bad2 s ⟨l.toArray⟩ ⟨a.toArray⟩ ⟨b.toArray⟩ ⟨c.toArray⟩ ⟨d.toArray⟩ neg w hp hcut hcutd (digIs _ _ sc (by rw [kc]; exact ha)) (digIs _ _ sd (by rw [kd]; exact hb'))
      · have ha' : allDig c = false := by simpa using ha
        rw [ha']
        exact read_slash_bad1 s ⟨l.toArray⟩ ⟨a.toArray⟩ ⟨b.toArray⟩ ⟨c.toArray⟩ ⟨d.toArray⟩ neg w hp hcut hcutd (digIs _ _ sc (by rw [kc]; exact ha'))
    | false =>
      have hcl : c = l := by
        unfold Lib.cut at hd
        split at hd
        · simp at hd
        · simp only [Prod.mk.injEq] at hd; exact hd.1.symm
      subst hcl
      simp only [Bool.false_eq_true, if_false]
      by_cases ha : allDig c = true
      · rw [ha]
        have k1' : dval (⟨#[49]⟩ : ByteArray).data.toList = 1 := rfl
        have hn := natIs ⟨#[49]⟩ (by show 1 ≤ 100000; omega) (by decide)
        rw [k1'] at hn
        refine read_plain_ok s ⟨c.toArray⟩ ⟨a.toArray⟩ ⟨b.toArray⟩ ⟨c.toArray⟩ ⟨d.toArray⟩ neg _ _ w hp hcut hcutd (digIs _ _ sc (by rw [kc]; exact ha)) (digIs _ _ (by show 1 ≤ 100000; omega) (by decide)) hn (by omega) ?_
        intro W
        have h2 := fraction_any neg ⟨c.toArray⟩ ⟨#[49]⟩ W sc (by show 1 ≤ 100000; omega) (by rw [kc]; exact allDig_all ha) (by decide)
        rw [kc, k1'] at h2
        exact hiD h2
      · have ha' : allDig c = false := by simpa using ha
        rw [ha']
        exact read_plain_bad s ⟨c.toArray⟩ ⟨a.toArray⟩ ⟨b.toArray⟩ ⟨c.toArray⟩ ⟨d.toArray⟩ neg w hp hcut hcutd (digIs _ _ sc (by rw [kc]; exact ha'))
end Go.Proofs.YtoegbjmoecbjdaaGreatDoor
namespace Go.Proofs.YtoegbjmoecbjdaaGreatDoor
open Go.RowKit Go.Sort Go.Lib Big
def Tab (w : World) : Prop := Lib.TabIs Tryz.prog w "internal/strconv.uint64pow10" .u64 Lib.pow10Tab
theorem fmt244_any (u : Nat) (hu64 : u < 18446744073709551616) (w : World) (htab : Tab w) : Calls Tryz.prog 224 #[.int .u64 u, .int .i64 10] w fun e w' => e = .returned (.string ⟨(Lib.decDigits u).toArray⟩) ∧ Below w.heap.size w w' := by
  by_cases hs : u < 100
  · have hs' : (u : Int) < 100 := by omega
    have hu0 : IntKind.i64.wrap (u : Int) = u := by rw [IntKind.wrap_i64]; omega
    have hsm := hiD (fun W => Go.Proofs.Tryz.internal_strconv_small u hs W)
    clear hs hu64
    go_enter Tryz.func224, Tryz.ntmps224
    go_wp2_with fail
    refine (hsm.out _).mono ?_
    rintro e w' ⟨rfl, rfl⟩
    go_wp2_with fail
    go_ret
    exact ⟨rfl, Below.refl _ _⟩
  · have hs' : ¬ (u : Int) < 100 := by omega
    have hs2 : (100 : Int) ≤ u := by omega
    have hnd20 := nDigits_le20 u hu64
    have hndh : Lib.nDigits u ≤ 24 := by omega
    have hal : Tryz.prog.arrayLen 192 = 24 := rfl
    have hsl : ∀ W, Hid ((Instr.sliceAt 192 (.pointer (some ⟨w.heap.size, 0, none⟩)) none (some (.int .i64 (Lib.nDigits u : Int))) none).run Tryz.prog W = .ok (.slice (some ⟨w.heap.size, 0, none⟩) (Lib.nDigits u) 24) W) := fun W => hiD (by
      rw [run_sliceAt_array_h W 192 ⟨w.heap.size, 0, none⟩ rfl .i64 (Lib.nDigits u : Int) (by omega) (by rw [hal]; omega)]
      go_simp)
    have hH0 := Lib.holds_zero0 w 192 (Lib.nDigits u) hndh
    have hfmt := Go.Proofs.Tryz.internal_strconv_formatBase10 w.heap.size 0 24 u (Array.replicate (Lib.nDigits u) 0) (w.alloc (.cells Lib.zeros24 192)) hH0 (by rw [Array.size_replicate]; exact Lib.lt_pow_nDigits u) hu64 (by rw [Array.size_replicate]; omega)
    rw [Array.size_replicate] at hfmt
    have HH0 := hiD hH0
    have Hfmt := hiD hfmt
    have hnum := hiD (Go.Proofs.Tryz.internal_strconv_numDigits u (by omega) hu64 _ (Lib.tabIs_alloc htab (.cells Lib.zeros24 192)))
    clear hH0 hal hfmt htab
    go_enter Tryz.func224, Tryz.ntmps224
    go_wp2_with fail
    refine hnum.out.mono ?_
    rintro e w2 ⟨rfl, rfl⟩
    have hsl1 := (hsl (w.alloc (.cells Lib.zeros24 192))).out
    go_wp2_with fail
    refine Hfmt.out.mono ?_
    rintro e w3 ⟨rfl, k, v', dk, rfl, hF⟩
    have hcv : Hid ((convert 142 9 (.slice (some ⟨w.heap.size, 0, none⟩) (Lib.nDigits u) 24)).run Tryz.prog ((putRow (fun (b : UInt8) => Value.int .u8 (b.toNat : Int)) (w.alloc (.cells Lib.zeros24 192)) w.heap.size 0 dk).drewN k) = .ok (.string ⟨(Lib.decDigits u).toArray⟩) ((putRow (fun (b : UInt8) => Value.int .u8 (b.toNat : Int)) (w.alloc (.cells Lib.zeros24 192)) w.heap.size 0 dk).drewN k)) := hiD (by
      have h := run_convert_bytes_back (P := Tryz.prog) ((putRow (fun (b : UInt8) => Value.int .u8 (b.toNat : Int)) (w.alloc (.cells Lib.zeros24 192)) w.heap.size 0 dk).drewN k) 142 9 5 ⟨w.heap.size, 0, none⟩ 24 (Lib.decDigits u) rfl rfl rfl (fun j hj => by
        rw [Lib.row_is_numeral hF j hj, Lib.add_plain, World.cell?_drewN]
        exact cell?_putRow (fun (b : UInt8) => Value.int .u8 (b.toNat : Int)) _ w.heap.size 0 _ dk HH0.out (by rw [hF.size, Array.size_replicate]) j (by rw [hF.size]; rw [Lib.decDigits_length] at hj; exact hj))
      rw [Lib.decDigits_length] at h
      exact h)
    have hbl : Hid (Below w.heap.size w ((putRow (fun (b : UInt8) => Value.int .u8 (b.toNat : Int)) (w.alloc (.cells Lib.zeros24 192)) w.heap.size 0 dk).drewN k)) := hiD (by
      obtain ⟨os, eo⟩ := Lib.fin_at w (.cells Lib.zeros24 192) dk k 0
      rw [eo]; exact Lib.below_grow _ _ (Nat.le_refl _) _ _)
    clear hsl1
    generalize (putRow (fun (b : UInt8) => Value.int .u8 (b.toNat : Int)) (w.alloc (.cells Lib.zeros24 192)) w.heap.size 0 dk).drewN k = w3 at hcv hbl ⊢
    have hsl3 := (hsl w3).out
    have hcv3 := hcv.out
    go_wp2_with fail
    go_ret
    exact ⟨rfl, hbl.out⟩
theorem fmtUint_any (u : Nat) (hu64 : u < 18446744073709551616) (w : World) (htab : Tab w) : Calls Tryz.prog 186 #[.int .u64 u, .int .i64 10] w fun e w' => e = .returned (.string ⟨(Lib.decDigits u).toArray⟩) ∧ Below w.heap.size w w' := by
  have h := hiD (fmt244_any u hu64 w htab)
  clear htab hu64
  go_enter Tryz.func186, Tryz.ntmps186
  go_wp2_with fail
  refine h.out.mono ?_
  rintro e w2 ⟨rfl, hb⟩
  go_wp2_with fail
  go_ret
  exact ⟨rfl, hb⟩
theorem Tab.below {w w' : World} (h : Tab w) (hb : Below w.heap.size w w') : Tab w' := (Lib.tabBelow_of_tabIs h) w' hb
end Go.Proofs.YtoegbjmoecbjdaaGreatDoor
namespace Go.Proofs.YtoegbjmoecbjdaaGreatDoor
open Go.RowKit Go.Lib Big
def padD : Nat → Nat → List UInt8
  | 0, _ => []
  | k + 1, r => padD k (r / 10) ++ [UInt8.ofNat (48 + r % 10)]
theorem decDigits_big {u : Nat} (h : ¬ u < 10) : decDigits u = decDigits (u / 10) ++ [UInt8.ofNat (48 + u % 10)] := by rw [decDigits, dif_neg h]
theorem dec_split (k : Nat) : ∀ q r, 0 < q → r < 10 ^ k → decDigits (q * 10 ^ k + r) = decDigits q ++ padD k r := by
  induction k with
  | zero => intro q r _ hr; have : r = 0 := by rw [Nat.pow_zero] at hr; omega
            subst this; simp [padD]
  | succ k ih =>
    intro q r hq hr
    have hp : 0 < 10 ^ k := Nat.pow_pos (by omega)
    have e : q * 10 ^ (k + 1) = 10 * (q * 10 ^ k) := by rw [Nat.pow_succ, ← Nat.mul_assoc, Nat.mul_comm]
    have h1 : 1 ≤ q * 10 ^ k := Nat.mul_pos hq hp
    rw [Nat.pow_succ] at hr
    have h2 : (q * 10 ^ (k + 1) + r) / 10 = q * 10 ^ k + r / 10 := by omega
    have h3 : (q * 10 ^ (k + 1) + r) % 10 = r % 10 := by omega
    rw [decDigits_big (by omega), h2, h3, ih q (r / 10) hq (by omega), List.append_assoc]
    rfl
theorem pad_zero (k : Nat) : padD k 0 = List.replicate k 48 := by
  induction k with
  | zero => rfl
  | succ k ih => show padD k (0 / 10) ++ _ = _; rw [Nat.zero_div, ih, List.replicate_succ']; rfl
theorem pad_eq (k : Nat) : ∀ r, nDigits r ≤ k → padD k r = List.replicate (k - nDigits r) 48 ++ decDigits r := by
  induction k with
  | zero => intro r h; have := nDigits_pos r; omega
  | succ k ih =>
    intro r h
    show padD k (r / 10) ++ _ = _
    by_cases h1 : r < 10
    · rw [nDigits_small h1, decDigits_one h1, Nat.div_eq_of_lt h1, pad_zero, Nat.mod_eq_of_lt h1]; rfl
    · rw [nDigits_big h1] at h ⊢
      rw [ih (r / 10) (by omega), decDigits_big h1, List.append_assoc]
      have : k - nDigits (r / 10) = k + 1 - (nDigits (r / 10) + 1) := by omega
      rw [this]
theorem nDigits_le (k r : Nat) (hk : 1 ≤ k) (h : r < 10 ^ k) : nDigits r ≤ k := by
  induction k generalizing r with
  | zero => omega
  | succ k ih =>
    by_cases h1 : r < 10
    · rw [nDigits_small h1]; omega
    · rw [nDigits_big h1]
      by_cases hk0 : k = 0
      · subst hk0; rw [Nat.pow_succ, Nat.pow_zero] at h; omega
      · rw [Nat.pow_succ] at h
        have := ih (r / 10) (by omega) (by omega)
        omega
theorem repeat_rep (n : Nat) : repeatL [48] n = List.replicate n 48 := by
  induction n with
  | zero => rfl
  | succ n ih => show [48] ++ repeatL [48] n = _; rw [ih]; rfl
theorem part_eq (q r : Nat) (hq : 0 < q) (hr : r < 10 ^ 19) : decDigits (q * 10 ^ 19 + r) = decDigits q ++ (repeatL [48] (19 - nDigits r) ++ decDigits r) := by
  rw [dec_split 19 q r hq hr, pad_eq 19 r (nDigits_le 19 r (by omega) hr), repeat_rep]
theorem join_nil : ∀ xs : List (List UInt8), Lib.join xs [] = xs.flatten := by
  intro xs
  induction xs with
  | nil => rfl
  | cons x xs ih =>
    cases xs with
    | nil => simp [Lib.join]
    | cons y ys => simp only [Lib.join] at ih ⊢; simp [ih]
end Go.Proofs.YtoegbjmoecbjdaaGreatDoor
namespace Go.Proofs.YtoegbjmoecbjdaaGreatDoor
open Go.RowKit Big
theorem trimmed_new (p : Option Addr) (n c : Nat) (l : List Nat) (w0 w : World) (hn : n ≤ maxLen) (hnc : n ≤ c) (hl : Rd w p n l) (hd : Dig B64 l) (hb : Below w0.heap.size w0 w) :
    Calls Tryz.prog 134 #[.slice p n c] w fun e w' => ∃ k, e = .returned (.slice p k c) ∧ NatAt w' (.slice p k c) (val B64 l) ∧ Below w0.heap.size w0 w' ∧ w' = w :=
  (trimmed_any p n c l w hn hnc hl).mono fun e w' h => by
    obtain ⟨v, hv, h2, h3⟩ := trim_nat hnc hl hd hb h
    obtain ⟨k, -, he, hw, -⟩ := h
    rw [he] at hv
    cases hv
    exact ⟨k, he, h2, h3, hw.symm⟩
def LimbNew (x d n : Nat) (w : World) (e : Ending) (w' : World) : Prop :=
  ∃ k, e = .returned (.tuple #[.slice (some ⟨w.heap.size, 0, none⟩) k n, .int .u64 ((x % d : Nat) : Int)]) ∧ NatAt w' (.slice (some ⟨w.heap.size, 0, none⟩) k n) (x / d) ∧ Below w.heap.size w w' ∧ ∃ L, Row w' w.heap.size 76 L
theorem dividedByLimb_new (p : Option Addr) (n c : Nat) (x : List Nat) (d : Nat) (w : World) (hn0 : n ≤ most) (hx : Rd w p n x) (dx : Dig B64 x) (hd : 0 < d) (hdB : d < B64) :
    Calls Tryz.prog 169 #[.slice p n c, .int .u64 d] w (LimbNew (val B64 x) d n w) := by
  obtain ⟨i0, hi, hz0, hz1, hz2⟩ := info_parts info79
  have hn : (n : Int) ≤ 4294967296 := by unfold most at hn0; omega
  go_enter Tryz.func169, Tryz.ntmps169
  go_wp2_with (at_make; refine wpList_make_full _ rfl _ _ 64 rfl w.heap.size 76 i0 (.int .u64 0) 1 Tryz.underlying64 hi hz0 hz1 _ _ _ _ n rfl rfl (by omega) (by omega) ?b2 ?b3 (Nat.le_refl _) ?_)
  case b2 => rw [hz2]; unfold most at hn0; omega
  case b3 => unfold maxLen; unfold most at hn0; omega
  intro w1 hown hgrow
  have hr1 : Row w1 w.heap.size 76 (List.replicate n 0) := row_of_made hown
  have hb1 : Below w.heap.size w w1 := (Below.refl _ _).grown hgrow (Nat.le_refl _) (fun k h => by cases h)
  have hx1 := hx.below hb1
  clear hown hgrow
  have hlx : Hid (x.length = n) := hiD hx.len
  go_wp2_with fail
  go_loopw [7, 8] (fun rv i wr => ∃ (k : Nat) (z : Int) (r : Nat) (L : List Nat), k ≤ n ∧ i = .int .i64 z ∧ z + 1 = k ∧ rv = .int .u64 r ∧ Hid (r < d ∧ L.length = n ∧ Dig B64 (L.drop k) ∧ val B64 (L.drop k) * d + r = val B64 (x.drop k)) ∧ Row wr w.heap.size 76 L ∧ Below w.heap.size w wr) (fun _ i _ => (intOf i + 1).toNat)
  case atStart => exact ⟨n, (n : Int) - 1, 0, _, Nat.le_refl _, rfl, by omega, rfl, hiD ⟨hd, by simp, by rw [List.drop_of_length_le (by simp)]; exact Dig.nil _, by rw [List.drop_of_length_le (by simp), List.drop_of_length_le (by rw [hlx.out]; omega)]; simp [val]⟩, hr1, hb1⟩
  case round =>
    obtain ⟨k, z, r, L, hk, rfl, hz, rfl, hinv, hr, hb⟩ := hrel
    by_cases h0 : k = 0
    · obtain rfl : z = -1 := by omega
      subst h0
      have hfin : Hid (val B64 L = val B64 x / d ∧ r = val B64 x % d ∧ Dig B64 L ∧ L.length = n) := by
        obtain ⟨g1, g2, g3, g4⟩ := hinv.out
        rw [List.drop_zero] at g3 g4
        rw [List.drop_zero] at g4
        refine ⟨?_, ?_, g3, g2⟩
        · rw [← g4, Nat.mul_comm, Nat.mul_add_div hd, Nat.div_eq_of_lt g1]; rfl
        · rw [← g4, Nat.mul_comm, Nat.mul_add_mod, Nat.mod_eq_of_lt g1]
      have ht := trimmed_new (some ⟨w.heap.size, 0, none⟩) n n L w wr (by unfold maxLen; omega) (Nat.le_refl _) (hr.rd0 n hfin.out.2.2.2.symm) hfin.out.2.2.1 hb
      have Ht := hiD ht
      clear ht hz
      go_wp2_with fail
      refine Ht.out.mono ?_
      rintro e w4 ⟨kq, rfl, hv, hb4, hw4⟩
      subst hw4
      have hr4 := hiD hr
      rw [hfin.out.1] at hv
      rw [hfin.out.2.1]
      go_wp2_with fail
      go_ret2
      exact ⟨kq, rfl, hv, hb4, _, hr4.out⟩
    · obtain ⟨j, rfl⟩ : ∃ j : Nat, z = j := ⟨z.toNat, by omega⟩
      obtain rfl : k = j + 1 := by omega
      clear hz h0
      obtain ⟨b1, o1, a, rfl, hb1', hc1, ha⟩ := hx.at (k := j) (by omega)
      have hc : wr.cell? ⟨b1, o1 + j, none⟩ = some (.int .u64 (a : Int)) := (hb.cell (p := ⟨b1, o1 + j, none⟩) hb1').trans hc1
      have hf := hr.free j
      have hcell := hr.cell j (by rw [hinv.out.2.1]; omega)
      have da : a < B64 := by rw [← ha.out]; exact dx.getD B64_pos j
      have hdiv := div64_any r a d wr hinv.out.1 hdB da
      have Hdiv := hiD hdiv
      have hj : (j : Int) < n := by omega
      clear hdiv hc1
      go_wp2_with fail
      refine Hdiv.out.mono ?_
      rintro e w3 ⟨q, r', rfl, ⟨t, rfl⟩, he, hlt⟩
      have hq : q < B64 := quo_lt he hinv.out.1 da
      have hinv' : Hid (r' < d ∧ (L.set j q).length = n ∧ Dig B64 ((L.set j q).drop j) ∧ val B64 ((L.set j q).drop j) * d + r' = val B64 (x.drop j)) := by
        obtain ⟨g1, g2, g3, g4⟩ := hinv.out
        have hjl : j < (L.set j q).length := by rw [List.length_set]; omega
        have hd1 : (L.set j q).drop (j + 1) = L.drop (j + 1) := by rw [List.drop_set_of_lt (by omega)]
        have hgj : (L.set j q).getD j 0 = q := by rw [List.getD_eq_getElem?_getD, List.getElem?_set_self (by omega)]; rfl
        refine ⟨hlt, by rw [List.length_set]; exact g2, ?_, ?_⟩
        · rw [List.drop_eq_getElem_cons hjl, hd1]
          have : (L.set j q)[j] = q := by simp
          rw [this]
          exact (Dig.one hq).append g3
        · rw [drop_succ_val _ j hjl, hd1, hgj, drop_succ_val x j (by rw [hlx.out]; omega), ha.out]
          exact limb_step he g4
      have hr3 : Row (wr.drewN t) w.heap.size 76 L := hr
      have hb3 : Below w.heap.size w (wr.drewN t) := hb.trans (below_drewN _ _ _)
      clear he hlt
      go_wp2_with fail
      go_roundw
      case rel => exact ⟨j, (j : Int) - 1, r', _, by omega, rfl, by omega, rfl, hinv', hr3.set _ _, hb3.setCell (Nat.le_refl _) _⟩
      case measure => simp [intOf]
end Go.Proofs.YtoegbjmoecbjdaaGreatDoor
namespace Go.Proofs.YtoegbjmoecbjdaaGreatDoor
open Go.RowKit Go.Lib Big
theorem info9 : (Tryz.prog.info? 9).map (fun i => (i.zero, i.size, i.bytes)) = some (some (.string ByteArray.empty), 1, 16) := by kernel_rfl
structure TextAt (w wr : World) (x K : Nat) (vx pv : Value) (X : Nat) (xs : List ByteArray) : Prop where
  nat : NatAt wr vx X
  own : wr.ownsRow w.heap.size 9 1 pv xs.length (xs.map Value.string)
  below : Below w.heap.size w wr
  apart : ∀ b o n c, vx = .slice (some ⟨b, o, none⟩) n c → pv.ownBlock ≠ some b
  text : (if X = 0 then [] else decDigits X) ++ (xs.reverse.map (·.data.toList)).flatten = decDigits x
  count : xs.length ≤ 2 * K + 1
  pow : X ≠ 0 → 10 ^ (19 * xs.length) * X ≤ x
  le : X ≤ x
theorem rev_parts (B : Nat) (xs : List ByteArray) (pv : Value) (wr : World) (own : wr.ownsRow B 9 1 pv xs.length (xs.map Value.string)) (hne : xs ≠ []) (hlen : xs.length ≤ 100000000) :
    ∃ g cap, pv = .slice (some ⟨g, 0, none⟩) xs.length cap ∧ xs.length ≤ cap ∧ Calls Tryz.prog 187 #[pv] wr fun e w' => e = .returned (.tuple #[]) ∧ Below B wr w' ∧ g < w'.heap.size ∧ ∀ (j : Nat) y, xs.reverse[j]? = some y → w'.cell? ⟨g, 0 + j, none⟩ = some (.string y) := by
  rw [← map_encStr] at own
  have hpv : pv ≠ .slice none 0 0 := by
    rintro rfl
    rcases own.2 with ⟨-, h⟩ | ⟨g, cap, cur, h, -⟩
    · exact hne (List.eq_nil_of_length_eq_zero h)
    · cases h
  obtain ⟨g, cap, rfl, hB, hg, hc, -, hl, hH⟩ := holds_of_ownsRow own hpv
  refine ⟨g, cap, rfl, hc, ?_⟩
  have h := Go.Proofs.Tryz.slices_Reverse_string g 0 cap (xs.map (·.data.toList)) wr hH (by rw [hl]; omega)
  rw [hl] at h
  refine h.mono ?_
  rintro e w' ⟨rfl, n, rfl⟩
  have hb : Below B wr (Sort.putRow Go.Proofs.encStr (Sort.ahead wr n) g 0 (xs.map (·.data.toList)).reverse.toArray) := below_putRow (Below.refl _ _) hB
  refine ⟨rfl, hb, Nat.lt_of_lt_of_le hg hb.size, ?_⟩
  intro j y hy
  have hH2 : Go.Sort.Holds Go.Proofs.encStr (Sort.ahead wr n) g 0 (xs.map (·.data.toList)).toArray := fun j hj => hH j hj
  have hh := Go.Sort.holds_putRow Go.Proofs.encStr (Sort.ahead wr n) g 0 (xs.map (·.data.toList)).toArray (xs.map (·.data.toList)).reverse.toArray hH2 (by simp)
  have hj : j < xs.reverse.length := by
    rcases Nat.lt_or_ge j xs.reverse.length with h1 | h1
    · exact h1
    · rw [List.getElem?_eq_none h1] at hy; cases hy
  have := (hh j (by simpa using hj)).1
  rw [this, getElem!_pos _ j (by simpa using hj)]
  have hy2 : xs.reverse[j] = y := by rw [List.getElem?_eq_getElem hj] at hy; exact Option.some.inj hy
  have e1 : (xs.map (·.data.toList)).reverse = xs.reverse.map (·.data.toList) := by rw [List.map_reverse]
  simp only [e1, List.getElem_toArray, List.getElem_map, hy2]
def slLen : Value → Nat | .slice _ n _ => n | _ => 0
theorem TextAt.len {w wr : World} {x K X : Nat} {vx pv : Value} {xs : List ByteArray} (h : TextAt w wr x K vx pv X xs) : slLen pv = xs.length := by
  rcases h.own.2 with ⟨h1, h2⟩ | ⟨g, cap, cur, h1, -⟩
  · rw [h1, h2]; rfl
  · rw [h1]; rfl
theorem TextAt.ne {w wr : World} {x K X : Nat} {vx pv : Value} {xs : List ByteArray} (h : TextAt w wr x K vx pv X xs) (_hx : x ≠ 0) (hX : X = 0) : xs ≠ [] := by
  rintro rfl
  have := h.text
  rw [if_pos hX] at this
  have h2 := congrArg List.length this
  rw [decDigits_length] at h2
  have := nDigits_pos x
  simp at h2; omega
theorem count_lt {x K k X : Nat} (hx : x < B64 ^ K) (hX : X ≠ 0) (h : 10 ^ (19 * k) * X ≤ x) : k ≤ 2 * K := by
  apply Nat.le_of_not_lt
  intro hk
  have h1 : 10 ^ (20 * K) ≤ 10 ^ (19 * k) := Nat.pow_le_pow_right (by omega) (by omega)
  have h2 : B64 ^ K ≤ (10 ^ 20) ^ K := Nat.pow_le_pow_left (by rw [B64_eq]; decide) K
  rw [← Nat.pow_mul] at h2
  have h3 : 10 ^ (19 * k) * 1 ≤ 10 ^ (19 * k) * X := Nat.mul_le_mul_left _ (by omega)
  omega
theorem digits_le {x K : Nat} (hx : x < B64 ^ K) (h0 : x ≠ 0) : nDigits x ≤ 20 * K := by
  have h2 : B64 ^ K ≤ (10 ^ 20) ^ K := Nat.pow_le_pow_left (by rw [B64_eq]; decide) K
  rw [← Nat.pow_mul] at h2
  have hK : K ≠ 0 := by rintro rfl; rw [Nat.pow_zero] at hx; omega
  exact nDigits_le (20 * K) x (by omega) (by omega)
theorem own_below' {w w' : World} {B e : Nat} {v : Value} {n : Nat} {xs : List Value} (h : w.ownsRow B e 1 v n xs) (hb : Below w.heap.size w w') : w'.ownsRow B e 1 v n xs :=
  h.kept (row := none) ⟨hb.os, hb.tape, hb.output, hb.size, fun k hk _ => hb.block k hk⟩ (by cases v.ownBlock <;> simp)
theorem text_step {w wr w3 w5 : World} {x K X q r kq n2 m : Nat} {vx pv v' : Value} {xs : List ByteArray} {ps : ByteArray} {o : Obj} {L : List Nat} (h : TextAt w wr x K vx pv X xs) (hX : X ≠ 0) (hx : x < B64 ^ K) (hb : Below wr.heap.size wr w3) (hq : q = X / U19) (hr : r = X % U19)
    (hvq : NatAt w3 (.slice (some ⟨wr.heap.size, 0, none⟩) kq n2) q) (hrow : Row w3 wr.heap.size 76 L) (hps : ps.data.toList = if q = 0 then decDigits r else repeatL [48] (19 - nDigits r) ++ decDigits r)
    (hm : m = xs.length + 1) (hown : w5.ownsRow w.heap.size 9 1 v' m (xs.map Value.string ++ [.string ps])) (hg : (w3.alloc o).grownBy w5 pv.ownBlock) :
    TextAt w w5 x K (.slice (some ⟨wr.heap.size, 0, none⟩) kq n2) v' q (xs ++ [ps]) := by
  have hpb : ∀ g, pv.ownBlock = some g → w.heap.size ≤ g ∧ g < wr.heap.size := h.own.lt
  have hlt3 : wr.heap.size < w3.heap.size := hrow.lt
  have hblk : w5.heap[wr.heap.size]? = w3.heap[wr.heap.size]? := by
    rw [hg.block _ (by simp; omega) (fun e => absurd (hpb _ e.symm).2 (Nat.lt_irrefl _))]
    exact Below.heap_alloc _ _ _ hlt3
  subst hm
  refine ⟨?_, ?_, ?_, ?_, ?_, ?_, ?_, ?_⟩
  · obtain ⟨p, n, c, l, hv, hnc, hrd, hcn, hvl⟩ := hvq
    cases hv
    refine ⟨_, _, _, l, rfl, hnc, ⟨hrd.len, ?_⟩, hcn, hvl⟩
    rcases hrd.cell with h0 | ⟨b, off, hp, hltb, hc⟩
    · exact .inl h0
    · cases hp
      have hs5 := hg.size
      exact .inr ⟨_, _, rfl, by simp at hs5; omega, fun j hj => (World.cell?_of_block (w := w3) hblk).trans (hc j hj)⟩
  · rw [List.length_append, List.map_append]; exact hown
  · have h1 : Below w.heap.size w w3 := h.below.trans (hb.mono h.below.size)
    exact (h1.alloc h1.size o).grown hg (by simp; have := h1.size; omega) (fun k hk => (hpb k hk).1)
  · intro b o' n c e
    cases e
    intro hv
    rcases hown.2 with ⟨h1, h2⟩ | ⟨g, cap, cur, h1, h2, h3, -⟩
    · omega
    · rw [h1] at hv
      simp only [Value.ownBlock, Option.some.injEq] at hv
      rw [hv, hblk] at h3
      have h4 : w3.heap[wr.heap.size]? = _ := hrow
      rw [h4] at h3
      simp at h3
  · have ht := h.text
    rw [if_neg hX] at ht
    rw [List.reverse_append, List.map_append, List.flatten_append, ← ht]
    simp only [List.reverse_cons, List.reverse_nil, List.nil_append, List.map_cons, List.map_nil, List.flatten_cons, List.flatten_nil, List.append_nil]
    rw [← List.append_assoc]
    congr 1
    have hXe : X = q * 10 ^ 19 + r := by
      rw [hq, hr]; have := Nat.div_add_mod X U19; rw [Nat.mul_comm] at this; exact this.symm
    have hr19 : r < 10 ^ 19 := by rw [hr]; exact Nat.mod_lt _ (by decide)
    rw [hps]
    by_cases hq0 : q = 0
    · rw [if_pos hq0, if_pos hq0, hXe, hq0]; simp
    · rw [if_neg hq0, if_neg hq0, hXe, part_eq q r (by omega) hr19]
  · have := count_lt hx hX (h.pow hX)
    rw [List.length_append]; simp; omega
  · intro hq0
    have h1 := h.pow hX
    have h2 : q * U19 ≤ X := by rw [hq]; exact Nat.div_mul_le_self _ _
    have h3 : 10 ^ (19 * (xs ++ [ps]).length) * q = 10 ^ (19 * xs.length) * (q * U19) := by
      rw [List.length_append]
      show 10 ^ (19 * (xs.length + 1)) * q = _
      rw [Nat.mul_add, Nat.pow_add, Nat.mul_assoc]
      have : (10 ^ (19 * 1) : Nat) = U19 := by decide
      rw [this, Nat.mul_comm U19 q]
    rw [h3]
    exact Nat.le_trans (Nat.mul_le_mul_left _ h2) h1
  · have := h.le
    have : q ≤ X := by rw [hq]; exact Nat.div_le_self _ _
    omega
theorem text_any (u : Value) (x K : Nat) (w : World) (hK : K ≤ 1000000) (hx : x < B64 ^ K) (hu : NatAt w u x) (htab : Tab w) : Calls Tryz.prog 158 #[u] w fun e w' => e = .returned (.string ⟨(decDigits x).toArray⟩) ∧ Below w.heap.size w w' := by
  obtain ⟨i0, hi, hz0, hz1, hz2⟩ := info_parts info9
  by_cases h0 : x = 0
  · subst h0
    obtain ⟨p, n, c, rfl⟩ := hu.slice
    obtain rfl : n = 0 := (natAt_zero_iff hu).2 rfl
    have hd : decDigits 0 = [48] := by rw [decDigits_one (by omega)]; rfl
    rw [hd]
    clear htab hu hx hK
    go_enter Tryz.func158, Tryz.ntmps158
    go_wp2_with fail
    refine (isZero_any _ _ _ _).mono ?_
    rintro e w1 ⟨rfl, rfl⟩
    go_wp2_with fail
    go_ret
    exact ⟨rfl, Below.refl _ _⟩
  · obtain ⟨p, n, c, rfl⟩ := hu.slice
    have hn0 : ((n : Int) == 0) = false := by
      rw [beq_eq_false_iff_ne]; have := natAt_zero_iff hu; omega
    have hst : Hid (TextAt w w x K (.slice p n c) (.slice none 0 0) x []) := hiD ⟨hu, World.ownsRow_nil _ _ _ _, Below.refl _ _, fun _ _ _ _ _ => by simp [Value.ownBlock], by simp [h0], by simp, fun _ => by simp, Nat.le_refl _⟩
    have Hx := hiD hx
    have Htab := hiD htab
    have H0 := hiD h0
    clear hu hx htab h0
    go_enter Tryz.func158, Tryz.ntmps158
    go_wp2_with fail
    refine (isZero_any _ _ _ _).mono ?_
    rintro e w1 ⟨rfl, rfl⟩
    rw [hn0]
    clear hn0
    go_wp2_with fail
    go_loopw [0, 3] (fun xv pv wr => ∃ (X : Nat) (xs : List ByteArray) (p : Option Addr) (n c : Nat), xv = .slice p n c ∧ Hid (TextAt w wr x K xv pv X xs)) (fun _ pv _ => 2 * K + 2 - slLen pv)
    case atStart => exact ⟨x, [], p, n, c, rfl, hst⟩
    case round =>
      obtain ⟨X, xs, p2, n2, c2, rfl, hinv⟩ := hrel
      by_cases hX0 : X = 0
      · have hn2 : ((n2 : Int) == 0) = true := by
          rw [(natAt_zero_iff hinv.out.nat).2 hX0]; rfl
        have hne := hinv.out.ne H0.out hX0
        obtain ⟨g, cap, rfl, hcap, hrev⟩ := rev_parts w.heap.size xs _ wr hinv.out.own hne (by have := hinv.out.count; omega)
        have Hrev := hiD hrev
        have hjl : Hid ((Lib.join (xs.reverse.map (·.data.toList)) []) = decDigits x) := hiD (by
          rw [join_nil]
          have := hinv.out.text
          rw [if_pos hX0, List.nil_append] at this
          exact this)
        have hjoin : ∀ W : World, g < W.heap.size → (∀ (j : Nat) y, xs.reverse[j]? = some y → W.cell? ⟨g, 0 + j, none⟩ = some (.string y)) → Hid (Calls Tryz.prog 188 #[.slice (some ⟨g, 0, none⟩) xs.length cap, .string ⟨#[]⟩] W fun e w' => e = .returned (.string ⟨(decDigits x).toArray⟩) ∧ Below W.heap.size W w') := fun W hg hc => hiD (by
          have hcount := hinv.out.count
          have h := Go.Proofs.Tryz.strings_Join g 0 cap xs.reverse ⟨#[]⟩ W hc hg (by rw [List.length_reverse]; omega) (by rw [List.length_reverse]; exact hcap) (by
            have e : (⟨#[]⟩ : ByteArray).data.toList = [] := rfl
            rw [e, hjl.out, decDigits_length]
            have := digits_le Hx.out H0.out
            omega)
          rw [List.length_reverse] at h
          have e : (⟨#[]⟩ : ByteArray).data.toList = [] := rfl
          rw [e, hjl.out] at h
          exact h)
        clear hrev hX0 hne
        go_wp2_with fail
        refine (isZero_any _ _ _ _).mono ?_
        rintro e w1 ⟨rfl, rfl⟩
        rw [hn2]
        clear hn2
        go_wp2_with fail
        refine Hrev.out.mono ?_
        rintro e w2 ⟨rfl, hb2, hg2, hc2⟩
        have hj2 := hjoin w2 hg2 hc2
        have hbl := hiD (hinv.out.below.trans hb2)
        clear hb2 hg2 hc2 hjoin
        go_wp2_with fail
        refine hj2.out.mono ?_
        rintro e w3 ⟨rfl, hb3⟩
        have hfin := hiD (hbl.out.trans (hb3.mono hbl.out.size))
        clear hb3
        go_wp2_with fail
        go_ret
        exact ⟨rfl, hfin.out⟩
      · have hn2 : ((n2 : Int) == 0) = false := by
          rw [beq_eq_false_iff_ne]; have := natAt_zero_iff hinv.out.nat; omega
        obtain ⟨q, hq⟩ : ∃ q, Hid (q = X / U19) := ⟨_, hiD rfl⟩
        obtain ⟨r, hr⟩ : ∃ r, Hid (r = X % U19) := ⟨_, hiD rfl⟩
        obtain ⟨fs, hfs⟩ : ∃ fs : ByteArray, Hid (fs = ⟨(decDigits r).toArray⟩) := ⟨_, hiD rfl⟩
        have hr19 : Hid (r < 10 ^ 19) := hiD (by rw [hr.out]; exact Nat.mod_lt _ (by decide))
        have hfd : Hid (fs.data.toList = decDigits r ∧ fs.size = nDigits r ∧ nDigits r ≤ 19) := hiD (by
          refine ⟨by rw [hfs.out], by rw [hfs.out, size_toArray, decDigits_length], nDigits_le 19 r (by omega) hr19.out⟩)
        obtain ⟨m, hm⟩ : ∃ m : Nat, Hid (m = 19 - nDigits r) := ⟨_, hiD rfl⟩
        have hc19 : (19 : Int) - fs.size = (m : Int) := by rw [hm.out, hfd.out.2.1]; have := hfd.out.2.2; omega
        have hfs1 : (fs.size : Int) ≤ 19 := by rw [hfd.out.2.1]; have := hfd.out.2.2; omega
        have hdl : Hid (Calls Tryz.prog 169 #[.slice p2 n2 c2, .int .u64 10000000000000000000] wr fun e w' => ∃ k, e = .returned (.tuple #[.slice (some ⟨wr.heap.size, 0, none⟩) k n2, .int .u64 (r : Int)]) ∧ NatAt w' (.slice (some ⟨wr.heap.size, 0, none⟩) k n2) q ∧ Below wr.heap.size wr w' ∧ ∃ L, Row w' wr.heap.size 76 L) := hiD (by
          obtain ⟨p', n', c', l, he, hnc, hrd, hcn, hvl⟩ := hinv.out.nat
          cases he
          have hXK : X < B64 ^ K := Nat.lt_of_le_of_lt hinv.out.le Hx.out
          have hn := pow_most hcn hvl hXK hrd
          have h := dividedByLimb_new p2 n2 c2 l U19 wr (by unfold most; omega) hrd hcn.1 (by decide) (by rw [U19_eq, B64_eq]; omega)
          rw [hq.out, hr.out, ← hvl]
          exact h)
        have hfmt : ∀ W, Tab W → Hid (Calls Tryz.prog 186 #[.int .u64 (r : Int), .int .i64 10] W fun e w' => e = .returned (.string fs) ∧ Below W.heap.size W w') := fun W hW => hiD (by
          rw [hfs.out]; exact fmtUint_any r (by have := hr19.out; omega) W hW)
        obtain ⟨y, hy⟩ : ∃ y : ByteArray, Hid (y = ⟨(repeatL [48] m).toArray⟩) := ⟨_, hiD rfl⟩
        have hysz : (y.size : Int) ≤ 19 := by rw [hy.out, size_toArray, repeatL_length]; have := hm.out; simp; omega
        have hrep : ∀ W, Hid (Calls Tryz.prog 114 #[.string ⟨#[48]⟩, .int .i64 m] W fun e w' => e = .returned (.string y) ∧ Below W.heap.size W w') := fun W => hiD (by
          rw [hy.out]
          have h1 : (⟨#[48]⟩ : ByteArray).size = 1 := rfl
          have := hm.out
          exact Go.Proofs.Tryz.strings_Repeat ⟨#[48]⟩ m W (by omega) (by rw [h1]; omega))
        have hcount := hiD (count_lt Hx.out hX0 (hinv.out.pow hX0))
        have hcap1 : Hid (xs.length + 1 ≤ maxLen) := hiD (by have := hcount.out; unfold maxLen; omega)
        have hcap2 : Hid ((xs.length + 1) * 16 ≤ 140737488355328) := hiD (by have := hcount.out; omega)
        have hbw := hiD hinv.out.below
        have HX0 := hiD hX0
        clear hX0
        go_wp2_with fail
        refine (isZero_any _ _ _ _).mono ?_
        rintro e w1 ⟨rfl, rfl⟩
        rw [hn2]
        clear hn2
        go_wp2_with fail
        refine hdl.out.mono ?_
        rintro e w2 ⟨kq, rfl, hvq, hb2, L, hrow⟩
        have hownw2 := hiD (own_below' hinv.out.own hb2)
        have htab2 := (Htab.out.below hbw.out).below hb2
        have hf2 := hfmt w2 htab2
        have Hvq := hiD hvq
        have Hrow := hiD hrow
        have Hb2 := hiD hb2
        clear hvq hrow hb2 htab2
        go_wp2_with fail
        refine hf2.out.mono ?_
        rintro e w3 ⟨rfl, hb3⟩
        have Hown3 := hiD (own_below' hownw2.out hb3)
        have Hvq3 := hiD (Hvq.out.below hb3)
        have Hrow3 := hiD (Below.row hb3 Hrow.out Hrow.out.lt)
        have Hb3 := hiD (Hb2.out.trans (hb3.mono Hb2.out.size))
        clear hb3 hf2
        go_wp2_with fail
        refine (isZero_any _ _ _ _).mono ?_
        rintro e w4 ⟨rfl, rfl⟩
        by_cases hq0 : q = 0
        · have hkq : ((kq : Int) == 0) = true := by
            rw [(natAt_zero_iff Hvq3.out).2 hq0]; rfl
          rw [hkq]
          have Hps := hiD (show fs.data.toList = if q = 0 then decDigits r else repeatL [48] (19 - nDigits r) ++ decDigits r by rw [if_pos hq0]; exact hfd.out.1)
          have hbase : Hid (w.heap.size ≤ w3.heap.size + 1) := hiD (by have h1 := hbw.out.size; have h2 := Hb3.out.size; omega)
          clear hq0 hkq
          go_wp2_with (at_builtin; refine wpList_append_own _ rfl (.tmp 28) (.tmp 30) 47 rfl w.heap.size 9 i0 (.string ByteArray.empty) 1 16 Tryz.underlying47 hi hz0 hz1 hz2 rfl (by decide) _ _ _ rfl (Hown3.out.alloc _) ⟨w3.heap.size, 0, none⟩ 1 1 [.string fs] rfl rfl (cell_one_new _ _ _) (by intro u hu; simp at hu; subst hu; rfl) hcap1.out hcap2.out (by simp; exact hbase.out) ?_)
          intro v5 w5 hown5 hgrow5 _
          have hnext := hiD (text_step hinv.out HX0.out Hx.out Hb3.out hq.out hr.out Hvq3.out Hrow3.out Hps.out rfl hown5 hgrow5)
          clear hown5 hgrow5
          go_wp2_with fail
          go_roundw
          case rel => exact ⟨q, xs ++ [fs], _, _, _, rfl, hnext⟩
          case measure =>
            have h1 := hnext.out.len
            have h2 := hinv.out.len
            have h3 := hnext.out.count
            rw [List.length_append] at h1 h3
            simp only [List.length_cons, List.length_nil] at h1 h3
            omega
        · have hkq : ((kq : Int) == 0) = false := by
            rw [beq_eq_false_iff_ne]; have := natAt_zero_iff Hvq3.out; omega
          rw [hkq]
          have Hps := hiD (show (y ++ fs).data.toList = if q = 0 then decDigits r else repeatL [48] (19 - nDigits r) ++ decDigits r by rw [if_neg hq0, ← hm.out, ← hfd.out.1, hy.out]; simp)
          clear hq0 hkq
          go_wp2_with fail
          refine (hrep _).out.mono ?_
          rintro e w6 ⟨rfl, hb6⟩
          have Hown6 := hiD (own_below' Hown3.out hb6)
          have Hvq6 := hiD (Hvq3.out.below hb6)
          have Hrow6 := hiD (Below.row hb6 Hrow3.out Hrow3.out.lt)
          have Hb6 := hiD (Hb3.out.trans (hb6.mono Hb3.out.size))
          have hbase : Hid (w.heap.size ≤ w6.heap.size + 1) := hiD (by have h1 := hbw.out.size; have h2 := Hb6.out.size; omega)
          clear hb6
          go_wp2_with (at_builtin; refine wpList_append_own _ rfl (.tmp 28) (.tmp 30) 47 rfl w.heap.size 9 i0 (.string ByteArray.empty) 1 16 Tryz.underlying47 hi hz0 hz1 hz2 rfl (by decide) _ _ _ rfl (Hown6.out.alloc _) ⟨w6.heap.size, 0, none⟩ 1 1 [.string (y ++ fs)] rfl rfl (cell_one_new _ _ _) (by intro u hu; simp at hu; subst hu; rfl) hcap1.out hcap2.out (by simp; exact hbase.out) ?_)
          intro v5 w5 hown5 hgrow5 _
          have hnext := hiD (text_step hinv.out HX0.out Hx.out Hb6.out hq.out hr.out Hvq6.out Hrow6.out Hps.out rfl hown5 hgrow5)
          clear hown5 hgrow5
          go_wp2_with fail
          go_roundw
          case rel => exact ⟨q, xs ++ [(y ++ fs)], _, _, _, rfl, hnext⟩
          case measure =>
            have h1 := hnext.out.len
            have h2 := hinv.out.len
            have h3 := hnext.out.count
            rw [List.length_append] at h1 h3
            simp only [List.length_cons, List.length_nil] at h1 h3
            omega
def ratText (s : Bool) (a b : Nat) (digits : Nat) : Option (List UInt8) :=
  if nDigits (a / Nat.gcd a b) ≤ digits ∧ nDigits (b / Nat.gcd a b) ≤ digits then
    some ((if s then [45] else []) ++ decDigits (a / Nat.gcd a b) ++ (if b / Nat.gcd a b = 1 then [] else 47 :: decDigits (b / Nat.gcd a b)))
  else none
def TextPost (o : Option (List UInt8)) (w : World) (e : Ending) (w' : World) : Prop :=
  Below w.heap.size w w' ∧ match o with
  | some l => e = .returned (.tuple #[.string ⟨l.toArray⟩, .bool true])
  | none => e = .returned (.tuple #[.string ⟨#[]⟩, .bool false])
theorem long_of_limbs {x D : Nat} (h : ¬ x < B64 ^ (D / 19 + 1)) : D < nDigits x := by
  apply Nat.lt_of_not_le
  intro h1
  have h2 := lt_pow_nDigits x
  have h3 : 10 ^ nDigits x ≤ 10 ^ (19 * (D / 19 + 1)) := Nat.pow_le_pow_right (by omega) (by omega)
  have h4 : 10 ^ (19 * (D / 19 + 1)) ≤ B64 ^ (D / 19 + 1) := by rw [Nat.pow_mul]; exact Nat.pow_le_pow_left (by rw [B64_eq]; decide) _
  omega
theorem ratText_long (s : Bool) (u v : Value) (D : Nat) (w : World) (hD : (D : Int) ≤ 100000) (L : Nat) (hL : (D : Int) / 19 + 1 = L) (hlow : ∀ W : World, Below w.heap.size w W → Hid (Calls Tryz.prog 157 #[u, v, .int .i64 L] W fun e w' => e = .returned (.tuple #[.slice none 0 0, .slice none 0 0, .bool false]) ∧ Below W.heap.size W w')) : Calls Tryz.prog 117 #[.agg #[.bool s, u, v], .int .i64 D] w (TextPost none w) := by
  have hb1 := hiD (bea w (.cells #[.bool s, u, v] 66))
  have hl := hlow _ hb1.out
  clear hlow
  go_enter Tryz.func117, Tryz.ntmps117
  go_wp2_with fail
  refine hl.out.mono ?_
  rintro e w2 ⟨rfl, hb2⟩
  have hb := hiD (hb1.out.trans (hb2.mono hb1.out.size))
  clear hb2
  go_wp2_with fail
  go_ret2
  exact ⟨hb.out, rfl⟩
def LowOk (s1 s2 : ByteArray) (W : World) (e : Ending) (w' : World) : Prop :=
  Below W.heap.size W w' ∧ ∃ tv uv, e = .returned (.tuple #[tv, uv, .bool true]) ∧ ∀ W2, Below w'.heap.size w' W2 → Hid (Calls Tryz.prog 158 #[tv] W2 fun e w3 => e = .returned (.string s1) ∧ Below W2.heap.size W2 w3) ∧ Hid (Calls Tryz.prog 158 #[uv] W2 fun e w3 => e = .returned (.string s2) ∧ Below W2.heap.size W2 w3)
theorem ratText_far1 (s : Bool) (u v : Value) (D : Nat) (w : World) (hD : (D : Int) ≤ 100000) (L : Nat) (hL : (D : Int) / 19 + 1 = L) (s1 s2 : ByteArray) (hlow : ∀ W : World, Below w.heap.size w W → Hid (Calls Tryz.prog 157 #[u, v, .int .i64 L] W (LowOk s1 s2 W))) (h1 : D < s1.size) : Calls Tryz.prog 117 #[.agg #[.bool s, u, v], .int .i64 D] w (TextPost (none) w) := by
  have hb1 := hiD (bea w (.cells #[.bool s, u, v] 66))
  have hc1 : (w.alloc (.cells #[.bool s, u, v] 66)).cell? ⟨w.heap.size, 0, none⟩ = some (.bool s) := ceh (heap_new _ _) 0
  have Hc1 := hiD hc1
  have hl := hlow _ hb1.out
  clear hlow hc1
  go_enter Tryz.func117, Tryz.ntmps117
  go_wp2_with fail
  refine hl.out.mono ?_
  rintro e w2 ⟨hb2, tv, uv, rfl, htx⟩
  have hb := hiD (hb1.out.trans (hb2.mono hb1.out.size))
  have Hc2 := hiD (hb2.cell (p := ⟨w.heap.size, 0, none⟩) (by simp) |>.trans Hc1.out)
  have Hlt := hiD (show w.heap.size < w2.heap.size by have := hb2.size; simp at this; omega)
  have ht1 := (htx w2 (Below.refl _ _)).1
  have Htx := hiD htx
  clear hb2 htx
  go_wp2_with fail
  refine ht1.out.mono ?_
  rintro e w3 ⟨rfl, hb3⟩
  have ht2 := (Htx.out w3 hb3).2
  have hbb := hiD (hb.out.trans (hb3.mono hb.out.size))
  have Hc3 := hiD ((hb3.cell (p := ⟨w.heap.size, 0, none⟩) Hlt.out).trans Hc2.out)
  have Hlt3 := hiD (Nat.lt_of_lt_of_le Hlt.out hb3.size)
  clear hb3 ht1
  go_wp2_with fail
  refine ht2.out.mono ?_
  rintro e w4 ⟨rfl, hb4⟩
  have hbw := hiD (hbb.out.trans (hb4.mono hbb.out.size))
  have hc4 := (hb4.cell (p := ⟨w.heap.size, 0, none⟩) Hlt3.out).trans Hc3.out
  clear hb4 ht2
  go_wp2_with fail
  go_ret2
  exact ⟨hbw.out, rfl⟩
theorem ratText_far2 (s : Bool) (u v : Value) (D : Nat) (w : World) (hD : (D : Int) ≤ 100000) (L : Nat) (hL : (D : Int) / 19 + 1 = L) (s1 s2 : ByteArray) (hlow : ∀ W : World, Below w.heap.size w W → Hid (Calls Tryz.prog 157 #[u, v, .int .i64 L] W (LowOk s1 s2 W))) (h1 : ¬ D < s1.size) (h2 : D < s2.size) : Calls Tryz.prog 117 #[.agg #[.bool s, u, v], .int .i64 D] w (TextPost (none) w) := by
  have hb1 := hiD (bea w (.cells #[.bool s, u, v] 66))
  have hc1 : (w.alloc (.cells #[.bool s, u, v] 66)).cell? ⟨w.heap.size, 0, none⟩ = some (.bool s) := ceh (heap_new _ _) 0
  have Hc1 := hiD hc1
  have hl := hlow _ hb1.out
  clear hlow hc1
  go_enter Tryz.func117, Tryz.ntmps117
  go_wp2_with fail
  refine hl.out.mono ?_
  rintro e w2 ⟨hb2, tv, uv, rfl, htx⟩
  have hb := hiD (hb1.out.trans (hb2.mono hb1.out.size))
  have Hc2 := hiD (hb2.cell (p := ⟨w.heap.size, 0, none⟩) (by simp) |>.trans Hc1.out)
  have Hlt := hiD (show w.heap.size < w2.heap.size by have := hb2.size; simp at this; omega)
  have ht1 := (htx w2 (Below.refl _ _)).1
  have Htx := hiD htx
  clear hb2 htx
  go_wp2_with fail
  refine ht1.out.mono ?_
  rintro e w3 ⟨rfl, hb3⟩
  have ht2 := (Htx.out w3 hb3).2
  have hbb := hiD (hb.out.trans (hb3.mono hb.out.size))
  have Hc3 := hiD ((hb3.cell (p := ⟨w.heap.size, 0, none⟩) Hlt.out).trans Hc2.out)
  have Hlt3 := hiD (Nat.lt_of_lt_of_le Hlt.out hb3.size)
  clear hb3 ht1
  go_wp2_with fail
  refine ht2.out.mono ?_
  rintro e w4 ⟨rfl, hb4⟩
  have hbw := hiD (hbb.out.trans (hb4.mono hbb.out.size))
  have hc4 := (hb4.cell (p := ⟨w.heap.size, 0, none⟩) Hlt3.out).trans Hc3.out
  clear hb4 ht2
  go_wp2_with fail
  go_ret2
  exact ⟨hbw.out, rfl⟩
theorem frac_tt (s1 s2 : ByteArray) (w : World) (hz1 : (s1.size : Int) ≤ 100000) (hone : (s2.toList == [49]) = true) (_hz2 : (s2.size : Int) ≤ 100000) : Calls Tryz.prog 159 #[.bool true, .string s1, .string s2] w (fun e w' => w = w' ∧ e = .returned (.string (⟨#[45]⟩ ++ s1))) := by
  go_enter Tryz.func159, Tryz.ntmps159
  go_wp2_with fail
  go_ret
  exact ⟨rfl, rfl⟩
theorem frac_tf (s1 s2 : ByteArray) (w : World) (hz1 : (s1.size : Int) ≤ 100000) (hone : (s2.toList == [49]) = false) (hz2 : (s2.size : Int) ≤ 100000) : Calls Tryz.prog 159 #[.bool true, .string s1, .string s2] w (fun e w' => w = w' ∧ e = .returned (.string (⟨#[45]⟩ ++ s1 ++ (⟨#[47]⟩ ++ s2)))) := by
  go_enter Tryz.func159, Tryz.ntmps159
  go_wp2_with fail
  go_ret
  exact ⟨rfl, rfl⟩
theorem frac_ft (s1 s2 : ByteArray) (w : World) (_hz1 : (s1.size : Int) ≤ 100000) (hone : (s2.toList == [49]) = true) (_hz2 : (s2.size : Int) ≤ 100000) : Calls Tryz.prog 159 #[.bool false, .string s1, .string s2] w (fun e w' => w = w' ∧ e = .returned (.string (s1))) := by
  go_enter Tryz.func159, Tryz.ntmps159
  go_wp2_with fail
  go_ret
  exact ⟨rfl, rfl⟩
theorem frac_ff (s1 s2 : ByteArray) (w : World) (hz1 : (s1.size : Int) ≤ 100000) (hone : (s2.toList == [49]) = false) (hz2 : (s2.size : Int) ≤ 100000) : Calls Tryz.prog 159 #[.bool false, .string s1, .string s2] w (fun e w' => w = w' ∧ e = .returned (.string (s1 ++ (⟨#[47]⟩ ++ s2)))) := by
  go_enter Tryz.func159, Tryz.ntmps159
  go_wp2_with fail
  go_ret
  exact ⟨rfl, rfl⟩
theorem ratText_near_tt (u v : Value) (D : Nat) (w : World) (hD : (D : Int) ≤ 100000) (L : Nat) (hL : (D : Int) / 19 + 1 = L) (s1 s2 : ByteArray) (hlow : ∀ W : World, Below w.heap.size w W → Hid (Calls Tryz.prog 157 #[u, v, .int .i64 L] W (LowOk s1 s2 W))) (h1 : ¬ D < s1.size) (h2 : ¬ D < s2.size) (hz1 : (s1.size : Int) ≤ 100000) (hone : (s2.toList == [49]) = true) (_hz2 : (s2.size : Int) ≤ 100000) : Calls Tryz.prog 117 #[.agg #[.bool true, u, v], .int .i64 D] w (fun e w' => e = .returned (.tuple #[.string (⟨#[45]⟩ ++ s1), .bool true]) ∧ Below w.heap.size w w') := by
  have hb1 := hiD (bea w (.cells #[.bool true, u, v] 66))
  have hc1 : (w.alloc (.cells #[.bool true, u, v] 66)).cell? ⟨w.heap.size, 0, none⟩ = some (.bool true) := ceh (heap_new _ _) 0
  have Hc1 := hiD hc1
  have hl := hlow _ hb1.out
  clear hlow hc1
  go_enter Tryz.func117, Tryz.ntmps117
  go_wp2_with fail
  refine hl.out.mono ?_
  rintro e w2 ⟨hb2, tv, uv, rfl, htx⟩
  have hb := hiD (hb1.out.trans (hb2.mono hb1.out.size))
  have Hc2 := hiD (hb2.cell (p := ⟨w.heap.size, 0, none⟩) (by simp) |>.trans Hc1.out)
  have Hlt := hiD (show w.heap.size < w2.heap.size by have := hb2.size; simp at this; omega)
  have ht1 := (htx w2 (Below.refl _ _)).1
  have Htx := hiD htx
  clear hb2 htx
  go_wp2_with fail
  refine ht1.out.mono ?_
  rintro e w3 ⟨rfl, hb3⟩
  have ht2 := (Htx.out w3 hb3).2
  have hbb := hiD (hb.out.trans (hb3.mono hb.out.size))
  have Hc3 := hiD ((hb3.cell (p := ⟨w.heap.size, 0, none⟩) Hlt.out).trans Hc2.out)
  have Hlt3 := hiD (Nat.lt_of_lt_of_le Hlt.out hb3.size)
  clear hb3 ht1
  go_wp2_with fail
  refine ht2.out.mono ?_
  rintro e w4 ⟨rfl, hb4⟩
  have hbw := hiD (hbb.out.trans (hb4.mono hbb.out.size))
  have hc4 := (hb4.cell (p := ⟨w.heap.size, 0, none⟩) Hlt3.out).trans Hc3.out
  clear hb4 ht2
  have hz := hiD (frac_tt s1 s2 w4 hz1 hone _hz2)
  go_wp2_with fail
  refine hz.out.mono ?_
  rintro e w' ⟨rfl, rfl⟩
  go_wp2_with fail
  go_ret2
  exact ⟨rfl, hbw.out⟩
theorem ratText_near_tf (u v : Value) (D : Nat) (w : World) (hD : (D : Int) ≤ 100000) (L : Nat) (hL : (D : Int) / 19 + 1 = L) (s1 s2 : ByteArray) (hlow : ∀ W : World, Below w.heap.size w W → Hid (Calls Tryz.prog 157 #[u, v, .int .i64 L] W (LowOk s1 s2 W))) (h1 : ¬ D < s1.size) (h2 : ¬ D < s2.size) (hz1 : (s1.size : Int) ≤ 100000) (hone : (s2.toList == [49]) = false) (hz2 : (s2.size : Int) ≤ 100000) : Calls Tryz.prog 117 #[.agg #[.bool true, u, v], .int .i64 D] w (fun e w' => e = .returned (.tuple #[.string (⟨#[45]⟩ ++ s1 ++ (⟨#[47]⟩ ++ s2)), .bool true]) ∧ Below w.heap.size w w') := by
  have hb1 := hiD (bea w (.cells #[.bool true, u, v] 66))
  have hc1 : (w.alloc (.cells #[.bool true, u, v] 66)).cell? ⟨w.heap.size, 0, none⟩ = some (.bool true) := ceh (heap_new _ _) 0
  have Hc1 := hiD hc1
  have hl := hlow _ hb1.out
  clear hlow hc1
  go_enter Tryz.func117, Tryz.ntmps117
  go_wp2_with fail
  refine hl.out.mono ?_
  rintro e w2 ⟨hb2, tv, uv, rfl, htx⟩
  have hb := hiD (hb1.out.trans (hb2.mono hb1.out.size))
  have Hc2 := hiD (hb2.cell (p := ⟨w.heap.size, 0, none⟩) (by simp) |>.trans Hc1.out)
  have Hlt := hiD (show w.heap.size < w2.heap.size by have := hb2.size; simp at this; omega)
  have ht1 := (htx w2 (Below.refl _ _)).1
  have Htx := hiD htx
  clear hb2 htx
  go_wp2_with fail
  refine ht1.out.mono ?_
  rintro e w3 ⟨rfl, hb3⟩
  have ht2 := (Htx.out w3 hb3).2
  have hbb := hiD (hb.out.trans (hb3.mono hb.out.size))
  have Hc3 := hiD ((hb3.cell (p := ⟨w.heap.size, 0, none⟩) Hlt.out).trans Hc2.out)
  have Hlt3 := hiD (Nat.lt_of_lt_of_le Hlt.out hb3.size)
  clear hb3 ht1
  go_wp2_with fail
  refine ht2.out.mono ?_
  rintro e w4 ⟨rfl, hb4⟩
  have hbw := hiD (hbb.out.trans (hb4.mono hbb.out.size))
  have hc4 := (hb4.cell (p := ⟨w.heap.size, 0, none⟩) Hlt3.out).trans Hc3.out
  clear hb4 ht2
  have hz := hiD (frac_tf s1 s2 w4 hz1 hone hz2)
  go_wp2_with fail
  refine hz.out.mono ?_
  rintro e w' ⟨rfl, rfl⟩
  go_wp2_with fail
  go_ret2
  exact ⟨rfl, hbw.out⟩
theorem ratText_near_ft (u v : Value) (D : Nat) (w : World) (hD : (D : Int) ≤ 100000) (L : Nat) (hL : (D : Int) / 19 + 1 = L) (s1 s2 : ByteArray) (hlow : ∀ W : World, Below w.heap.size w W → Hid (Calls Tryz.prog 157 #[u, v, .int .i64 L] W (LowOk s1 s2 W))) (h1 : ¬ D < s1.size) (h2 : ¬ D < s2.size) (_hz1 : (s1.size : Int) ≤ 100000) (hone : (s2.toList == [49]) = true) (_hz2 : (s2.size : Int) ≤ 100000) : Calls Tryz.prog 117 #[.agg #[.bool false, u, v], .int .i64 D] w (fun e w' => e = .returned (.tuple #[.string s1, .bool true]) ∧ Below w.heap.size w w') := by
  have hb1 := hiD (bea w (.cells #[.bool false, u, v] 66))
  have hc1 : (w.alloc (.cells #[.bool false, u, v] 66)).cell? ⟨w.heap.size, 0, none⟩ = some (.bool false) := ceh (heap_new _ _) 0
  have Hc1 := hiD hc1
  have hl := hlow _ hb1.out
  clear hlow hc1
  go_enter Tryz.func117, Tryz.ntmps117
  go_wp2_with fail
  refine hl.out.mono ?_
  rintro e w2 ⟨hb2, tv, uv, rfl, htx⟩
  have hb := hiD (hb1.out.trans (hb2.mono hb1.out.size))
  have Hc2 := hiD (hb2.cell (p := ⟨w.heap.size, 0, none⟩) (by simp) |>.trans Hc1.out)
  have Hlt := hiD (show w.heap.size < w2.heap.size by have := hb2.size; simp at this; omega)
  have ht1 := (htx w2 (Below.refl _ _)).1
  have Htx := hiD htx
  clear hb2 htx
  go_wp2_with fail
  refine ht1.out.mono ?_
  rintro e w3 ⟨rfl, hb3⟩
  have ht2 := (Htx.out w3 hb3).2
  have hbb := hiD (hb.out.trans (hb3.mono hb.out.size))
  have Hc3 := hiD ((hb3.cell (p := ⟨w.heap.size, 0, none⟩) Hlt.out).trans Hc2.out)
  have Hlt3 := hiD (Nat.lt_of_lt_of_le Hlt.out hb3.size)
  clear hb3 ht1
  go_wp2_with fail
  refine ht2.out.mono ?_
  rintro e w4 ⟨rfl, hb4⟩
  have hbw := hiD (hbb.out.trans (hb4.mono hbb.out.size))
  have hc4 := (hb4.cell (p := ⟨w.heap.size, 0, none⟩) Hlt3.out).trans Hc3.out
  clear hb4 ht2
  have hz := hiD (frac_ft s1 s2 w4 _hz1 hone _hz2)
  go_wp2_with fail
  refine hz.out.mono ?_
  rintro e w' ⟨rfl, rfl⟩
  go_wp2_with fail
  go_ret2
  exact ⟨rfl, hbw.out⟩
theorem ratText_near_ff (u v : Value) (D : Nat) (w : World) (hD : (D : Int) ≤ 100000) (L : Nat) (hL : (D : Int) / 19 + 1 = L) (s1 s2 : ByteArray) (hlow : ∀ W : World, Below w.heap.size w W → Hid (Calls Tryz.prog 157 #[u, v, .int .i64 L] W (LowOk s1 s2 W))) (h1 : ¬ D < s1.size) (h2 : ¬ D < s2.size) (hz1 : (s1.size : Int) ≤ 100000) (hone : (s2.toList == [49]) = false) (hz2 : (s2.size : Int) ≤ 100000) : Calls Tryz.prog 117 #[.agg #[.bool false, u, v], .int .i64 D] w (fun e w' => e = .returned (.tuple #[.string (s1 ++ (⟨#[47]⟩ ++ s2)), .bool true]) ∧ Below w.heap.size w w') := by
  have hb1 := hiD (bea w (.cells #[.bool false, u, v] 66))
  have hc1 : (w.alloc (.cells #[.bool false, u, v] 66)).cell? ⟨w.heap.size, 0, none⟩ = some (.bool false) := ceh (heap_new _ _) 0
  have Hc1 := hiD hc1
  have hl := hlow _ hb1.out
  clear hlow hc1
  go_enter Tryz.func117, Tryz.ntmps117
  go_wp2_with fail
  refine hl.out.mono ?_
  rintro e w2 ⟨hb2, tv, uv, rfl, htx⟩
  have hb := hiD (hb1.out.trans (hb2.mono hb1.out.size))
  have Hc2 := hiD (hb2.cell (p := ⟨w.heap.size, 0, none⟩) (by simp) |>.trans Hc1.out)
  have Hlt := hiD (show w.heap.size < w2.heap.size by have := hb2.size; simp at this; omega)
  have ht1 := (htx w2 (Below.refl _ _)).1
  have Htx := hiD htx
  clear hb2 htx
  go_wp2_with fail
  refine ht1.out.mono ?_
  rintro e w3 ⟨rfl, hb3⟩
  have ht2 := (Htx.out w3 hb3).2
  have hbb := hiD (hb.out.trans (hb3.mono hb.out.size))
  have Hc3 := hiD ((hb3.cell (p := ⟨w.heap.size, 0, none⟩) Hlt.out).trans Hc2.out)
  have Hlt3 := hiD (Nat.lt_of_lt_of_le Hlt.out hb3.size)
  clear hb3 ht1
  go_wp2_with fail
  refine ht2.out.mono ?_
  rintro e w4 ⟨rfl, hb4⟩
  have hbw := hiD (hbb.out.trans (hb4.mono hbb.out.size))
  have hc4 := (hb4.cell (p := ⟨w.heap.size, 0, none⟩) Hlt3.out).trans Hc3.out
  clear hb4 ht2
  have hz := hiD (frac_ff s1 s2 w4 hz1 hone hz2)
  go_wp2_with fail
  refine hz.out.mono ?_
  rintro e w' ⟨rfl, rfl⟩
  go_wp2_with fail
  go_ret2
  exact ⟨rfl, hbw.out⟩
end Go.Proofs.YtoegbjmoecbjdaaGreatDoor
