/-  -/
import Derived.Test.YtoegbjmoecbjdaaGreatDoorPart06
import Derived.Lib.CutLaws
set_option maxHeartbeats 1600000
set_option maxRecDepth 100000
namespace Go.Proofs.YtoegbjmoecbjdaaGreatDoor
open Go.RowKit Big
def isDig (b : UInt8) : Bool := 48 ≤ b.toNat && b.toNat ≤ 57
def allDig (l : List UInt8) : Bool := l.all isDig && !l.isEmpty
theorem all_take_succ (l : List UInt8) (k : Nat) (h : k < l.length) (ha : (l.take k).all isDig = true) (hd : isDig l[k] = true) : (l.take (k + 1)).all isDig = true := by
  rw [List.take_succ_eq_append_getElem h, List.all_append, ha]; simp [hd]
theorem not_all (l : List UInt8) (k : Nat) (h : k < l.length) (hd : isDig l[k] = false) : allDig l = false := by
  have : l.all isDig = false := by
    rw [List.all_eq_false]; exact ⟨l[k], List.getElem_mem h, by simp [hd]⟩
  simp [allDig, this]
theorem isDigits_any (s : ByteArray) (w : World) (hs : (s.size : Int) ≤ 9223372036854775807) :
    Calls Tryz.prog 112 #[.string s] w fun e w' => e = .returned (.bool (allDig s.data.toList)) ∧ w = w' := by
  go_enter Tryz.func112, Tryz.ntmps112
  go_wp2_with fail
  go_loop [6] (fun i => ∃ k : Nat, k ≤ s.size ∧ i = .int .i64 k ∧ Hid ((s.data.toList.take k).all isDig = true)) (fun i => s.size - (intOf i).toNat)
  case atStart => exact ⟨0, Nat.zero_le _, rfl, hiD (by simp)⟩
  case round =>
    obtain ⟨k, hk, rfl, hall⟩ := hrel
    by_cases hlt : k < s.size
    · have hkl : k < s.data.toList.length := by simpa using hlt
      have hb : Hid (∀ d, isDig s[k] = d → isDig s.data.toList[k] = d) := hiD (fun d h => h)
      by_cases h1 : (s[k].toNat : Int) < 48
      · have hf : Hid (allDig s.data.toList = false) := hiD (not_all _ k hkl (hb.out _ (by simp [isDig]; omega)))
        go_wp2
        go_ret
        exact ⟨by rw [hf.out]; rfl, rfl⟩
      · by_cases h2 : (57 : Int) < s[k].toNat
        · have hf : Hid (allDig s.data.toList = false) := hiD (not_all _ k hkl (hb.out _ (by simp [isDig]; omega)))
          go_wp2
          go_ret
          exact ⟨by rw [hf.out]; rfl, rfl⟩
        · have hn : Hid ((s.data.toList.take (k + 1)).all isDig = true) := hiD (all_take_succ _ k hkl hall.out (hb.out _ (by simp [isDig]; omega)))
          go_wp2
          go_round
          case rel => exact ⟨k + 1, by omega, by go_num, hn⟩
          case measure => simp [intOf]; omega
    · obtain rfl : k = s.size := by omega
      have hf : Hid (allDig s.data.toList = !s.data.toList.isEmpty) := hiD (by
        have := hall.out
        rw [List.take_of_length_le (by simp)] at this
        simp only [allDig, this, Bool.true_and])
      go_wp2
      go_ret
      exact ⟨ret_bool (by rw [hf.out, Lib.toList_data]), rfl⟩
def U19 : Nat := 10000000000000000000
theorem U19_eq : U19 = 10000000000000000000 := rfl
def appPost (g n : Nat) (t : TypeId) (L : List Nat) (f : Nat) (w : World) (e : Ending) (w' : World) : Prop :=
  ∃ L' c : _, L'.length = n ∧ Dig B64 L' ∧ val B64 L' + B64 ^ n * c = val B64 L * U19 + f ∧ e = .returned (.tuple #[]) ∧ Only g w w' ∧ Row w' g t L'
theorem app_step {B p U z V f d lo hi lo2 c1 a : Nat} (h : z + p * d = V * U + f) (hm : lo + B * hi = a * U) (h1 : lo2 + B * c1 = lo + d + 0) : (z + p * lo2) + p * B * (hi + c1) = (V + p * a) * U + f := by
  have e1 : p * (lo2 + B * c1) = p * (lo + d + 0) := by rw [h1]
  have e2 : p * (lo + B * hi) = p * (a * U) := by rw [hm]
  grind
theorem appendDigits_any (g n cap : Nat) (t : TypeId) (L : List Nat) (f : Nat) (w : World) (hn : n ≤ most) (hL : L.length = n) (hz : Row w g t L) (dL : Dig B64 L) (df : f < B64) :
    Calls Tryz.prog 156 #[.slice (some ⟨g, 0, none⟩) n cap, .int .u64 f] w (appPost g n t L f w) := by
  have hn' : (n : Int) ≤ 4294967296 := by unfold most at hn; omega
  have HL := hiD hL
  clear hL
  go_enter Tryz.func156, Tryz.ntmps156
  go_wp2
  go_loopw [4, 12] (fun cy i wr => ∃ (k : Nat) (L' : List Nat) (d : Nat), k ≤ n ∧ i = .int .i64 k ∧ cy = .int .u64 d ∧ Hid (d < B64 ∧ Put L 0 k L' ∧ Dig B64 L' ∧ val B64 (L'.take k) + B64 ^ k * d = val B64 (L.take k) * U19 + f) ∧ Only g w wr ∧ Row wr g t L') (fun _ i _ => n - (intOf i).toNat)
  case atStart => exact ⟨0, L, f, Nat.zero_le _, rfl, rfl, hiD ⟨df, Put.refl _ _, dL, by simp [val]⟩, Only.refl _ _, hz⟩
  case round =>
    obtain ⟨k, L', d, hk, rfl, rfl, hinv, ho, hr⟩ := hrel
    by_cases hlt : k < n
    · have hc := hr.cell k (by rw [hinv.out.2.1.length, HL.out]; exact hlt)
      have hf := hr.free k
      obtain ⟨a, ha⟩ : ∃ a, Hid (L'.getD k 0 = a) := ⟨_, hiD rfl⟩
      rw [ha.out] at hc
      have da : a < B64 := by rw [← ha.out]; exact hinv.out.2.2.1.getD B64_pos k
      obtain ⟨hi, lo, hmul, hlo, hhi, hcall⟩ := mul64 a U19 da (by rw [U19_eq, B64_eq]; omega)
      obtain ⟨lo2, c1, h1, hlo2, hc1, hrun1⟩ := add64 lo d 0 (by omega) hlo hinv.out.1
      have Hcall : Hid (∀ w : World, Calls Tryz.prog 180 #[.int .u64 a, .int .u64 10000000000000000000] w fun e w' => e = .returned (.tuple #[.int .u64 (hi : Int), .int .u64 (lo : Int)]) ∧ w = w') := hiD hcall
      clear hcall
      rw [show ((0 : Nat) : Int) = 0 from rfl] at hrun1
      have b1 : (hi : Int) + c1 ≤ 18446744073709551615 := by rw [B64_eq] at hhi; omega
      have hinv2 : Hid (hi + c1 < B64 ∧ Put L 0 (k + 1) (L'.set k lo2) ∧ Dig B64 (L'.set k lo2) ∧ val B64 ((L'.set k lo2).take (k + 1)) + B64 ^ (k + 1) * (hi + c1) = val B64 (L.take (k + 1)) * U19 + f) := hiD (by
        obtain ⟨i1, i2, i3, i4⟩ := hinv.out
        have hp := i2.set lo2
        rw [Nat.zero_add] at hp
        have hk2 : k < L'.length := by rw [i2.length, HL.out]; exact hlt
        have hLa : L.getD k 0 = a := by rw [← i2.getD k (by omega)]; exact ha.out
        have hg : (L'.set k lo2).getD k 0 = lo2 := by rw [List.getD_eq_getElem?_getD, List.getElem?_set_self hk2]; rfl
        refine ⟨by omega, hp, i3.set k lo2 hlo2, ?_⟩
        rw [val_take_succD, val_take_succD, List.take_set_of_le (Nat.le_refl _), hg, hLa, Nat.pow_succ]
        exact app_step i4 hmul.out h1.out)
      clear hmul h1 hlo hhi hlo2 hc1
      go_wp2_with (go_at_call 180; refine (Hcall.out _).mono ?_; rintro e w' ⟨rfl, rfl⟩)
      go_roundw
      case rel => exact ⟨k + 1, _, hi + c1, by omega, by go_num, by go_num, hinv2, ho.setCell _ _, hr.set _ _⟩
      case measure => simp [intOf]; omega
    · obtain rfl : k = n := by omega
      have hfin : Hid (appPost g k t L f w (.returned (.tuple #[])) wr) := hiD (by
        obtain ⟨i1, i2, i3, i4⟩ := hinv.out
        rw [List.take_of_length_le (by rw [i2.length, HL.out]; omega), List.take_of_length_le (by rw [HL.out]; omega)] at i4
        exact ⟨L', d, by rw [i2.length]; exact HL.out, i3, i4, rfl, ho, hr⟩)
      go_wp2
      go_end0
      exact hfin.out
def dval (l : List UInt8) : Nat := l.foldl (fun a b => a * 10 + (b.toNat - 48)) 0
theorem foldl_dval (l : List UInt8) (a : Nat) : l.foldl (fun a b => a * 10 + (b.toNat - 48)) a = a * 10 ^ l.length + dval l := by
  induction l generalizing a with
  | nil => simp [dval]
  | cons x l ih =>
    have h1 := ih (a * 10 + (x.toNat - 48))
    have h2 := ih (0 * 10 + (x.toNat - 48))
    show l.foldl _ (a * 10 + (x.toNat - 48)) = a * 10 ^ (l.length + 1) + l.foldl _ (0 * 10 + (x.toNat - 48))
    rw [h1, h2, Nat.pow_succ]; grind
theorem dval_append (a b : List UInt8) : dval (a ++ b) = dval a * 10 ^ b.length + dval b := by
  unfold dval; rw [List.foldl_append, foldl_dval]; rfl
theorem dig_le {b : UInt8} (h : isDig b = true) : b.toNat - 48 ≤ 9 ∧ 48 ≤ b.toNat ∧ b.toNat ≤ 57 := by
  simp [isDig] at h; omega
theorem dval_lt (l : List UInt8) (h : l.all isDig = true) : dval l < 10 ^ l.length := by
  induction l with
  | nil => simp [dval]
  | cons x l ih =>
    rw [List.all_cons, Bool.and_eq_true] at h
    have h1 := ih h.2
    have h2 := (dig_le h.1).1
    have h3 : dval (x :: l) = (x.toNat - 48) * 10 ^ l.length + dval l := by
      have := dval_append [x] l
      simpa [dval] using this
    rw [h3, List.length_cons, Nat.pow_succ]
    have h4 : (x.toNat - 48) * 10 ^ l.length ≤ 9 * 10 ^ l.length := Nat.mul_le_mul_right _ h2
    omega
theorem parseM_ok (l : List UInt8) (acc : Nat) (h : l.all isDig = true) (hacc : acc < 10 ^ (19 - l.length)) (hl : l.length ≤ 19) : Lib.parseUintM (2 ^ 64 - 1) acc l = .ok (acc * 10 ^ l.length + dval l) := by
  induction l generalizing acc with
  | nil => simp [Lib.parseUintM, dval]
  | cons x l ih =>
    rw [List.all_cons, Bool.and_eq_true] at h
    obtain ⟨h1, h2, h3⟩ := dig_le h.1
    rw [List.length_cons] at hl hacc
    have h18 : acc < 10 ^ 18 := Nat.lt_of_lt_of_le hacc (Nat.pow_le_pow_right (by omega) (by omega))
    have hnext : acc * 10 + (x.toNat - 48) < 10 ^ (19 - l.length) := by
      have e : 19 - l.length = (19 - (l.length + 1)) + 1 := by omega
      rw [e, Nat.pow_succ]; omega
    have h3' : dval (x :: l) = (x.toNat - 48) * 10 ^ l.length + dval l := by
      have := dval_append [x] l
      simpa [dval] using this
    unfold Lib.parseUintM
    rw [if_pos ⟨h2, h3⟩, if_neg (by omega), if_neg (by omega), ih _ h.2 hnext (by omega), h3', List.length_cons, Nat.pow_succ]
    congr 1
    grind
theorem parse_ok (l : List UInt8) (h : l.all isDig = true) (h0 : l ≠ []) (hl : l.length ≤ 19) : Lib.parseUintB 64 l = .ok (dval l) := by
  unfold Lib.parseUintB
  rw [if_neg h0, parseM_ok l 0 h (Nat.pow_pos (by omega)) hl]; simp
theorem below_bytesWorld (w : World) (E : TypeId) (s : ByteArray) : Below w.heap.size w (Lib.bytesWorld w E s) := by
  have h : ∀ (W : World) (a : Addr) (n : Nat), Below a.block W (W.freeze a n) := by
    intro W a n
    unfold World.freeze
    split
    · exact Below.refl _ _
    · exact ⟨rfl, rfl, rfl, by simp, fun k hk => by simp [Array.getElem?_modify]; omega⟩
  unfold Lib.bytesWorld
  exact (((Below.refl _ _).drew).alloc (by simp) _).trans (h (w.drew.alloc _) ⟨w.heap.size, _, none⟩ 1)
def strLen : Value → Nat | .string d => d.size | _ => 0
theorem naturalOf_any (s : ByteArray) (w : World) (hs : s.size ≤ 100000) (hd : s.data.toList.all isDig = true) : Calls Tryz.prog 115 #[.string s] w (NatPost (dval s.data.toList) w) := by
  obtain ⟨i0, hi, hz0, hz1, hz2⟩ := info_parts info79
  have hs' : (s.size : Int) ≤ 100000 := by omega
  obtain ⟨N, hN⟩ : ∃ N, Hid (N = s.size / 19 + 1) := ⟨_, hiD rfl⟩
  have hNI : (s.size : Int) / 19 + 1 = (N : Int) := by rw [hN.out]; omega
  have hNle : N ≤ 10000 := by rw [hN.out]; omega
  have Hd := hiD hd
  clear hd
  go_enter Tryz.func115, Tryz.ntmps115
  go_wp2_with (at_make; refine wpList_make_full _ rfl _ _ 64 rfl w.heap.size 76 i0 (.int .u64 0) 1 Tryz.underlying64 hi hz0 hz1 _ _ _ _ N rfl rfl (by omega) (by omega) ?b2 ?b3 (Nat.le_refl _) ?_)
  case b2 => rw [hz2]; omega
  case b3 => unfold maxLen; omega
  intro w1 hown hgrow
  have hr1 : Row w1 w.heap.size 76 (List.replicate N 0) := row_of_made hown
  have hb1 : Below w.heap.size w w1 := (Below.refl _ _).grown hgrow (Nat.le_refl _) (fun k h => by cases h)
  clear hown hgrow
  go_wp2_with fail
  go_loopw [0] (fun xv wr => ∃ (ds : ByteArray) (pre : List UInt8) (L : List Nat), xv = .string ds ∧ Row wr w.heap.size 76 L ∧ Below w.heap.size w wr ∧ (ds.size : Int) ≤ 100000 ∧ Hid (s.data.toList = pre ++ ds.data.toList ∧ L.length = N ∧ Dig B64 L ∧ val B64 L = dval pre ∧ (pre = [] ∨ ds.size % 19 = 0))) (fun xv _ => strLen xv)
  case atStart => exact ⟨s, [], _, rfl, hr1, hb1, hs', hiD ⟨rfl, by simp, Dig.zeros B64_pos _, by rw [val_zeros]; rfl, .inl rfl⟩⟩
  case round =>
    obtain ⟨ds, pre, L, rfl, hr, hb, hds, hinv⟩ := hrel
    by_cases h0 : ds.size = 0
    · have he : ds.toList.isEmpty = true := by
        rw [Lib.toList_data, List.isEmpty_iff_length_eq_zero]; simpa using h0
      have hfin : Hid (val B64 L = dval s.data.toList ∧ L.length = N ∧ Dig B64 L) := hiD (by
        obtain ⟨i1, i2, i3, i4, i5⟩ := hinv.out
        have : ds.data.toList = [] := by apply List.eq_nil_of_length_eq_zero; simpa using h0
        rw [this, List.append_nil] at i1
        exact ⟨by rw [i1]; exact i4, i2, i3⟩)
      have ht := trimmed_nat (some ⟨w.heap.size, 0, none⟩) N N L w wr (by unfold maxLen; omega) (Nat.le_refl _) (hr.rd0 N hfin.out.2.1.symm) hfin.out.2.2 hb
      have Ht := hiD ht
      clear ht h0
      go_wp2_with fail
      refine Ht.out.mono ?_
      rintro e w4 ⟨v, rfl, hv⟩
      rw [hfin.out.1] at hv
      have Hv := hiD hv
      clear hv
      go_wp2_with fail
      go_ret
      exact ⟨v, rfl, Hv.out⟩
    · have he : ds.toList.isEmpty = false := by
        rw [Lib.toList_data, Bool.eq_false_iff]; intro h; rw [List.isEmpty_iff_length_eq_zero] at h; apply h0; simpa using h
      obtain ⟨q, hq⟩ : ∃ q, Hid (q = (ds.size - 1) % 19) := ⟨_, hiD rfl⟩
      have e1 : ((ds.size : Int) - 1) % 19 = (q : Int) := by rw [hq.out]; omega
      have hq18 : (q : Int) ≤ 18 := by rw [hq.out]; omega
      have hqs : (q : Int) + 1 ≤ ds.size := by rw [hq.out]; omega
      have hd1 : (1 : Int) ≤ ds.size := by omega
      clear h0
      obtain ⟨u, hu⟩ : ∃ u, Hid (u = dval (ds.data.toList.take (q + 1))) := ⟨_, hiD rfl⟩
      have hchunk : Hid (((ds.extract 0 (q + 1)).data.toList = ds.data.toList.take (q + 1)) ∧ (ds.data.toList.take (q + 1)).all isDig = true ∧ (ds.data.toList.take (q + 1)).length = q + 1 ∧ ds.data.toList.length = ds.size ∧ (pre ++ ds.data.toList.take (q + 1)).all isDig = true ∧ u < 10 ^ 19) := hiD (by
        have hl : ds.data.toList.length = ds.size := by simp
        have hall : (pre ++ ds.data.toList).all isDig = true := by rw [← hinv.out.1]; exact Hd.out
        rw [List.all_append, Bool.and_eq_true] at hall
        have ht : (ds.data.toList.take (q + 1)).all isDig = true := by
          rw [List.all_eq_true]; intro x hx
          exact (List.all_eq_true.1 hall.2) x (List.mem_of_mem_take hx)
        have hlen : (ds.data.toList.take (q + 1)).length = q + 1 := by rw [List.length_take, hl]; omega
        refine ⟨by rw [Lib.extract_data]; simp, ht, hlen, hl, by rw [List.all_append, hall.1, ht]; rfl, ?_⟩
        have h1 := dval_lt _ ht
        rw [hlen] at h1
        rw [hu.out]
        exact Nat.lt_of_lt_of_le h1 (Nat.pow_le_pow_right (by omega) (by omega)))
      have hparse : Hid (Calls Tryz.prog 155 #[.string (ds.extract 0 (q + 1)), .int .i64 10, .int .i64 64] wr fun e w' => e = .returned (.tuple #[.int .u64 (u : Int), .nilIface]) ∧ Below wr.heap.size wr w') := hiD (by
        obtain ⟨c1, c2, c3, c4, c5, c6⟩ := hchunk.out
        have hok : Lib.parseUintB 64 (ds.extract 0 (q + 1)).data.toList = .ok u := by
          rw [c1, hu.out]
          exact parse_ok _ c2 (by intro h; rw [h] at c3; simp at c3) (by omega)
        refine (Go.Proofs.Tryz.strconv_ParseUint_10_at64_ok _ ?_ u hok wr).mono ?_
        · have : (ds.extract 0 (q + 1)).size ≤ 100000 := by
            have h := congrArg List.length c1
            rw [c3] at h
            have h2 : (ds.extract 0 (q + 1)).data.toList.length = (ds.extract 0 (q + 1)).size := by simp
            omega
          omega
        · rintro e w' ⟨rfl, h | h⟩
          · exact ⟨rfl, by rw [h]; exact Below.refl _ _⟩
          · exact ⟨rfl, by rw [h]; exact below_bytesWorld _ _ _⟩)
      have huB : u < B64 := Nat.lt_of_lt_of_le hchunk.out.2.2.2.2.2 (by rw [B64_eq]; decide)
      go_wp2_with fail
      refine hparse.out.mono ?_
      rintro e w2 ⟨rfl, hb2⟩
      have hr2 : Row w2 w.heap.size 76 L := Below.row hb2 hr hr.lt
      have happ : Hid (Calls Tryz.prog 156 #[.slice (some ⟨w.heap.size, 0, none⟩) N N, .int .u64 (u : Int)] w2 (appPost w.heap.size N 76 L u w2)) := hiD (appendDigits_any w.heap.size N N 76 L u w2 (by unfold most; omega) hinv.out.2.1 hr2 hinv.out.2.2.1 huB)
      have hbw2 := hb.trans (hb2.mono hb.size)
      clear hb2 hr hb huB
      go_wp2_with fail
      refine happ.out.mono ?_
      rintro e w3 ⟨L', c, hl', hd', hv', rfl, ho, hr3⟩
      have hinv2 : Hid (s.data.toList = (pre ++ ds.data.toList.take (q + 1)) ++ (ds.extract (q + 1) ds.size).data.toList ∧ L'.length = N ∧ Dig B64 L' ∧ val B64 L' = dval (pre ++ ds.data.toList.take (q + 1)) ∧ (pre ++ ds.data.toList.take (q + 1) = [] ∨ (ds.extract (q + 1) ds.size).size % 19 = 0)) := hiD (by
        obtain ⟨i1, i2, i3, i4, i5⟩ := hinv.out
        obtain ⟨c1, c2, c3, c4, c5, c6⟩ := hchunk.out
        have hdrop : (ds.extract (q + 1) ds.size).data.toList = ds.data.toList.drop (q + 1) := by
          rw [Lib.extract_data, List.take_of_length_le (by rw [List.length_drop, c4]; omega)]
        have hall : dval (pre ++ ds.data.toList.take (q + 1)) = val B64 L * U19 + u := by
          rw [dval_append, c3, ← hu.out, i4]
          rcases i5 with h | h
          · rw [h]; simp [dval]
          · have : q + 1 = 19 := by rw [hq.out]; omega
            rw [this]; rfl
        have hfit : dval (pre ++ ds.data.toList.take (q + 1)) < B64 ^ N := by
          have h1 := dval_lt _ c5
          have h2 : (pre ++ ds.data.toList.take (q + 1)).length ≤ 19 * N := by
            have h3 := congrArg List.length i1
            rw [List.length_append] at h3
            rw [List.length_append, c3]
            have h4 : s.data.toList.length = s.size := by simp
            have h5 := hN.out
            omega
          have h3 : 10 ^ (pre ++ ds.data.toList.take (q + 1)).length ≤ 10 ^ (19 * N) := Nat.pow_le_pow_right (by omega) h2
          have h4 : 10 ^ (19 * N) ≤ B64 ^ N := by rw [Nat.pow_mul]; exact Nat.pow_le_pow_left (by rw [B64_eq]; decide) N
          omega
        rw [← hall] at hv'
        have hc0 : c = 0 := by
          apply Nat.eq_zero_of_not_pos; intro hc
          have : B64 ^ N * 1 ≤ B64 ^ N * c := Nat.mul_le_mul_left _ hc
          omega
        rw [hc0, Nat.mul_zero, Nat.add_zero] at hv'
        refine ⟨by rw [hdrop, List.append_assoc, List.take_append_drop]; exact i1, hl', hd', hv', .inr ?_⟩
        have h6 : (ds.extract (q + 1) ds.size).size = ds.size - (q + 1) := by
          have h := congrArg List.length hdrop
          rw [List.length_drop, c4] at h
          have h2 : (ds.extract (q + 1) ds.size).data.toList.length = (ds.extract (q + 1) ds.size).size := by simp
          omega
        rw [h6, hq.out]; omega)
      have hsz : Hid ((ds.extract (q + 1) ds.size).size < ds.size ∧ ((ds.extract (q + 1) ds.size).size : Int) ≤ 100000) := hiD (by
        have h6 : (ds.extract (q + 1) ds.size).size = ds.size - (q + 1) := by simp
        rw [h6]; omega)
      have hb3 := Only.below hbw2 ho (Nat.le_refl _)
      clear hv' hd' hl'
      go_wp2_with fail
      go_roundw
      case rel => exact ⟨_, pre ++ ds.data.toList.take (q + 1), L', rfl, hr3, hb3, hsz.out.2, hinv2⟩
      case measure => exact hsz.out.1
theorem fraction_any (a : Bool) (s t : ByteArray) (w : World) (hs : s.size ≤ 100000) (ht : t.size ≤ 100000) (hds : s.data.toList.all isDig = true) (hdt : t.data.toList.all isDig = true) : Calls Tryz.prog 113 #[.bool a, .string s, .string t] w (RatPost a (dval s.data.toList) (dval t.data.toList) w) := by
  have hres := hiD (Res.start w)
  have h1 : ∀ W, Hid (Calls Tryz.prog 115 #[.string s] W (NatPost (dval s.data.toList) W)) := fun W => hiD (naturalOf_any s W hs hds)
  have h2 : ∀ W, Hid (Calls Tryz.prog 115 #[.string t] W (NatPost (dval t.data.toList) W)) := fun W => hiD (naturalOf_any t W ht hdt)
  generalize dval s.data.toList = n at h1 ⊢
  generalize dval t.data.toList = d at h2 ⊢
  clear hds hdt
  go_enter Tryz.func113, Tryz.ntmps113
  go_wp2_with fail
  refine (h1 _).out.mono ?_
  rintro e w2 ⟨v2, rfl, hv2, hb2⟩
  have hr2 := hiD (hres.out.next hb2)
  have Hv2 := hiD hv2
  clear hv2 hb2
  go_wp2_with fail
  refine (h2 _).out.mono ?_
  rintro e w3 ⟨v3, rfl, hv3, hb3⟩
  have hr3 := hiD (hr2.out.next hb3)
  have hv23 := hiD (Hv2.out.below hb3)
  have hsg : Hid (Calls Tryz.prog 129 #[.bool a, v2, v3] w3 fun e w' => e = .returned (.agg #[.bool (a && !(n == 0)), v2, v3]) ∧ Below w3.heap.size w3 w') :=
    hiD (signed_nat a _ _ n d _ hv23.out hv3)
  have Hv3 := hiD hv3
  clear hv3 hb3 Hv2
  go_wp2_with fail
  refine hsg.out.mono ?_
  rintro e w4 ⟨rfl, hb4⟩
  have htw := hr3.out.next hb4
  have hn4 := hv23.out.below hb4
  have hd4 := Hv3.out.below hb4
  obtain ⟨p2, n2, k2, rfl⟩ := hn4.slice
  obtain ⟨p3, n3, k3, rfl⟩ := hd4.slice
  obtain ⟨z0, z1, z2, l0, l1, l2, f0, f1, f2⟩ := htw.slots
  have q1 := htw.nat3 (Nat.le_refl _) hn4 (a && !(n == 0)) p2 p3 n2 k2 n3 k3
  have q2 := htw.nat3 (Nat.le_refl _) hd4 (a && !(n == 0)) p2 p3 n2 k2 n3 k3
  have q3 := (htw.put3 (Nat.le_refl _) (a && !(n == 0)) p2 p3 n2 k2 n3 k3).below
  have hfin : Hid (∀ W, W = (((w4.setCell ⟨w.heap.size, 0, none⟩ (.bool (a && !(n == 0)))).setCell ⟨w.heap.size, 1, none⟩ (.slice p2 n2 k2)).setCell ⟨w.heap.size, 2, none⟩ (.slice p3 n3 k3)) → RatPost a n d w (.returned (.agg #[.bool (a && !(n == 0)), .slice p2 n2 k2, .slice p3 n3 k3])) W) := hiD (by
    rintro W rfl
    exact ⟨_, rfl, ⟨_, _, rfl, q1, q2, by intro h; simp at h; omega⟩, q3⟩)
  clear htw q1 q2 q3 hn4 hd4 hv23 Hv3
  go_wp2_with fail
  refine bodyPost_ret (v := .agg #[.bool (a && !(n == 0)), .slice p2 n2 k2, .slice p3 n3 k3]) (by simp [results, Tryz.results113, go_sem, l0, l1, l2]) rfl ?_
  exact hfin.out _ rfl
theorem cut151_one (s : ByteArray) (c : UInt8) (w : World) (hs : (s.size : Int) ≤ 4294967280) :
    Calls Tryz.prog 148 #[.string s, .string ⟨#[c]⟩] w fun e w' => e = .returned (.tuple #[.string ⟨(Lib.cut s.data.toList [c]).1.toArray⟩, .string ⟨(Lib.cut s.data.toList [c]).2.1.toArray⟩, .bool (Lib.cut s.data.toList [c]).2.2]) ∧ ∃ n, w' = w.drewN n := by
  have hone : ∀ W, Hid (Calls Tryz.prog 178 #[.string s, .string ⟨#[c]⟩] W fun e w' => e = .returned (.int .i64 (Lib.indexByte s.data.toList c)) ∧ w' = W) := fun W => hiD (Go.Proofs.Tryz.stringslite_Index_one s c W)
  rw [← Lib.index_one] at hone
  rcases Lib.indexB_cases s ⟨#[c]⟩ with hix | ⟨i, hix, hroom⟩
  · obtain ⟨e1, e2, e3⟩ := Lib.cutB_miss s ⟨#[c]⟩ hix
    have hix' : Lib.index s.data.toList [c] = -1 := hix
    rw [hix'] at hone
    change _ = _ at e1
    have e1' : (⟨(Lib.cut s.data.toList [c]).1.toArray⟩ : ByteArray) = s := e1
    have e2' : (⟨(Lib.cut s.data.toList [c]).2.1.toArray⟩ : ByteArray) = ⟨#[]⟩ := e2
    have e3' : (Lib.cut s.data.toList [c]).2.2 = false := e3
    rw [e1', e2', e3']
    clear hix hix' e1 e2 e3 e1' e2' e3'
    go_enter Tryz.func148, Tryz.ntmps148
    go_wp2_with fail
    refine (hone _).out.mono ?_
    rintro e w' ⟨rfl, rfl⟩
    go_wp2_with fail
    go_ret3
    exact ⟨rfl, 0, rfl⟩
  · obtain ⟨e1, e2, e3⟩ := Lib.cutB_hit s ⟨#[c]⟩ i hix
    have hix' : Lib.index s.data.toList [c] = i := hix
    rw [hix'] at hone
    have e3' : (Lib.cut s.data.toList [c]).2.2 = true := e3
    have hsz : (⟨#[c]⟩ : ByteArray).size = 1 := rfl
    rw [hsz] at e2 hroom
    have Hfin : Hid (∀ r1 r2, r1 = s.extract 0 i → r2 = s.extract (i + 1) s.size → (⟨(Lib.cut s.data.toList [c]).1.toArray⟩ : ByteArray) = r1 ∧ (⟨(Lib.cut s.data.toList [c]).2.1.toArray⟩ : ByteArray) = r2) := hiD (by
      rintro r1 r2 rfl rfl; exact ⟨e1, e2⟩)
    rw [e3']
    clear hix hix' e1 e2 e3 e3'
    go_enter Tryz.func148, Tryz.ntmps148
    go_wp2_with fail
    refine (hone _).out.mono ?_
    rintro e w' ⟨rfl, rfl⟩
    go_wp2_with fail
    go_quiet (fail)
    go_wp2_with fail
    go_ret3
    obtain ⟨r1, r2⟩ := Hfin.out _ _ rfl rfl
    rw [r1, r2]
    exact ⟨rfl, _, rfl⟩
theorem cut_one (s : ByteArray) (c : UInt8) (w : World) (hs : (s.size : Int) ≤ 4294967280) :
    Calls Tryz.prog 111 #[.string s, .string ⟨#[c]⟩] w fun e w' => e = .returned (.tuple #[.string ⟨(Lib.cut s.data.toList [c]).1.toArray⟩, .string ⟨(Lib.cut s.data.toList [c]).2.1.toArray⟩, .bool (Lib.cut s.data.toList [c]).2.2]) ∧ ∃ n, w' = w.drewN n := by
  have h := hiD (cut151_one s c w hs)
  go_enter Tryz.func111, Tryz.ntmps111
  go_wp2_with fail
  refine h.out.mono ?_
  rintro e w' ⟨rfl, n, rfl⟩
  go_wp2_with fail
  go_ret3
  exact ⟨rfl, n, rfl⟩
def readAbs (l : List UInt8) : Option (Nat × Nat) :=
  if (Lib.cut l [46]).2.2 then
    if allDig (Lib.cut l [46]).1 && allDig (Lib.cut l [46]).2.1 then some (dval ((Lib.cut l [46]).1 ++ (Lib.cut l [46]).2.1), 10 ^ (Lib.cut l [46]).2.1.length) else none
  else if (Lib.cut l [47]).2.2 then
    if allDig (Lib.cut l [47]).1 && allDig (Lib.cut l [47]).2.1 && !(dval (Lib.cut l [47]).2.1 == 0) then some (dval (Lib.cut l [47]).1, dval (Lib.cut l [47]).2.1) else none
  else if allDig l then some (dval l, 1) else none
def readL (l : List UInt8) : Option (Bool × Nat × Nat) := (readAbs (Lib.trimPrefix l [45])).map fun p => (Lib.hasPrefix l [45], p.1, p.2)
def ReadPost (o : Option (Bool × Nat × Nat)) (w : World) (e : Ending) (w' : World) : Prop :=
  Below w.heap.size w w' ∧ match o with
  | some (s, n, d) => ∃ x, e = .returned (.tuple #[x, .bool true]) ∧ RatAt w' x (s && !(n == 0)) n d
  | none => e = .returned (.tuple #[.agg #[.bool false, .slice none 0 0, .slice none 0 0], .bool false])
theorem dval_ones (n : Nat) : dval (49 :: Lib.repeatL [48] n) = 10 ^ n ∧ (49 :: Lib.repeatL [48] n).all isDig = true := by
  have h : ∀ n, dval (Lib.repeatL [48] n) = 0 ∧ (Lib.repeatL [48] n).all isDig = true := by
    intro n
    induction n with
    | zero => exact ⟨rfl, rfl⟩
    | succ n ih =>
      constructor
      · show dval ([48] ++ Lib.repeatL [48] n) = 0
        rw [dval_append, ih.1]
        show (0 * 10 + (48 - 48)) * _ + 0 = 0
        simp
      · show ([48] ++ Lib.repeatL [48] n).all isDig = true
        rw [List.all_append, ih.2]; decide
  constructor
  · show dval ([49] ++ Lib.repeatL [48] n) = _
    rw [dval_append, (h n).1, Lib.repeatL_length]
    show (0 * 10 + (49 - 48)) * _ + 0 = _
    simp
  · show ([49] ++ Lib.repeatL [48] n).all isDig = true
    rw [List.all_append, (h n).2]; decide
theorem cut_len (l : List UInt8) (c : UInt8) : (Lib.cut l [c]).1.length ≤ l.length ∧ (Lib.cut l [c]).2.1.length ≤ l.length ∧ (Lib.cut l [c]).1.length + (Lib.cut l [c]).2.1.length ≤ l.length := by
  unfold Lib.cut
  split
  · simp; omega
  · simp
theorem allDig_all {l : List UInt8} (h : allDig l = true) : l.all isDig = true := by
  simp only [allDig, Bool.and_eq_true] at h
  first | exact h.1 | exact h.2
theorem trim_len (l : List UInt8) : (Lib.trimPrefix l [45]).length ≤ l.length := by
  unfold Lib.trimPrefix
  split
  · simp
  · exact Nat.le_refl _
def CutIs (r a b : ByteArray) (c : UInt8) (f : Bool) : Prop := ∀ W : World, Hid (Calls Tryz.prog 111 #[.string r, .string ⟨#[c]⟩] W fun e w' => e = .returned (.tuple #[.string a, .string b, .bool f]) ∧ Below W.heap.size W w')
def PreIs (s r : ByteArray) (f : Bool) : Prop := ∀ W : World, Hid (Calls Tryz.prog 110 #[.string s, .string ⟨#[45]⟩] W fun e w' => e = .returned (.tuple #[.string r, .bool f]) ∧ w' = W)
def DigIs (a : ByteArray) (f : Bool) : Prop := ∀ W : World, Hid (Calls Tryz.prog 112 #[.string a] W fun e w' => e = .returned (.bool f) ∧ W = w')
theorem read_dot_bad1 (s r a b : ByteArray) (neg : Bool) (w : World) (hp : PreIs s r neg) (hc : CutIs r a b 46 true) (ha : DigIs a false) : Calls Tryz.prog 63 #[.string s] w (ReadPost none w) := by
  have hres := hiD (Res.start w)
  go_enter Tryz.func63, Tryz.ntmps63
  go_wp2_with fail
  refine (hp _).out.mono ?_
  rintro e w2 ⟨rfl, rfl⟩
  go_wp2_with fail
  refine (hc _).out.mono ?_
  rintro e w3 ⟨rfl, b3⟩
  have hres3 := hiD (hres.out.next b3)
  obtain ⟨z0, z1, z2, l0, l1, l2, f0, f1, f2⟩ := hres3.out.slots
  have q3 := hiD (hres3.out.put3 (Nat.le_refl _) false none none 0 0 0 0).below
  go_wp2_with fail
  refine (ha _).out.mono ?_
  rintro e w4 ⟨rfl, rfl⟩
  go_wp2_with fail
  refine bodyPost_ret (v := .tuple #[.agg #[.bool false, .slice none 0 0, .slice none 0 0], .bool false]) (by simp [results, Tryz.results63, go_sem, l0, l1, l2]) rfl ?_
  exact ⟨q3.out, rfl⟩
theorem read_dot_bad2 (s r a b : ByteArray) (neg : Bool) (w : World) (hp : PreIs s r neg) (hc : CutIs r a b 46 true) (ha : DigIs a true) (hb : DigIs b false) : Calls Tryz.prog 63 #[.string s] w (ReadPost none w) := by
  have hres := hiD (Res.start w)
  go_enter Tryz.func63, Tryz.ntmps63
  go_wp2_with fail
  refine (hp _).out.mono ?_
  rintro e w2 ⟨rfl, rfl⟩
  go_wp2_with fail
  refine (hc _).out.mono ?_
  rintro e w3 ⟨rfl, b3⟩
  have hres3 := hiD (hres.out.next b3)
  obtain ⟨z0, z1, z2, l0, l1, l2, f0, f1, f2⟩ := hres3.out.slots
  have q3 := hiD (hres3.out.put3 (Nat.le_refl _) false none none 0 0 0 0).below
  go_wp2_with fail
  refine (ha _).out.mono ?_
  rintro e w4 ⟨rfl, rfl⟩
  go_wp2_with fail
  refine (hb _).out.mono ?_
  rintro e w5 ⟨rfl, rfl⟩
  go_wp2_with fail
  refine bodyPost_ret (v := .tuple #[.agg #[.bool false, .slice none 0 0, .slice none 0 0], .bool false]) (by simp [results, Tryz.results63, go_sem, l0, l1, l2]) rfl ?_
  exact ⟨q3.out, rfl⟩
theorem read_slash_bad1 (s r a0 b0 a b : ByteArray) (neg : Bool) (w : World) (hp : PreIs s r neg) (hc : CutIs r a0 b0 46 false) (hd : CutIs r a b 47 true) (ha : DigIs a false) : Calls Tryz.prog 63 #[.string s] w (ReadPost none w) := by
  have hres := hiD (Res.start w)
  go_enter Tryz.func63, Tryz.ntmps63
  go_wp2_with fail
  refine (hp _).out.mono ?_
  rintro e w2 ⟨rfl, rfl⟩
  go_wp2_with fail
  refine (hc _).out.mono ?_
  rintro e w3 ⟨rfl, b3⟩
  have hres3 := hiD (hres.out.next b3)
  go_wp2_with fail
  refine (hd _).out.mono ?_
  rintro e w6 ⟨rfl, b6⟩
  have hres6 := hiD (hres3.out.next b6)
  obtain ⟨z0, z1, z2, l0, l1, l2, f0, f1, f2⟩ := hres6.out.slots
  have q3 := hiD (hres6.out.put3 (Nat.le_refl _) false none none 0 0 0 0).below
  go_wp2_with fail
  refine (ha _).out.mono ?_
  rintro e w4 ⟨rfl, rfl⟩
  go_wp2_with fail
  refine bodyPost_ret (v := .tuple #[.agg #[.bool false, .slice none 0 0, .slice none 0 0], .bool false]) (by simp [results, Tryz.results63, go_sem, l0, l1, l2]) rfl ?_
  exact ⟨q3.out, rfl⟩
theorem read_slash_bad2 (s r a0 b0 a b : ByteArray) (neg : Bool) (w : World) (hp : PreIs s r neg) (hc : CutIs r a0 b0 46 false) (hd : CutIs r a b 47 true) (ha : DigIs a true) (hb : DigIs b false) : Calls Tryz.prog 63 #[.string s] w (ReadPost none w) := by
  have hres := hiD (Res.start w)
  go_enter Tryz.func63, Tryz.ntmps63
  go_wp2_with fail
  refine (hp _).out.mono ?_
  rintro e w2 ⟨rfl, rfl⟩
  go_wp2_with fail
  refine (hc _).out.mono ?_
  rintro e w3 ⟨rfl, b3⟩
  have hres3 := hiD (hres.out.next b3)
  go_wp2_with fail
  refine (hd _).out.mono ?_
  rintro e w6 ⟨rfl, b6⟩
  have hres6 := hiD (hres3.out.next b6)
  obtain ⟨z0, z1, z2, l0, l1, l2, f0, f1, f2⟩ := hres6.out.slots
  have q3 := hiD (hres6.out.put3 (Nat.le_refl _) false none none 0 0 0 0).below
  go_wp2_with fail
  refine (ha _).out.mono ?_
  rintro e w4 ⟨rfl, rfl⟩
  go_wp2_with fail
  refine (hb _).out.mono ?_
  rintro e w5 ⟨rfl, rfl⟩
  go_wp2_with fail
  refine bodyPost_ret (v := .tuple #[.agg #[.bool false, .slice none 0 0, .slice none 0 0], .bool false]) (by simp [results, Tryz.results63, go_sem, l0, l1, l2]) rfl ?_
  exact ⟨q3.out, rfl⟩
theorem read_plain_bad (s r a0 b0 a b : ByteArray) (neg : Bool) (w : World) (hp : PreIs s r neg) (hc : CutIs r a0 b0 46 false) (hd : CutIs r a b 47 false) (ha : DigIs a false) : Calls Tryz.prog 63 #[.string s] w (ReadPost none w) := by
  have hres := hiD (Res.start w)
  go_enter Tryz.func63, Tryz.ntmps63
  go_wp2_with fail
  refine (hp _).out.mono ?_
  rintro e w2 ⟨rfl, rfl⟩
  go_wp2_with fail
  refine (hc _).out.mono ?_
  rintro e w3 ⟨rfl, b3⟩
  have hres3 := hiD (hres.out.next b3)
  go_wp2_with fail
  refine (hd _).out.mono ?_
  rintro e w6 ⟨rfl, b6⟩
  have hres6 := hiD (hres3.out.next b6)
  obtain ⟨z0, z1, z2, l0, l1, l2, f0, f1, f2⟩ := hres6.out.slots
  have q3 := hiD (hres6.out.put3 (Nat.le_refl _) false none none 0 0 0 0).below
  go_wp2_with fail
  refine (ha _).out.mono ?_
  rintro e w4 ⟨rfl, rfl⟩
  go_wp2_with fail
  refine bodyPost_ret (v := .tuple #[.agg #[.bool false, .slice none 0 0, .slice none 0 0], .bool false]) (by simp [results, Tryz.results63, go_sem, l0, l1, l2]) rfl ?_
  exact ⟨q3.out, rfl⟩
def NatIs (a : ByteArray) (n : Nat) : Prop := ∀ W : World, Hid (Calls Tryz.prog 115 #[.string a] W (NatPost n W))
def FracIs (neg : Bool) (a b : ByteArray) (n d : Nat) : Prop := ∀ W : World, Hid (Calls Tryz.prog 113 #[.bool neg, .string a, .string b] W (RatPost neg n d W))
theorem read_dot_ok (s r a b : ByteArray) (neg : Bool) (n d : Nat) (y : ByteArray) (w : World) (hsy : (y.size : Int) ≤ 100000) (hy : ∀ W : World, Hid (Calls Tryz.prog 114 #[.string ⟨#[48]⟩, .int .i64 b.size] W fun e w' => e = .returned (.string y) ∧ Below W.heap.size W w')) (hp : PreIs s r neg) (hc : CutIs r a b 46 true) (ha : DigIs a true) (hb : DigIs b true) (hsa : (a.size : Int) ≤ 100000) (hsz : (b.size : Int) ≤ 100000) (hf : FracIs neg (a ++ b) (⟨#[49]⟩ ++ y) n d) : Calls Tryz.prog 63 #[.string s] w (ReadPost (some (neg, n, d)) w) := by
  have hres := hiD (Res.start w)
  go_enter Tryz.func63, Tryz.ntmps63
  go_wp2_with fail
  refine (hp _).out.mono ?_
  rintro e w2 ⟨rfl, rfl⟩
  go_wp2_with fail
  refine (hc _).out.mono ?_
  rintro e w3 ⟨rfl, b3⟩
  have hres3 := hiD (hres.out.next b3)
  go_wp2_with fail
  refine (ha _).out.mono ?_
  rintro e w4 ⟨rfl, rfl⟩
  go_wp2_with fail
  refine (hb _).out.mono ?_
  rintro e w5 ⟨rfl, rfl⟩
  go_wp2_with fail
  refine (hy _).out.mono ?_
  rintro e w6 ⟨rfl, b6⟩
  have hres6 := hiD (hres3.out.next b6)
  go_wp2_with fail
  refine (hf _).out.mono ?_
  rintro e w9 ⟨x9, rfl, hr9, b9⟩
  have htw := hres6.out.next b9
  obtain ⟨v9, u9, rfl, hn9, hd9, hs9⟩ := hr9
  obtain ⟨p2, n2, k2, rfl⟩ := hn9.slice
  obtain ⟨p3, n3, k3, rfl⟩ := hd9.slice
  obtain ⟨z0, z1, z2, l0, l1, l2, f0, f1, f2⟩ := htw.slots
  have q1 := htw.nat3 (Nat.le_refl _) hn9 (neg && !(n == 0)) p2 p3 n2 k2 n3 k3
  have q2 := htw.nat3 (Nat.le_refl _) hd9 (neg && !(n == 0)) p2 p3 n2 k2 n3 k3
  have q3 := (htw.put3 (Nat.le_refl _) (neg && !(n == 0)) p2 p3 n2 k2 n3 k3).below
  have hfin : Hid (∀ W, W = (((w9.setCell ⟨w.heap.size, 0, none⟩ (.bool (neg && !(n == 0)))).setCell ⟨w.heap.size, 1, none⟩ (.slice p2 n2 k2)).setCell ⟨w.heap.size, 2, none⟩ (.slice p3 n3 k3)) → ReadPost (some (neg, n, d)) w (.returned (.tuple #[.agg #[.bool (neg && !(n == 0)), .slice p2 n2 k2, .slice p3 n3 k3], .bool true])) W) := hiD (by
    rintro W rfl
    exact ⟨q3, _, rfl, _, _, rfl, q1, q2, hs9⟩)
  clear htw q1 q2 q3 hn9 hd9 hs9 b9
  go_wp2_with fail
  refine bodyPost_ret (v := .tuple #[.agg #[.bool (neg && !(n == 0)), .slice p2 n2 k2, .slice p3 n3 k3], .bool true]) (by simp [results, Tryz.results63, go_sem, l0, l1, l2]) rfl ?_
  exact hfin.out _ rfl
theorem read_slash_zero (s r a0 b0 a b : ByteArray) (neg : Bool) (w : World) (hp : PreIs s r neg) (hc : CutIs r a0 b0 46 false) (hd : CutIs r a b 47 true) (ha : DigIs a true) (hb : DigIs b true) (hn : NatIs b 0) : Calls Tryz.prog 63 #[.string s] w (ReadPost (none) w) := by
  have hres := hiD (Res.start w)
  go_enter Tryz.func63, Tryz.ntmps63
  go_wp2_with fail
  refine (hp _).out.mono ?_
  rintro e w2 ⟨rfl, rfl⟩
  go_wp2_with fail
  refine (hc _).out.mono ?_
  rintro e w3 ⟨rfl, b3⟩
  have hres3 := hiD (hres.out.next b3)
  go_wp2_with fail
  refine (hd _).out.mono ?_
  rintro e w6 ⟨rfl, b6⟩
  have hres6 := hiD (hres3.out.next b6)
  go_wp2_with fail
  refine (ha _).out.mono ?_
  rintro e w4 ⟨rfl, rfl⟩
  go_wp2_with fail
  refine (hb _).out.mono ?_
  rintro e w5 ⟨rfl, rfl⟩
  go_wp2_with fail
  refine (hn _).out.mono ?_
  rintro e w7 ⟨v7, rfl, hv7, b7⟩
  obtain ⟨p7, n7, k7, rfl⟩ := hv7.slice
  have hz7 : ((n7 : Int) == 0) = true := by
    have := natAt_zero_iff hv7
    rw [this.2 rfl]; rfl
  have hres7 := hiD (hres6.out.next b7)
  obtain ⟨z0, z1, z2, l0, l1, l2, f0, f1, f2⟩ := hres7.out.slots
  have q3 := hiD (hres7.out.put3 (Nat.le_refl _) false none none 0 0 0 0).below
  clear hv7 b7
  go_wp2_with fail
  refine (isZero_any _ _ _ _).mono ?_
  rintro e w8 ⟨rfl, rfl⟩
  rw [hz7]
  go_wp2_with fail
  refine bodyPost_ret (v := .tuple #[.agg #[.bool false, .slice none 0 0, .slice none 0 0], .bool false]) (by simp [results, Tryz.results63, go_sem, l0, l1, l2]) rfl ?_
  exact ⟨q3.out, rfl⟩
theorem read_slash_ok (s r a0 b0 a b : ByteArray) (neg : Bool) (n d : Nat) (w : World) (hp : PreIs s r neg) (hc : CutIs r a0 b0 46 false) (hd : CutIs r a b 47 true) (ha : DigIs a true) (hb : DigIs b true) (hn : NatIs b d) (hd0 : 0 < d) (hf : FracIs neg a b n d) : Calls Tryz.prog 63 #[.string s] w (ReadPost (some (neg, n, d)) w) := by
  have hres := hiD (Res.start w)
  go_enter Tryz.func63, Tryz.ntmps63
  go_wp2_with fail
  refine (hp _).out.mono ?_
  rintro e w2 ⟨rfl, rfl⟩
  go_wp2_with fail
  refine (hc _).out.mono ?_
  rintro e w3 ⟨rfl, b3⟩
  have hres3 := hiD (hres.out.next b3)
  go_wp2_with fail
  refine (hd _).out.mono ?_
  rintro e w6 ⟨rfl, b6⟩
  have hres6 := hiD (hres3.out.next b6)
  go_wp2_with fail
  refine (ha _).out.mono ?_
  rintro e w4 ⟨rfl, rfl⟩
  go_wp2_with fail
  refine (hb _).out.mono ?_
  rintro e w5 ⟨rfl, rfl⟩
  go_wp2_with fail
  refine (hn _).out.mono ?_
  rintro e w7 ⟨v7, rfl, hv7, b7⟩
  obtain ⟨p7, n7, k7, rfl⟩ := hv7.slice
  have hz7 : ((n7 : Int) == 0) = false := by
    have := natAt_zero_iff hv7
    rw [beq_eq_false_iff_ne]; omega
  have hres7 := hiD (hres6.out.next b7)
  clear hv7 b7
  go_wp2_with fail
  refine (isZero_any _ _ _ _).mono ?_
  rintro e w8 ⟨rfl, rfl⟩
  rw [hz7]
  go_wp2_with fail
  refine (hf _).out.mono ?_
  rintro e w9 ⟨x9, rfl, hr9, b9⟩
  have htw := hres7.out.next b9
  obtain ⟨v9, u9, rfl, hn9, hd9, hs9⟩ := hr9
  obtain ⟨p2, n2, k2, rfl⟩ := hn9.slice
  obtain ⟨p3, n3, k3, rfl⟩ := hd9.slice
  obtain ⟨z0, z1, z2, l0, l1, l2, f0, f1, f2⟩ := htw.slots
  have q1 := htw.nat3 (Nat.le_refl _) hn9 (neg && !(n == 0)) p2 p3 n2 k2 n3 k3
  have q2 := htw.nat3 (Nat.le_refl _) hd9 (neg && !(n == 0)) p2 p3 n2 k2 n3 k3
  have q3 := (htw.put3 (Nat.le_refl _) (neg && !(n == 0)) p2 p3 n2 k2 n3 k3).below
  have hfin : Hid (∀ W, W = (((w9.setCell ⟨w.heap.size, 0, none⟩ (.bool (neg && !(n == 0)))).setCell ⟨w.heap.size, 1, none⟩ (.slice p2 n2 k2)).setCell ⟨w.heap.size, 2, none⟩ (.slice p3 n3 k3)) → ReadPost (some (neg, n, d)) w (.returned (.tuple #[.agg #[.bool (neg && !(n == 0)), .slice p2 n2 k2, .slice p3 n3 k3], .bool true])) W) := hiD (by
    rintro W rfl
    exact ⟨q3, _, rfl, _, _, rfl, q1, q2, hs9⟩)
  clear htw q1 q2 q3 hn9 hd9 hs9 b9
  go_wp2_with fail
  refine bodyPost_ret (v := .tuple #[.agg #[.bool (neg && !(n == 0)), .slice p2 n2 k2, .slice p3 n3 k3], .bool true]) (by simp [results, Tryz.results63, go_sem, l0, l1, l2]) rfl ?_
  exact hfin.out _ rfl
theorem read_plain_ok (s r a0 b0 a b : ByteArray) (neg : Bool) (n d : Nat) (w : World) (hp : PreIs s r neg) (hc : CutIs r a0 b0 46 false) (hd : CutIs r a b 47 false) (ha : DigIs a true) (hb : DigIs ⟨#[49]⟩ true) (hn : NatIs ⟨#[49]⟩ d) (hd0 : 0 < d) (hf : FracIs neg a ⟨#[49]⟩ n d) : Calls Tryz.prog 63 #[.string s] w (ReadPost (some (neg, n, d)) w) := by
  have hres := hiD (Res.start w)
  go_enter Tryz.func63, Tryz.ntmps63
  go_wp2_with fail
  refine (hp _).out.mono ?_
  rintro e w2 ⟨rfl, rfl⟩
  go_wp2_with fail
  refine (hc _).out.mono ?_
  rintro e w3 ⟨rfl, b3⟩
  have hres3 := hiD (hres.out.next b3)
  go_wp2_with fail
  refine (hd _).out.mono ?_
  rintro e w6 ⟨rfl, b6⟩
  have hres6 := hiD (hres3.out.next b6)
  go_wp2_with fail
  refine (ha _).out.mono ?_
  rintro e w4 ⟨rfl, rfl⟩
  go_wp2_with fail
  refine (hb _).out.mono ?_
  rintro e w5 ⟨rfl, rfl⟩
  go_wp2_with fail
  refine (hn _).out.mono ?_
  rintro e w7 ⟨v7, rfl, hv7, b7⟩
  obtain ⟨p7, n7, k7, rfl⟩ := hv7.slice
  have hz7 : ((n7 : Int) == 0) = false := by
    have := natAt_zero_iff hv7
    rw [beq_eq_false_iff_ne]; omega
  have hres7 := hiD (hres6.out.next b7)
  clear hv7 b7
  go_wp2_with fail
  refine (isZero_any _ _ _ _).mono ?_
  rintro e w8 ⟨rfl, rfl⟩
  rw [hz7]
  go_wp2_with fail
  refine (hf _).out.mono ?_
  rintro e w9 ⟨x9, rfl, hr9, b9⟩
  have htw := hres7.out.next b9
  obtain ⟨v9, u9, rfl, hn9, hd9, hs9⟩ := hr9
  obtain ⟨p2, n2, k2, rfl⟩ := hn9.slice
  obtain ⟨p3, n3, k3, rfl⟩ := hd9.slice
  obtain ⟨z0, z1, z2, l0, l1, l2, f0, f1, f2⟩ := htw.slots
  have q1 := htw.nat3 (Nat.le_refl _) hn9 (neg && !(n == 0)) p2 p3 n2 k2 n3 k3
  have q2 := htw.nat3 (Nat.le_refl _) hd9 (neg && !(n == 0)) p2 p3 n2 k2 n3 k3
  have q3 := (htw.put3 (Nat.le_refl _) (neg && !(n == 0)) p2 p3 n2 k2 n3 k3).below
  have hfin : Hid (∀ W, W = (((w9.setCell ⟨w.heap.size, 0, none⟩ (.bool (neg && !(n == 0)))).setCell ⟨w.heap.size, 1, none⟩ (.slice p2 n2 k2)).setCell ⟨w.heap.size, 2, none⟩ (.slice p3 n3 k3)) → ReadPost (some (neg, n, d)) w (.returned (.tuple #[.agg #[.bool (neg && !(n == 0)), .slice p2 n2 k2, .slice p3 n3 k3], .bool true])) W) := hiD (by
    rintro W rfl
    exact ⟨q3, _, rfl, _, _, rfl, q1, q2, hs9⟩)
  clear htw q1 q2 q3 hn9 hd9 hs9 b9
  go_wp2_with fail
  refine bodyPost_ret (v := .tuple #[.agg #[.bool (neg && !(n == 0)), .slice p2 n2 k2, .slice p3 n3 k3], .bool true]) (by simp [results, Tryz.results63, go_sem, l0, l1, l2]) rfl ?_
  exact hfin.out _ rfl
end Go.Proofs.YtoegbjmoecbjdaaGreatDoor
