/- The document's run and NatRead. -/
import Derived.Test.YtoegbjmoecbjdaaGreatDoorRO
import Derived.Test.YtoegbjmoecbjdaaGreatDoorPart17
set_option maxHeartbeats 3200000
set_option maxRecDepth 100000
namespace Go.Proofs.YtoegbjmoecbjdaaGreatDoor
open Go.RowKit Big
open Go.Lib
theorem run_any (s : ByteArray) (w : World) (hs : (s.size : Int) ≤ 1000000) : Calls Tryz.prog 118 #[.string s, .int .i64 0] w fun e w' => e = .returned (.int .i64 (cntD s.data.toList)) ∧ w = w' := by
  go_enter Tryz.func118, Tryz.ntmps118
  go_wp2_with fail
  go_loop [5] (fun i => ∃ k : Nat, k ≤ s.size ∧ i = .int .i64 k ∧ Hid ((s.data.toList.take k).all isDig = true)) (fun i => s.size - (intOf i).toNat)
  case atStart => exact ⟨0, Nat.zero_le _, rfl, hiD (by simp)⟩
  case round =>
    obtain ⟨k, hk, rfl, hall⟩ := hrel
    by_cases hlt : k < s.size
    · have hkl : k < s.data.toList.length := by simpa using hlt
      have hb : Hid (∀ d, isDig s[k] = d → isDig s.data.toList[k] = d) := hiD (fun d h => h)
      rcases (show (s[k].toNat : Int) < 48 ∨ (57 : Int) < s[k].toNat ∨ ((48 : Int) ≤ s[k].toNat ∧ (s[k].toNat : Int) ≤ 57) from by omega) with h0 | h1 | ⟨h2a, h2b⟩
      · have hf : Hid (cntD s.data.toList = k) := hiD (tw_len _ _ k (by omega) hall.out (.inr ⟨hkl, hb.out _ (by simp [isDig]; omega)⟩))
        go_wp2
        go_ret
        exact ⟨by rw [hf.out]; rfl, rfl⟩
      · have hf : Hid (cntD s.data.toList = k) := hiD (tw_len _ _ k (by omega) hall.out (.inr ⟨hkl, hb.out _ (by simp [isDig]; omega)⟩))
        go_wp2
        go_ret
        exact ⟨by rw [hf.out]; rfl, rfl⟩
      · have hn : Hid ((s.data.toList.take (k + 1)).all isDig = true) := hiD (all_take_succ' _ _ k hkl hall.out (hb.out _ (by simp [isDig]; omega)))
        go_wp2
        go_round
        case rel => exact ⟨k + 1, by omega, by go_num, hn⟩
        case measure => simp [intOf]; omega
    · have hf : Hid (cntD s.data.toList = k) := hiD (tw_len _ _ k (by simpa using hk) hall.out (.inl (by simp; omega)))
      obtain rfl : k = s.size := by omega
      go_wp2
      go_ret
      exact ⟨by rw [hf.out]; rfl, rfl⟩
structure ReadInv (l : List UInt8) (e : Nat) (z : Int) (L : List Nat) : Prop where
  le : e ≤ l.length
  at_ : (z = e ∧ 9 * L.length + e = l.length) ∨ (z < 0 ∧ e = 0)
  dig : Dig B9 L
  eq : val B9 L = dval (l.drop e)
  len : L.length ≤ l.length
theorem dval_step (l : List UInt8) (st i : Nat) (h1 : st ≤ i) (h2 : i < l.length) : dval ((l.drop st).take (i + 1 - st)) = 10 * dval ((l.drop st).take (i - st)) + (l[i].toNat - 48) := by
  have hlt : i - st < (l.drop st).length := by rw [List.length_drop]; omega
  rw [show i + 1 - st = (i - st) + 1 from by omega, List.take_succ_eq_append_getElem hlt, dval_append]
  have e : (l.drop st)[i - st] = l[i] := by rw [List.getElem_drop]; congr 1; omega
  rw [e]
  show dval _ * 10 ^ 1 + (0 * 10 + (l[i].toNat - 48)) = _
  omega
theorem chunk_lt (l : List UInt8) (st i : Nat) (ha : l.all isDig = true) : dval ((l.drop st).take (i - st)) < 10 ^ (i - st) := by
  have h1 : ((l.drop st).take (i - st)).all isDig = true := by
    rw [List.all_eq_true] at ha ⊢
    exact fun x hx => ha x (List.mem_of_mem_drop (List.mem_of_mem_take hx))
  have h2 := dval_lt _ h1
  have h3 : 10 ^ ((l.drop st).take (i - st)).length ≤ 10 ^ (i - st) := Nat.pow_le_pow_right (by omega) (by rw [List.length_take]; omega)
  omega
theorem ReadInv.next {l : List UInt8} {e st : Nat} {z : Int} {L : List Nat} (h : ReadInv l e z L) (ha : l.all isDig = true) (he : 0 < e) (hst : st = e - 9) :
    ReadInv l st (z - 9) (L ++ [dval ((l.drop st).take (e - st))]) := by
  have hle := h.le
  have hat : z = e ∧ 9 * L.length + e = l.length := h.at_.resolve_right fun h => by omega
  have hc := chunk_lt l st e ha
  have h9 : (10 : Nat) ^ (e - st) ≤ 10 ^ 9 := Nat.pow_le_pow_right (by omega) (by omega)
  have e9 := B9_eq
  refine ⟨by omega, ?_, h.dig.append (Dig.one (by omega)), ?_, by rw [List.length_append]; simp; omega⟩
  · by_cases h10 : 9 ≤ e
    · exact .inl ⟨by omega, by rw [List.length_append]; simp; omega⟩
    · exact .inr ⟨by omega, by omega⟩
  · have e1 : l.drop st = (l.drop st).take (e - st) ++ l.drop e := by
      conv => lhs; rw [← List.take_append_drop (e - st) (l.drop st)]
      rw [List.drop_drop, show st + (e - st) = e from by omega]
    rw [val_snoc, h.eq]
    conv => rhs; rw [e1]
    rw [dval_append, List.length_drop, B9_pow, show 9 * L.length = l.length - e from by omega, Nat.mul_comm, Nat.add_comm]
theorem natRead_any (s : ByteArray) (w : World) (hs : (s.size : Int) ≤ 1000000) (ha : s.data.toList.all isDig = true) : Calls Tryz.prog 119 #[.string s] w (Post9 (dval s.data.toList) w) := by
  obtain ⟨i0, hi, hz0, hz1, hz2⟩ := info_parts info79
  have Ha := hiD ha
  clear ha
  obtain ⟨l, hl⟩ : ∃ l, Hid (l = s.data.toList) := ⟨_, hiD rfl⟩
  have hll : Hid (l.length = s.size) := hiD (by rw [hl.out]; simp)
  have hst : Hid (ReadInv l s.size s.size []) := hiD ⟨by rw [hll.out]; exact Nat.le_refl _, .inl ⟨rfl, by rw [hll.out]; simp⟩, Dig.nil _, by rw [List.drop_eq_nil_of_le (by rw [hll.out]; exact Nat.le_refl _)]; rfl, by simp⟩
  have Ha2 : Hid (l.all isDig = true) := hiD (by rw [hl.out]; exact Ha.out)
  go_enter Tryz.func119, Tryz.ntmps119
  go_wp2_with fail
  go_loopw [3, 4] (fun ov zv wr => ∃ (e : Nat) (z : Int) (L : List Nat) (po : Option Addr) (no co : Nat), zv = .int .i64 z ∧ ov = .slice po no co ∧ -9 ≤ z ∧ z ≤ 1000000 ∧ Hid (ReadInv l e z L) ∧ Hid (Acc w wr ov L)) (fun _ zv _ => (intOf zv).toNat)
  case atStart => exact ⟨s.size, s.size, [], _, _, _, rfl, rfl, by omega, by omega, hst, hiD (Acc.nil _ _ (Below.refl _ _))⟩
  case round =>
    obtain ⟨e, z, L, po, no, co, rfl, rfl, hz1', hz2', hinv, hacc⟩ := hrel
    by_cases h0 : 0 < z
    · have hat := hinv.out.at_.resolve_right fun h => by omega
      obtain ⟨rfl, h9⟩ := hat
      have H9 := hiD h9
      clear h9
      obtain ⟨st, hst9⟩ : ∃ st, Hid (st = e - 9) := ⟨_, hiD rfl⟩
      have hstv : max ((e : Int) - 9) 0 = (st : Int) := by rw [hst9.out]; omega
      have hste : st ≤ e := by rw [hst9.out]; omega
      have hes : Hid (e ≤ s.size) := hiD (by have := hinv.out.le; rw [hll.out] at this; exact this)
      (go_wp2_with fail) <;> (
        go_loopw [5, 6] (fun dv iv w2 => ∃ (i : Nat), st ≤ i ∧ i ≤ e ∧ iv = .int .i64 i ∧ dv = .int .u64 ((dval ((l.drop st).take (i - st)) : Nat) : Int) ∧ wr = w2) (fun _ iv _ => e - (intOf iv).toNat)
        case atStart => exact ⟨st, Nat.le_refl _, hste, by first | rfl | (rw [hstv]) | (congr 1; omega), by simp [dval], rfl⟩
        case round =>
          obtain ⟨i, hi1, hi2, rfl, rfl, rfl⟩ := hrel
          obtain ⟨D, hD⟩ : ∃ D, Hid (dval ((l.drop st).take (i - st)) = D) := ⟨_, hiD rfl⟩
          rw [hD.out]
          by_cases hlt : i < e
          · have e1 : (i : Int) < e := by omega
            have hlt2 : i < s.size := by have := hes.out; omega
            have hil : i < l.length := by rw [hll.out]; exact hlt2
            have hdg : isDig l[i] = true := List.all_eq_true.1 Ha2.out _ (List.getElem_mem hil)
            have hgl : Hid (l[i] = s[i]) := hiD (by have h := hl.out; subst h; rfl)
            rw [hgl.out] at hdg
            have hdg2 : 48 ≤ s[i].toNat ∧ s[i].toNat ≤ 57 := by simpa [isDig] using hdg
            have hb1 : (48 : Int) ≤ s[i].toNat := by omega
            have hb2 : (s[i].toNat : Int) ≤ 57 := by omega
            have hDb : (D : Int) ≤ 100000000 := by
              have h1 := chunk_lt l st i Ha2.out
              rw [hD.out] at h1
              have h2 : (10 : Nat) ^ (i - st) ≤ 10 ^ 8 := Nat.pow_le_pow_right (by omega) (by have := hst9.out; omega)
              omega
            obtain ⟨D2, hD2⟩ : ∃ D2 : Nat, Hid (dval ((l.drop st).take (i + 1 - st)) = D2) := ⟨_, hiD rfl⟩
            have hDv : (10 : Int) * D + ((s[i].toNat : Int) - 48) = (D2 : Int) := by
              rw [← hD2.out, dval_step l st i hi1 hil, hD.out, hgl.out]; omega
            clear hdg hdg2 hgl hil
            go_wp2_with fail
            go_roundw
            case rel => exact ⟨i + 1, by omega, by omega, by go_num, by rw [hD2.out], trivial⟩
            case measure => simp [intOf]; omega
          · obtain rfl : i = e := by omega
            have hinv2 : Hid (ReadInv l st ((i : Int) - 9) (L ++ [D])) := hiD (by rw [← hD.out]; exact hinv.out.next Ha2.out (by omega) hst9.out)
            have hlen : Hid (L.length + 1 ≤ maxLen ∧ (L.length + 1) * 8 ≤ 140737488355328 ∧ w.heap.size ≤ wr.heap.size + 1) := hiD (by
              have h1 := hinv.out.len
              have h2 := hll.out
              have h := hacc.out.below.size
              unfold maxLen; omega)
            go_wp2_with (at_builtin; refine wpList_append_own _ rfl (.tmp 29) (.tmp 31) 36 rfl w.heap.size 76 i0 (.int .u64 0) 1 8 underlying36 hi hz0 hz1 hz2 rfl (by decide) _ _ _ rfl ((hacc.out.own).alloc _) ⟨_, 0, none⟩ 1 1 [.int .u64 (D : Int)] rfl rfl (cell_one_new _ _ _) (by intro u hu; simp at hu; subst hu; rfl) hlen.out.1 hlen.out.2.1 (by simp; exact hlen.out.2.2) ?_)
            intro v5 w5 hown5 hgrow5 _
            have hnext := hiD (hacc.out.next (x := D) rfl hown5 hgrow5)
            obtain ⟨p5, c5, rfl, -⟩ := own_rd hnext.out.own
            clear hown5 hgrow5
            go_wp2_with fail
            go_roundw
            case rel => exact ⟨st, (i : Int) - 9, _, _, _, _, rfl, rfl, by omega, by omega, hinv2, hnext⟩
            case measure => simp [intOf]; omega)
    · have hval : Hid (val B9 L = dval s.data.toList) := hiD (by
        have h := hinv.out.eq
        have he : e = 0 := by rcases hinv.out.at_ with ⟨h1, _⟩ | ⟨_, h2⟩ <;> omega
        rw [he, List.drop_zero, hl.out] at h
        exact h)
      have ht : Hid (Calls Tryz.prog 138 #[.slice po no co] wr (Post9 (dval s.data.toList) w)) := hiD (by
        obtain ⟨p', c', h, hnc, hr, hf⟩ := own_rd hacc.out.own
        cases h
        rw [← hval.out]
        exact (trim_any _ _ _ L wr (by have h1 := hinv.out.len; have h2 := hll.out; unfold maxLen; omega) hnc.1 hr).mono fun _ _ h => trim_post9 hnc hf hr hinv.out.dig hacc.out.below h)
      go_wp2_with fail
      refine ht.out.mono ?_
      rintro e' w4 ⟨v, rfl, hv⟩
      obtain ⟨pv, nv, cv, rfl⟩ := hv.1.slice
      go_wp2_with fail
      go_ret
      exact ⟨_, rfl, hv⟩
end Go.Proofs.YtoegbjmoecbjdaaGreatDoor
