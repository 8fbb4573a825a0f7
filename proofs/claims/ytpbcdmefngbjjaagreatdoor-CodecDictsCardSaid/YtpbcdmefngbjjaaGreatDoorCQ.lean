/- The document's Undict. -/
import Derived.Test.YtpbcdmefngbjjaaGreatDoorCP
namespace Go.Proofs.YtpbcdmefngbjjaaGreatDoor
open Go.RowKit
open Go.Lib
theorem below_dn {B : Nat} {a w : World} (h : Below B a w) (n : Nat) : Below B a (w.drewN n) := h.trans ⟨rfl, rfl, rfl, Nat.le_refl _, fun _ _ => rfl⟩
theorem nb_two (x : UInt8) (r : List UInt8) (h : 2 ≤ r.length) : nb (r.take 2) = ((x :: r).getD 1 0).toNat * 256 + ((x :: r).getD 2 0).toNat := by
  match r, h with
  | a :: b :: r', _ => simp [nb]
theorem ofInt_i64' (a : Nat) (ha : a ≤ 1000000) : (BitVec.ofInt 64 (a : Int)).toNat = a := by
  rw [BitVec.ofInt_natCast, BitVec.toNat_ofNat]; exact Nat.mod_eq_of_lt (by omega)
theorem i64_or_nat' (a b : Nat) (ha : a ≤ 1000000) (hb : b ≤ 1000000) : bits .or .i64 (a : Int) (b : Int) = ((a ||| b : Nat) : Int) := by
  have hx : a ||| b < 2 ^ 20 := Nat.or_lt_two_pow (by omega) (by omega)
  show IntKind.i64.wrap ((BitVec.ofInt 64 (a : Int) ||| BitVec.ofInt 64 (b : Int)).toNat : Int) = _
  rw [BitVec.toNat_or, ofInt_i64' a ha, ofInt_i64' b hb, IntKind.wrap_i64]
  omega
set_option maxRecDepth 100000 in
set_option maxHeartbeats 1600000 in
theorem rundict_any (p : Option Addr) (c : Nat) (l : List UInt8) (w : World) (hl : l.length ≤ 600) (hc : l.length ≤ c) (hb : Bs w p l) :
    Calls Tryz.prog 28 #[.slice p l.length c] w (BytesPost (und [] l) w) := by
  obtain ⟨i0, hi, hz0, hz1, hz2⟩ := info_parts info5
  have H0 : Hid (UAt w w l l [] p l.length c (.slice none 0 0)) := Lib.hid ⟨rfl, hc, hb, Grew.refl (l := []) (World.ownsRow_nil w w.heap.size 5 1), rfl, by simp; omega⟩
  obtain ⟨n0, HN⟩ : ∃ n, Hid (n = l.length) := ⟨_, rfl⟩
  rw [← HN.out] at H0 ⊢
  clear hb hl hc
  go_enter Tryz.func28, Tryz.ntmps28
  go_wp2_with fail
  go_loopw [0, 4] (fun bv ov wr => ∃ (rest o : List UInt8) (pb : Option Addr) (n cb : Nat), bv = .slice pb n cb ∧ Hid (UAt w wr l rest o pb n cb ov)) (fun bv _ _ => vlen bv)
  case atStart => exact ⟨l, [], p, _, _, rfl, H0⟩
  case round =>
    obtain ⟨rest, o, pb, n, cb, rfl, HU⟩ := hrel
    cases rest with
    | nil =>
      obtain rfl : n = 0 := HU.out.len.symm
      go_wp2_with fail
      go_ret2
      have h := HU.out
      refine ⟨h.below, ?_⟩
      rw [← h.eq, und_nil]
      exact ⟨_, rfl, h.out.own⟩
    | cons x r =>
      have hlen := HU.out.len
      rw [List.length_cons] at hlen
      obtain ⟨b0, off, d, rfl, hb0, hc0, hd, hd2⟩ := (HU.out.bytes.below HU.out.below).at (k := 0) (by simp)
      have hn0 : 0 < n := by omega
      rw [Nat.add_zero] at hc0
      obtain ⟨qo, co, rfl, -, -⟩ := own_bytes HU.out.out.own
      have HL := Lib.hid hlen
      clear hlen
      have hx : Hid (x.toNat = d) := Lib.hid hd.out
      have hbw : Hid (Below w.heap.size w wr) := Lib.hid HU.out.below
      obtain ⟨no, Hno⟩ : ∃ no, Hid (no = o.length) := ⟨_, rfl⟩
      have hno : (no : Int) ≤ 78600 := by have := HU.out.room; rw [Hno.out]; omega
      rw [← Hno.out] at HU ⊢
      by_cases hp : d < 128
      · have t1 : decide ((d : Int) < 128) = true := by simp; omega
        by_cases hs : n < d + 2
        · have t2 : decide ((n : Int) < (d : Int) + 2) = true := by simp; omega
          have hR : Hid (und [] l = none) := Lib.hid (by rw [← HU.out.eq]; exact und_plain_no (by rw [hx.out]; exact hp) (by rw [hx.out]; have := HL.out; omega))
          go_wp2_with fail
          go_ret2
          refine ⟨hbw.out, ?_⟩
          rw [hR.out]; rfl
        · have t2 : decide ((n : Int) < (d : Int) + 2) = false := by simp; omega
          have hB2 := HU.out.bytes.below hbw.out
          have hsub := bs_sub hB2 1 (d + 1) (by simp [HL.out]; omega) rfl
          have hnews := Lib.hid (hsub.news (Below.refl _ _) _ rfl)
          have hul : Hid ((u8s (((x :: r).drop 1).take (d + 1))).length = (d + 1) * 1) := Lib.hid (by rw [u8s_length]; simp; have := HL.out; omega)
          have hlen : Hid (no + (d + 1) ≤ maxLen ∧ (no + (d + 1)) * 1 ≤ 140737488355328 ∧ w.heap.size ≤ wr.heap.size) := Lib.hid ⟨by unfold maxLen; omega, by omega, hbw.out.size⟩
          have hown := Lib.hid HU.out.out.own
          rw [← Hno.out] at hown
          have hR : Hid (und [] l = und (o ++ ((x :: r).drop 1).take (d + 1)) ((x :: r).drop (d + 2))) := Lib.hid (by rw [← HU.out.eq, und_plain (by rw [hx.out]; exact hp) (by rw [hx.out]; have := HL.out; omega), hx.out]; rfl)
          have hrm : Hid ((o ++ ((x :: r).drop 1).take (d + 1)).length + 131 * ((x :: r).drop (d + 2)).length ≤ 78600) := Lib.hid (by
            have h1 := HU.out.room
            have h2 := HL.out
            simp only [List.length_append, List.length_take, List.length_drop, List.length_cons] at h1 ⊢
            omega)
          have hfin : Hid (∀ v' w', w'.ownsRow w.heap.size 5 1 v' (no + (d + 1)) (u8s o ++ u8s (((x :: r).drop 1).take (d + 1))) → wr.grownBy w' (Value.slice qo no co).ownBlock → (v'.ownBlock = (Value.slice qo no co).ownBlock ∨ v'.ownBlock = some wr.heap.size) → Grew w.heap.size w (.slice none 0 0) (o ++ ((x :: r).drop 1).take (d + 1)) w' v') := Lib.hid (fun v' w' h1 h2 h3 => HU.out.out.trans (by
            refine ⟨?_, h2, h3.imp id fun h => ⟨_, h, Nat.le_refl _⟩⟩
            have e : (o ++ ((x :: r).drop 1).take (d + 1)).length = no + (d + 1) := by simp; have := HL.out; rw [Hno.out]; omega
            rw [e, u8s, List.map_append]; exact h1))
          obtain ⟨L, HLL⟩ : ∃ L, Hid (L = ((x :: r).drop 1).take (d + 1)) := ⟨_, rfl⟩
          rw [← HLL.out] at hfin hul hnews
          have hcb := HU.out.cap
          clear hB2 hsub
          go_wp2_with (at_builtin; refine wpList_append_own_at _ rfl (.tmp 23) (.tmp 27) 22 rfl w.heap.size 5 i0 (.int .u8 0) 1 1 Tryz.underlying22 hi hz0 hz1 hz2 rfl (by decide) _ _ _ rfl hown.out ⟨b0, off + 1, none⟩ (d + 1) (cb - 1) (u8s L) rfl hul.out hnews.out (u8s_one L) hlen.out.1 hlen.out.2.1 hlen.out.2.2 ?_)
          intro v5 w5 hown5 hgrow5 _ hat5
          have HE := Lib.hid (hfin.out v5 w5 hown5 hgrow5 hat5)
          clear hown5 hgrow5 hat5
          rw [HLL.out] at HE
          obtain ⟨O, HO⟩ : ∃ O, Hid (O = o ++ ((x :: r).drop 1).take (d + 1)) := ⟨_, rfl⟩
          rw [← HO.out] at HE hR hrm
          obtain ⟨q5, c5, rfl, -, -⟩ := own_bytes HE.out.own
          have hO : (O.length : Int) ≤ 78600 := by have := hrm.out; omega
          go_wp2_with fail
          go_roundw
          case rel => exact ⟨_, _, _, _, _, rfl, Lib.hid (HU.out.next (by omega) HE.out hR.out hrm.out 0)⟩
          case measure => show n - (d + 2) < n; omega
      · have t1 : decide ((d : Int) < 128) = false := by simp; omega
        by_cases hs : n < 3
        · have t2 : decide ((n : Int) < 3) = true := by simp; omega
          have hR : Hid (und [] l = none) := Lib.hid (by rw [← HU.out.eq]; exact und_short (by rw [hx.out]; omega) (by have := HL.out; omega))
          go_wp2_with fail
          go_ret2
          refine ⟨hbw.out, ?_⟩
          rw [hR.out]; rfl
        · have t2 : decide ((n : Int) < 3) = false := by simp; omega
          have hB2 := HU.out.bytes.below hbw.out
          obtain ⟨b1, o1, d1, e1, -, hc1, hd1, hd1'⟩ := hB2.at (k := 1) (by simp; have := HL.out; omega)
          cases e1
          obtain ⟨b1, o1, d2, e1, -, hc2, hd2, hd2'⟩ := hB2.at (k := 2) (by simp; have := HL.out; omega)
          cases e1
          obtain ⟨D, HD⟩ : ∃ D, Hid (D = d1 * 256 + d2) := ⟨_, rfl⟩
          have hor : bits .or .i64 ((d1 : Int) * 256) (d2 : Int) = (D : Int) := by
            have := i64_or_nat' (d1 * 256) d2 (by omega) (by omega)
            rw [HD.out, ← nat_join 8 (d1 * 256) d2 (by omega) (by omega), ← this]; rfl
          have HDn : Hid (nb (r.take 2) = D) := Lib.hid (by rw [HD.out, ← hd1.out, ← hd2.out]; exact nb_two x r (by have := HL.out; omega))
          by_cases hf : D = 0 ∨ no < D
          · have hR : Hid (und [] l = none) := Lib.hid (by rw [← HU.out.eq]; exact und_far (by rw [hx.out]; omega) (by have := HL.out; omega) (by rw [HDn.out, ← Hno.out]; exact hf))
            by_cases h0 : D = 0
            · subst h0
              clear hf
              go_wp2_with fail
              go_quiet (fail)
              clear hor
              go_wp2_with fail
              go_ret2
              refine ⟨below_dn hbw.out _, ?_⟩
              rw [hR.out]; rfl
            · have t3 : ((D : Int) == 0) = false := by simp; omega
              have t4 : decide (no < D) = true := by simp; omega
              clear hf
              go_wp2_with fail
              go_quiet (fail)
              clear hor
              go_wp2_with fail
              go_ret2
              refine ⟨below_dn hbw.out _, ?_⟩
              rw [hR.out]; rfl
          · have t3 : ((D : Int) == 0) = false := by simp; omega
            have t4 : decide (no < D) = false := by simp; omega
            obtain ⟨m, hm⟩ : ∃ m, Hid (m = d - 124) := ⟨_, rfl⟩
            have hmd : (d : Int) - 128 + 4 = ((m : Nat) : Int) := by rw [hm.out]; omega
            have hm2 : (m : Int) ≤ 131 := by rw [hm.out]; omega
            have hR : Hid (und [] l = und (cp m D o) ((x :: r).drop 3)) := Lib.hid (by rw [← HU.out.eq, und_copy (by rw [hx.out]; omega) (by have := HL.out; omega) (by rw [HDn.out, ← Hno.out]; exact hf), hx.out, HDn.out, hm.out]; rfl)
            have hrm : Hid ((cp m D o).length + 131 * ((x :: r).drop 3).length ≤ 78600) := Lib.hid (by
              have h1 := HU.out.room
              have h2 := HL.out
              rw [cp_length]
              simp only [List.length_drop, List.length_cons] at h1 ⊢
              omega)
            have hcb := HU.out.cap
            have hDD : Hid (0 < D ∧ D ≤ no) := Lib.hid (by omega)
            have hn3 : 3 ≤ n := by omega
            clear hf hB2
            go_wp2_with fail
            go_quiet (fail)
            clear hor
            go_wp2_with fail
            clear t3 t4 t1 t2
            have HGq := Lib.hid (HU.out.out.drewN nq)
            go_loopw [4, 7] (fun vr i w2 => ∃ (k : Nat) (b : List UInt8), k ≤ m ∧ i = .int .i64 k ∧ Hid (b.length = no + k) ∧ Hid (cp (m - k) D b = cp m D o) ∧ Hid (Grew w.heap.size w (.slice none 0 0) b w2 vr)) (fun _ i _ => m - (intOf i).toNat)
            case atStart => exact ⟨0, o, Nat.zero_le _, rfl, Lib.hid Hno.out.symm, Lib.hid (by rw [Nat.sub_zero]), HGq⟩
            case round =>
              obtain ⟨k, b, hkm, rfl, HLb, HE, HG⟩ := hrel
              by_cases hlt : k < m
              · obtain ⟨g, cp1, hv5, hcap1, hg, hgl, hcell, -, -⟩ := own_set HG.out.own (by have := HLb.out; have := hDD.out; omega)
                rw [HLb.out] at hv5 hcap1 hcell
                subst hv5
                obtain ⟨y, HX⟩ : ∃ y : UInt8, Hid (y = b.getD (no + k - D) 0) := ⟨_, rfl⟩
                have gc : wr.cell? ⟨g, no + k - D, none⟩ = some (.int .u8 ((y.toNat : Nat) : Int)) := by rw [HX.out]; exact hcell _ (by have := hDD.out; omega)
                have hbl : Hid (b.length + 1 ≤ maxLen ∧ (b.length + 1) * 1 ≤ 140737488355328 ∧ w.heap.size ≤ wr.heap.size + 1) := Lib.hid (by
                  have h1 := HLb.out
                  have h3 := HG.out.grown.size
                  unfold maxLen; omega)
                have hix : (no : Int) + (k : Int) - (D : Int) = ((no + k - D : Nat) : Int) := by have := hDD.out; omega
                have hne : Hid (cp (m - (k + 1)) D (b ++ [y]) = cp m D o) := Lib.hid (by
                  rw [← HE.out, show m - k = (m - (k + 1)) + 1 by omega, cp, HLb.out, HX.out])
                rw [HLb.out] at hbl
                clear hcell
                have hown := Lib.hid HG.out.own
                rw [HLb.out] at hown
                have q3 : no + k - D < no + k := by have := hDD.out; omega
                go_wp2_with (at_builtin; refine wpList_append_own_at _ rfl (.tmp 68) (.tmp 70) 22 rfl w.heap.size 5 i0 (.int .u8 0) 1 1 Tryz.underlying22 hi hz0 hz1 hz2 rfl (by decide) _ _ _ rfl ((hown.out).alloc _) ⟨_, 0, none⟩ 1 1 [.int .u8 (y.toNat : Int)] rfl rfl (cell_one_new _ _ _) (by intro u hu; simp at hu; subst hu; rfl) hbl.out.1 hbl.out.2.1 (by simp; exact hbl.out.2.2) ?_)
                intro v5 w5 hown5 hgrow5 _ hat5
                have HG5 := Lib.hid (HG.out.next (by rw [HLb.out]) hown5 hgrow5 hat5)
                clear hown5 hgrow5 hat5
                go_wp2_with fail
                go_roundw
                case rel => exact ⟨k + 1, b ++ [y], by omega, by go_num, Lib.hid (by rw [List.length_append, HLb.out]; rfl), hne, HG5⟩
                case measure => simp [intOf]; omega
              · obtain rfl : k = m := by omega
                have hE := HE.out
                rw [Nat.sub_self, cp] at hE
                subst hE
                obtain ⟨q5, c5, rfl, -, -⟩ := own_bytes HG.out.own
                have hO : ((cp k D o).length : Int) ≤ 78600 := by have := hrm.out; omega
                go_wp2_with fail
                go_roundw
                case rel => exact ⟨_, _, _, _, _, rfl, Lib.hid (HU.out.next (by omega) HG.out hR.out hrm.out 0)⟩
                case measure => show n - 3 < n; omega
end Go.Proofs.YtpbcdmefngbjjaaGreatDoor
