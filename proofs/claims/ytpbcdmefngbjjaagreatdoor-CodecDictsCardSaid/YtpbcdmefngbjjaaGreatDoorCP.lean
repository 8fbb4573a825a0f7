/- The program's Undict. -/
import Derived.Test.YtpbcdmefngbjjaaGreatDoorCO
import Derived.BigQuiet
namespace Go.Proofs.YtpbcdmefngbjjaaGreatDoor
open Go.RowKit
open Go.Lib
def vlen : Value → Nat | .slice _ n _ => n | _ => 0
/-- Bytes in a row of the call's own, or the error 5. -/
def BytesPost (r : Option (List UInt8)) (w : World) (e : Ending) (w' : World) : Prop := Below w.heap.size w w' ∧ match r with
  | none => e = .returned (.tuple #[.slice none 0 0, .int .i64 5])
  | some L => ∃ v, e = .returned (.tuple #[v, .int .i64 0]) ∧ w'.ownsRow w.heap.size 5 1 v L.length (u8s L)
/-- Where Undict stands. -/
structure UAt (w wr : World) (l rest o : List UInt8) (pb : Option Addr) (n cb : Nat) (ov : Value) : Prop where
  len : rest.length = n
  cap : n ≤ cb
  bytes : Bs w pb rest
  out : Grew w.heap.size w (.slice none 0 0) o wr ov
  eq : und o rest = und [] l
  room : o.length + 131 * rest.length ≤ 78600
theorem UAt.below {w wr : World} {l rest o : List UInt8} {pb : Option Addr} {n cb : Nat} {ov : Value} (h : UAt w wr l rest o pb n cb ov) : Below w.heap.size w wr := h.out.below (Nat.le_refl _) (by intro k hk; cases hk)
theorem Grew.drewN {B : Nat} {w w' : World} {v v' : Value} {l : List UInt8} (h : Grew B w v l w' v') (n : Nat) : Grew B w v l (w'.drewN n) v' :=
  ⟨h.own, ⟨h.grown.os, h.grown.tape, h.grown.output, h.grown.size, h.grown.block⟩, h.lies⟩
theorem UAt.next {w wr w2 : World} {l rest o o2 : List UInt8} {b0 off n cb k : Nat} {ov v2 : Value} (h : UAt w wr l rest o (some ⟨b0, off, none⟩) n cb ov) (hk : k ≤ n) (hg : Grew w.heap.size w (.slice none 0 0) o2 w2 v2) (he : und [] l = und o2 (rest.drop k)) (hr : o2.length + 131 * (rest.drop k).length ≤ 78600) (q : Nat) :
    UAt w (w2.drewN q) l (rest.drop k) o2 (if cb = k then some ⟨b0, off, none⟩ else some ⟨b0, off + k, none⟩) (n - k) (cb - k) v2 := by
  refine ⟨by rw [List.length_drop, h.len], by have := h.cap; omega, ?_, hg.drewN q, he.symm, hr⟩
  split
  · exact .inl (by rw [List.length_drop, h.len]; have := h.cap; omega)
  · exact bs_tail h.bytes k (by rw [h.len]; exact hk) rfl
set_option maxRecDepth 100000 in
set_option maxHeartbeats 1600000 in
theorem undict_any (p : Option Addr) (c : Nat) (l : List UInt8) (w : World) (hl : l.length ≤ 600) (hc : l.length ≤ c) (hb : Bs w p l) :
    Calls Tryz.prog 27 #[.slice p l.length c] w (BytesPost (und [] l) w) := by
  have H0 : Hid (UAt w w l l [] p l.length c (.slice none 0 0)) := Lib.hid ⟨rfl, hc, hb, Grew.refl (l := []) (World.ownsRow_nil w w.heap.size 5 1), rfl, by simp; omega⟩
  obtain ⟨n0, HN⟩ : ∃ n, Hid (n = l.length) := ⟨_, rfl⟩
  rw [← HN.out] at H0 ⊢
  clear hb hl hc
  go_enter Tryz.func27, Tryz.ntmps27
  go_wp2_with fail
  go_loopw [0, 4] (fun bv ov wr => ∃ (rest o : List UInt8) (pb : Option Addr) (n cb : Nat), bv = .slice pb n cb ∧ Hid (UAt w wr l rest o pb n cb ov)) (fun bv _ _ => vlen bv)
  case atStart => exact ⟨l, [], p, _, _, rfl, H0⟩
  case round =>
    obtain ⟨rest, o, pb, n, cb, rfl, HU⟩ := hrel
    cases rest with
    | nil =>
      obtain rfl : n = 0 := HU.out.len.symm
      go_wp2_with fail
      go_ret2
      have h := HU.out
      refine ⟨h.below, ?_⟩
      rw [← h.eq, und_nil]
      exact ⟨_, rfl, h.out.own⟩
    | cons x r =>
      have hlen := HU.out.len
      rw [List.length_cons] at hlen
      obtain ⟨b0, off, d, rfl, hb0, hc0, hd, hd2⟩ := (HU.out.bytes.below HU.out.below).at (k := 0) (by simp)
      have hn0 : 0 < n := by omega
      rw [Nat.add_zero] at hc0
      obtain ⟨qo, co, rfl, -, -⟩ := own_bytes HU.out.out.own
      have HL := Lib.hid hlen
      clear hlen
      have hx : Hid (x.toNat = d) := Lib.hid hd.out
      have hbw : Hid (Below w.heap.size w wr) := Lib.hid HU.out.below
      have hno : Hid ((o.length : Int) ≤ 78600) := Lib.hid (by have := HU.out.room; omega)
      by_cases hp : d < 128
      · have t1 : decide ((128 : Int) ≤ (d : Int)) = false := by simp; omega
        by_cases hs : n < d + 2
        · have HT := Lib.hid (plainTok_no qo o.length co b0 off cb d n wr hc0 hd2 (by have := hno.out; omega) (by omega) hs)
          have hR : Hid (und [] l = none) := Lib.hid (by rw [← HU.out.eq]; exact und_plain_no (by rw [hx.out]; exact hp) (by rw [hx.out]; have := HL.out; omega))
          go_wp2_with fail
          refine (HT.out).mono ?_
          rintro e w' ⟨rfl, rfl⟩
          go_wp2_with fail
          go_ret2
          refine ⟨hbw.out, ?_⟩
          rw [hR.out]; rfl
        · have hB2 := HU.out.bytes.below hbw.out
          have HT := Lib.hid (plainTok_yes w.heap.size qo o (x :: r) co b0 off cb d n wr hbw.out.size HU.out.out.own (by simp [HL.out]) hB2 hx.out (by have := hno.out; omega) (by omega) HU.out.cap)
          have hR : Hid (und [] l = und (o ++ ((x :: r).drop 1).take (d + 1)) ((x :: r).drop (d + 2))) := Lib.hid (by rw [← HU.out.eq, und_plain (by rw [hx.out]; exact hp) (by rw [hx.out]; have := HL.out; omega), hx.out]; rfl)
          have hrm : Hid ((o ++ ((x :: r).drop 1).take (d + 1)).length + 131 * ((x :: r).drop (d + 2)).length ≤ 78600) := Lib.hid (by
            have h1 := HU.out.room
            have h2 := HL.out
            simp only [List.length_append, List.length_take, List.length_drop, List.length_cons] at h1 ⊢
            omega)
          have hcb := HU.out.cap
          clear hB2
          go_wp2_with fail
          refine (HT.out).mono ?_
          rintro e w2 ⟨v2, rfl, hg2⟩
          have HG2 := Lib.hid (HU.out.out.trans hg2)
          clear hg2
          go_wp2_with fail
          go_quiet (fail)
          go_wp2_with fail
          go_roundw
          case rel => exact ⟨_, _, _, _, _, rfl, Lib.hid (HU.out.next (by omega) HG2.out hR.out hrm.out _)⟩
          case measure => show n - (d + 2) < n; omega
      · have t1 : decide ((128 : Int) ≤ (d : Int)) = true := by simp; omega
        by_cases hs : n < 3
        · have HT := Lib.hid (copyTok_short qo o.length co b0 off cb d n wr hc0 hd2 (by omega) (by have := hno.out; omega) (by omega) hs)
          have hR : Hid (und [] l = none) := Lib.hid (by rw [← HU.out.eq]; exact und_short (by rw [hx.out]; omega) (by have := HL.out; omega))
          go_wp2_with fail
          refine (HT.out).mono ?_
          rintro e w' ⟨rfl, rfl⟩
          go_wp2_with fail
          go_ret2
          refine ⟨hbw.out, ?_⟩
          rw [hR.out]; rfl
        · have hB2 := HU.out.bytes.below hbw.out
          by_cases hf : nb (r.take 2) = 0 ∨ o.length < nb (r.take 2)
          · have HT := Lib.hid (copyTok_far qo o.length co b0 off cb d n (x :: r) wr (by simp [HL.out]) hB2 hx.out (by omega) (by have := hno.out; omega) (by omega) HU.out.cap hf)
            have hR : Hid (und [] l = none) := Lib.hid (by rw [← HU.out.eq]; exact und_far (by rw [hx.out]; omega) (by have := HL.out; omega) hf)
            clear hB2 hf
            go_wp2_with fail
            refine (HT.out).mono ?_
            rintro e w' ⟨rfl, rfl⟩
            go_wp2_with fail
            go_ret2
            refine ⟨hbw.out, ?_⟩
            rw [hR.out]; rfl
          · have HT := Lib.hid (copyTok_yes w.heap.size qo o (x :: r) co b0 off cb d n wr hbw.out.size HU.out.out.own (by simp [HL.out]) hB2 hx.out (by omega) (by have := hno.out; omega) (by omega) HU.out.cap (fun h => hf (.inl h)) (by exact Nat.le_of_not_lt fun h => hf (.inr h)))
            have hR : Hid (und [] l = und (cp (d - 124) (nb (((x :: r).drop 1).take 2)) o) ((x :: r).drop 3)) := Lib.hid (by rw [← HU.out.eq, und_copy (by rw [hx.out]; omega) (by have := HL.out; omega) hf, hx.out]; rfl)
            have hrm : Hid ((cp (d - 124) (nb (((x :: r).drop 1).take 2)) o).length + 131 * ((x :: r).drop 3).length ≤ 78600) := Lib.hid (by
              have h1 := HU.out.room
              have h2 := HL.out
              rw [cp_length]
              simp only [List.length_drop, List.length_cons] at h1 ⊢
              omega)
            have hcb := HU.out.cap
            clear hB2 hf
            go_wp2_with fail
            refine (HT.out).mono ?_
            rintro e w2 ⟨v2, rfl, hg2⟩
            have HG2 := Lib.hid (HU.out.out.trans hg2)
            clear hg2
            go_wp2_with fail
            go_quiet (fail)
            go_wp2_with fail
            go_roundw
            case rel => exact ⟨_, _, _, _, _, rfl, Lib.hid (HU.out.next (by omega) HG2.out hR.out hrm.out _)⟩
            case measure => show n - 3 < n; omega
end Go.Proofs.YtpbcdmefngbjjaaGreatDoor
