/- The law CodecUndicts: its walk. -/
import Derived.Test.YtpbcdmefngbjjaaGreatDoorCQ
namespace Go.Proofs.YtpbcdmefngbjjaaGreatDoor
open Go.RowKit
open Go.Lib
set_option maxRecDepth 100000 in
set_option maxHeartbeats 1600000 in
theorem undicts_long (p : Option Addr) (c : Nat) (l : List UInt8) (w : World) (hs : SaneAt w) (hl : 600 < l.length) :
    Calls Tryz.prog 8 #[.slice p l.length c] w (SanePost w) := by
  have HS := Lib.hid (hs w (Below.refl _ _))
  clear hs
  have hl3 : (600 : Int) < l.length := by omega
  go_enter Tryz.func8, Tryz.ntmps8
  go_wp2_with fail
  refine (HS.out).mono ?_
  rintro e w' ⟨rfl, hb⟩
  have HB := Lib.hid hb
  clear hb
  go_wp2_with fail
  go_ret
  exact ⟨rfl, HB.out⟩
set_option maxRecDepth 100000 in
set_option maxHeartbeats 1600000 in
theorem undicts_short (p : Option Addr) (c : Nat) (l : List UInt8) (w : World) (hs : SaneAt w) (hl : l.length ≤ 600) (hc : l.length ≤ c) (hb : Bs w p l) :
    Calls Tryz.prog 8 #[.slice p l.length c] w (SanePost w) := by
  have HS := Lib.hid hs
  have H1 := Lib.hid (undict_any p c l w hl hc hb)
  have H2 : Hid (∀ W, Below w.heap.size w W → Calls Tryz.prog 28 #[.slice p l.length c] W (BytesPost (und [] l) W)) := Lib.hid fun W hW => rundict_any p c l W hl hc (hb.below hW)
  obtain ⟨n, HN⟩ : ∃ n, Hid (n = l.length) := ⟨_, rfl⟩
  rw [← HN.out] at hl H1 H2 ⊢
  clear hs hb hc
  have hl3 : (n : Int) ≤ 600 := by omega
  cases hR : und [] l with
  | none =>
    rw [hR] at H1 H2
    clear hR
    go_enter Tryz.func8, Tryz.ntmps8
    go_wp2_with fail
    refine (H1.out).mono ?_
    rintro e w1 ⟨hb1, rfl⟩
    have HB1 := Lib.hid hb1
    clear hb1
    go_wp2_with fail
    refine (H2.out _ HB1.out).mono ?_
    rintro e w2 ⟨hb2, rfl⟩
    have HB2 := Lib.hid (HB1.out.trans (hb2.mono HB1.out.size))
    clear hb2
    have HI := Lib.hid (is_same none none 0 0 [] 5 w2 (Bs.nil _ _) (Bs.nil _ _))
    go_wp2_with fail
    refine (HI.out).mono ?_
    rintro e w3 ⟨rfl, rfl⟩
    go_wp2_with fail
    refine (HS.out _ HB2.out).mono ?_
    rintro e w4 ⟨rfl, hb4⟩
    have HB4 := Lib.hid (HB2.out.trans (hb4.mono HB2.out.size))
    clear hb4
    go_wp2_with fail
    go_ret
    exact ⟨rfl, HB4.out⟩
  | some L =>
    rw [hR] at H1 H2
    clear hR
    go_enter Tryz.func8, Tryz.ntmps8
    go_wp2_with fail
    refine (H1.out).mono ?_
    rintro e w1 ⟨hb1, v1, rfl, ho1⟩
    have HB1 := Lib.hid hb1
    obtain ⟨q1, c1, rfl, hbs1, -⟩ := own_bytes ho1
    have HS1 := Lib.hid hbs1
    clear hb1 ho1 hbs1
    go_wp2_with fail
    refine (H2.out _ HB1.out).mono ?_
    rintro e w2 ⟨hb2, v2, rfl, ho2⟩
    have HB2 := Lib.hid (HB1.out.trans (hb2.mono HB1.out.size))
    obtain ⟨q2, c2, rfl, hbs2, -⟩ := own_bytes ho2
    have HI := Lib.hid (is_same q1 q2 c1 c2 L 0 w2 (HS1.out.below hb2) hbs2)
    clear hb2 ho2 hbs2
    go_wp2_with fail
    refine (HI.out).mono ?_
    rintro e w3 ⟨rfl, rfl⟩
    go_wp2_with fail
    refine (HS.out _ HB2.out).mono ?_
    rintro e w4 ⟨rfl, hb4⟩
    have HB4 := Lib.hid (HB2.out.trans (hb4.mono HB2.out.size))
    clear hb4
    go_wp2_with fail
    go_ret
    exact ⟨rfl, HB4.out⟩
theorem undicts_any (p : Option Addr) (c : Nat) (l : List UInt8) (w : World) (hs : SaneAt w) (hc : l.length ≤ c) (hb : Bs w p l) :
    Calls Tryz.prog 8 #[.slice p l.length c] w (SanePost w) := by
  by_cases h1 : 600 < l.length
  · exact undicts_long p c l w hs h1
  · exact undicts_short p c l w hs (by omega) hc hb
end Go.Proofs.YtpbcdmefngbjjaaGreatDoor
