/- The document's groups: the numbers of the groups, and the rest. -/
import Derived.Test.YtpbcdmefngbjjaaGreatDoorMD
import Derived.Test.YtpbcdmefngbjjaaGreatDoorDZ
import Derived.Test.YtpbcdmefngbjjaaGreatDoorCQ
import Derived.Test.YtpbcdmefngbjjaaGreatDoorDL
import Derived.BigRegion
namespace Go.Proofs.YtpbcdmefngbjjaaGreatDoor
open Go.RowKit
open Go.Lib
/-- A row of the call's own is longer now: other old blocks are as they were. -/
structure GrewU (B : Nat) (w : World) (v : Value) (l : List Nat) (w' : World) (v' : Value) : Prop where
  own : w'.ownsRow B 38 1 v' l.length (u64s l)
  grown : w.grownBy w' v.ownBlock
  lies : v'.ownBlock = v.ownBlock ∨ ∃ j, v'.ownBlock = some j ∧ w.heap.size ≤ j
theorem GrewU.refl {B : Nat} {w : World} {v : Value} {l : List Nat} (h : w.ownsRow B 38 1 v l.length (u64s l)) : GrewU B w v l w v := ⟨h, grown_refl _ _, .inl rfl⟩
theorem GrewU.trans {B : Nat} {w w1 w2 : World} {v v1 v2 : Value} {l l2 : List Nat} (h : GrewU B w v l w1 v1) (k : GrewU B w1 v1 l2 w2 v2) : GrewU B w v l2 w2 v2 := by
  refine ⟨k.own, grown_trans h.grown k.grown (fun j hj => ?_), ?_⟩
  · rcases h.lies with h1 | ⟨i, h1, h2⟩
    · exact .inl h1
    · rw [h1] at hj; cases hj; exact .inr h2
  · rcases k.lies with h1 | ⟨i, h1, h2⟩
    · rw [h1]; exact h.lies
    · exact .inr ⟨i, h1, Nat.le_trans h.grown.size h2⟩
/-- One number more, its cell in a block just made. -/
theorem GrewU.next {B : Nat} {w wr w5 : World} {v vr v5 : Value} {l : List Nat} {m : Nat} {c : Nat} {o : Obj} (h : GrewU B w v l wr vr) (hm : m = l.length + 1) (hown : w5.ownsRow B 38 1 v5 m (u64s l ++ [.int .u64 (c : Int)])) (hg : (wr.alloc o).grownBy w5 vr.ownBlock) (hl : v5.ownBlock = vr.ownBlock ∨ v5.ownBlock = some (wr.heap.size + 1)) : GrewU B w v (l ++ [c]) w5 v5 := by
  subst hm
  refine h.trans ⟨?_, (grown_alloc wr o _).trans hg, ?_⟩
  · have e : u64s (l ++ [c]) = u64s l ++ [.int .u64 (c : Int)] := by simp [u64s]
    rw [e, List.length_append]; exact hown
  · rcases hl with h1 | h1
    · exact .inl h1
    · exact .inr ⟨_, h1, by simp⟩
theorem GrewU.below {B : Nat} {w w' : World} {v v' : Value} {l : List Nat} (h : GrewU B w v l w' v') (hB : B ≤ w.heap.size) (hv : ∀ k, v.ownBlock = some k → B ≤ k) : Below B w w' := (Below.refl _ _).grown h.grown hB hv

/-- The numbers of the first k groups. -/
def gl (n : Nat) : Nat → List UInt8 → List Nat
  | 0, _ => []
  | k + 1, l => nb (l.take n) :: gl n k (l.drop n)
theorem gl_length (n : Nat) : ∀ (k : Nat) (l : List UInt8), (gl n k l).length = k
  | 0, _ => rfl
  | k + 1, l => by rw [gl, List.length_cons, gl_length n k]
theorem gl_snoc (n : Nat) : ∀ (k : Nat) (l : List UInt8), gl n (k + 1) l = gl n k l ++ [nb ((l.drop (k * n)).take n)]
  | 0, l => by rw [gl, gl, gl, Nat.zero_mul, List.drop_zero, List.nil_append]
  | k + 1, l => by rw [gl, gl_snoc n k (l.drop n), gl, List.cons_append, List.drop_drop, Nat.succ_mul, Nat.add_comm n]
theorem gl_lt {n : Nat} (hn : n ≤ 8) : ∀ (k : Nat) (l : List UInt8), ∀ x ∈ gl n k l, x < W64
  | 0, _, x, h => by cases h
  | k + 1, l, x, h => by
    rw [gl, List.mem_cons] at h
    rcases h with rfl | h
    · exact nb_lt8 (by rw [List.length_take]; omega)
    · exact gl_lt hn k _ x h
theorem own_rd64 {w : World} {B : Nat} {v : Value} {X : List Nat} (h : w.ownsRow B 38 1 v X.length (u64s X)) : ∃ p c, v = .slice p X.length c ∧ Rd w p X.length X ∧ X.length ≤ c := by
  obtain ⟨h1, ⟨rfl, h3⟩ | ⟨g, cap, cur, rfl, hg, hh, hn, hm, hs, hc⟩⟩ := h
  · exact ⟨none, 0, by rw [h3], ⟨rfl, .inl h3⟩, by omega⟩
  · refine ⟨_, cap, rfl, ⟨rfl, .inr ⟨g, 0, rfl, (Array.getElem?_eq_some_iff.1 hh).1, fun j hj => ?_⟩⟩, hn⟩
    rw [Nat.mul_one] at hc
    have e : cur[j]? = (u64s X)[j]? := by rw [← hc, List.getElem?_take_of_lt hj, Array.getElem?_toList]
    rw [Nat.zero_add]
    simp only [World.cell?, hh]
    rw [u64s, List.getElem?_map, List.getElem?_eq_getElem hj] at e
    simp [e, hj]
def GroupsPost (X : List Nat) (r : List UInt8) (w : World) (e : Ending) (w' : World) : Prop := Below w.heap.size w w' ∧ ∃ p c q d, e = .returned (.tuple #[.slice p X.length c, .slice q r.length d]) ∧ Rd w' p X.length X ∧ Bs w' q r
set_option maxRecDepth 100000 in
set_option maxHeartbeats 1600000 in
theorem groups_some (b0 off c n : Nat) (l : List UInt8) (w : World) (h1 : 1 ≤ n) (h2 : n ≤ 8) (hl : l.length ≤ 1000) (hc : l.length ≤ c) (hb : Bs w (some ⟨b0, off, none⟩) l) :
    Calls Tryz.prog 35 #[.slice (some ⟨b0, off, none⟩) l.length c, .int .i64 (n : Int)] w (GroupsPost (gl n (l.length / n) l) (l.drop (l.length / n * n)) w) := by
  obtain ⟨i0, hi, hz0, hz1, hz2⟩ := info_parts info79
  obtain ⟨k, HK⟩ : ∃ k, Hid (k = l.length / n) := ⟨_, rfl⟩
  have HKN : Hid (k * n ≤ l.length ∧ l.length < k * n + n) := Lib.hid (by
    rw [HK.out]
    have h3 := Nat.div_add_mod l.length n
    have h4 := Nat.mod_lt l.length (show n > 0 by omega)
    rw [Nat.mul_comm] at h3; omega)
  obtain ⟨len, HL⟩ : ∃ len, Hid (len = l.length) := ⟨_, rfl⟩
  have Hb := Lib.hid hb
  rw [← HK.out, ← HL.out]
  rw [← HL.out] at hl hc HKN
  have HG0 : Hid (GrewU w.heap.size w (.slice none 0 0) [] w (.slice none 0 0)) := Lib.hid (GrewU.refl (l := []) (World.ownsRow_nil w w.heap.size 38 1))
  have hn1 : 1 ≤ (n : Int) := by omega
  have hn8 : (n : Int) ≤ 8 := by omega
  have hlen : (len : Int) ≤ 1000 := by omega
  clear hb
  go_enter Tryz.func35, Tryz.ntmps35
  go_wp2_with fail
  go_loopw [6, 7] (fun vr iv wr => ∃ (i t : Nat), i ≤ k ∧ iv = .int .i64 t ∧ Hid (t = i * n) ∧ Hid (GrewU w.heap.size w (.slice none 0 0) (gl n i l) wr vr)) (fun _ iv _ => len - (intOf iv).toNat)
  case atStart => exact ⟨0, 0, Nat.zero_le _, rfl, Lib.hid (by rw [Nat.zero_mul]), HG0⟩
  case round =>
    obtain ⟨i, t, hik, rfl, HT, HG⟩ := hrel
    by_cases hilt : i < k
    · have htn : t + n ≤ len := by
        have h3 := HKN.out.1
        have h4 : (i + 1) * n ≤ k * n := Nat.mul_le_mul_right _ hilt
        rw [Nat.succ_mul] at h4
        rw [HT.out]; omega
      have htn' : (t : Int) + (n : Int) ≤ (len : Int) := by omega
      have hbw : Hid (Below w.heap.size w wr) := Lib.hid (HG.out.below (Nat.le_refl _) (by intro k hk; cases hk))
      have hsub : Hid (Bs wr (some ⟨b0, off + t, none⟩) ((l.drop t).take n)) := Lib.hid (bs_sub (Hb.out.below hbw.out) t n (by rw [← HL.out]; omega) rfl)
      obtain ⟨s, HS⟩ : ∃ s, Hid (s = (l.drop t).take n) := ⟨_, rfl⟩
      rw [← HS.out] at hsub
      have hsl : s.length = n := by rw [HS.out, List.length_take, List.length_drop, ← HL.out]; omega
      have HR := Lib.hid (bread_any (some ⟨b0, off + t, none⟩) (c - t) s wr (by omega) hsub.out)
      rw [hsl] at HR
      go_wp2_with fail
      obtain ⟨x, HX⟩ : ∃ x : Nat, Hid (x = nb s) := ⟨_, rfl⟩
      rw [← HX.out] at HR
      have hbl : Hid ((gl n i l).length + 1 ≤ maxLen ∧ ((gl n i l).length + 1) * 8 ≤ 140737488355328 ∧ w.heap.size ≤ wr.heap.size + 1) := Lib.hid (by
        have h3 := HG.out.grown.size
        have h4 : i * 1 ≤ i * n := Nat.mul_le_mul_left _ h1
        rw [gl_length]; unfold maxLen
        have h5 := HT.out
        omega)
      refine (HR.out).mono ?_
      rintro e w' ⟨rfl, rfl⟩
      go_wp2_with (at_builtin; refine wpList_append_own_at _ rfl (.tmp 17) (.tmp 25) 42 rfl w.heap.size 38 i0 (.int .u64 0) 1 8 Tryz.underlying42 hi hz0 hz1 hz2 rfl (by decide) _ _ _ rfl ((HG.out.own).alloc _) ⟨_, 0, none⟩ 1 1 [.int .u64 (x : Int)] rfl rfl (cell_one_new _ _ _) (by intro u hu; simp at hu; subst hu; rfl) hbl.out.1 hbl.out.2.1 (by simp; exact hbl.out.2.2) ?_)
      intro v5 w5 hown5 hgrow5 _ hat5
      have HG5 := Lib.hid (HG.out.next rfl hown5 hgrow5 hat5)
      clear hown5 hgrow5 hat5
      go_wp2_with fail
      go_roundw
      case rel => exact ⟨i + 1, t + n, by omega, by go_num, Lib.hid (by rw [HT.out, Nat.succ_mul]), Lib.hid (by rw [gl_snoc, ← HT.out, ← HS.out, ← HX.out]; exact HG5.out)⟩
      case measure => simp [intOf]; omega
    · obtain rfl : i = k := by omega
      have htn : ¬ t + n ≤ len := by rw [HT.out]; have := HKN.out.2; omega
      have htl : t ≤ len := by rw [HT.out]; exact HKN.out.1
      have htn' : ¬ (t : Int) + (n : Int) ≤ (len : Int) := by omega
      have hbw : Hid (Below w.heap.size w wr) := Lib.hid (HG.out.below (Nat.le_refl _) (by intro k hk; cases hk))
      have Hb2 := Lib.hid (Hb.out.below hbw.out)
      obtain ⟨qo, co, rfl, hrd, -⟩ := own_rd64 HG.out.own
      have HRD := Lib.hid hrd
      obtain ⟨X, HXX⟩ : ∃ X, Hid (X = gl n i l) := ⟨_, rfl⟩
      have hXl : X.length = i := by rw [HXX.out, gl_length]
      rw [← HXX.out, hXl] at HRD
      rw [← HXX.out, hXl]
      clear hrd
      have hmul : (i : Int) * (n : Int) = (t : Int) := by rw [HT.out]; simp
      have hrl : (l.drop t).length = len - t := by rw [List.length_drop, HL.out]
      have hfin : Hid (∀ nq q d, Bs wr q (l.drop t) → GroupsPost (gl n i l) (l.drop (i * n)) w (.returned (.tuple #[.slice qo i co, .slice q (len - t) d])) (wr.drewN nq)) := Lib.hid (fun nq q d hq => by
        refine ⟨below_dn hbw.out _, qo, co, q, d, ?_, ?_, ?_⟩
        · rw [← HT.out, hrl, gl_length]
        · rw [gl_length, ← HXX.out]; exact HRD.out.below (below_dn (Below.refl _ _) _)
        · rw [← HT.out]; exact hq.below (below_dn (Below.refl _ _) _))
      clear hrl
      by_cases hct : c = t
      · subst hct
        obtain rfl : len = c := by omega
        have hq : Hid (Bs wr (some ⟨b0, off, none⟩) (l.drop len)) := Lib.hid (.inl (by rw [HL.out, List.drop_length]; rfl))
        go_wp2_with fail
        go_quiet (fail)
        clear hmul
        go_wp2_with fail
        go_ret2
        have h := fun nq => hfin.out nq _ 0 hq.out
        simp only [Nat.sub_self] at h
        exact h _
      · have hct' : t < c := by omega
        have hq : Hid (Bs wr (some ⟨b0, off + t, none⟩) (l.drop t)) := Lib.hid (bs_tail Hb2.out t (by rw [← HL.out]; exact htl) rfl)
        go_wp2_with fail
        go_quiet (fail)
        clear hmul
        go_wp2_with fail
        go_ret2
        exact hfin.out _ _ _ hq.out
set_option maxRecDepth 100000 in
set_option maxHeartbeats 1600000 in
theorem groups_nil (p : Option Addr) (c n : Nat) (w : World) (h1 : 1 ≤ n) (h2 : n ≤ 8) (hpc : p = none → c = 0) :
    Calls Tryz.prog 35 #[.slice p 0 c, .int .i64 (n : Int)] w (GroupsPost [] [] w) := by
  have hn1 : 1 ≤ (n : Int) := by omega
  have hn8 : (n : Int) ≤ 8 := by omega
  have htn : ¬ 0 + (n : Int) ≤ 0 := by omega
  have htn2 : ¬ (n : Int) ≤ 0 := by omega
  have hmul : (0 : Int) * (n : Int) = 0 := Int.zero_mul _
  have hfin : Hid (∀ nq p c q d, GroupsPost [] [] w (.returned (.tuple #[.slice p 0 c, .slice q 0 d])) (w.drewN nq)) := Lib.hid (fun nq p c q d => ⟨below_dn (Below.refl _ _) _, p, c, q, d, rfl, Rd.nil _ _, Bs.nil _ _⟩)
  go_enter Tryz.func35, Tryz.ntmps35
  go_wp2_with fail
  go_loopw [6, 7] (fun vr iv wr => vr = .slice none 0 0 ∧ iv = .int .i64 0 ∧ wr = w) (fun _ _ _ => 0)
  case atStart => exact ⟨rfl, rfl, rfl⟩
  case round =>
    obtain ⟨rfl, rfl, rfl⟩ := hrel
    cases p with
    | none =>
      obtain rfl : c = 0 := hpc rfl
      go_wp2_with fail
      go_quiet (fail)
      go_wp2_with fail
      go_ret2
      exact hfin.out _ _ _ _ _
    | some ad =>
      obtain ⟨b0, off, sp⟩ := ad
      go_wp2_with fail
      go_quiet (fail)
      go_wp2_with fail
      go_ret2
      exact hfin.out _ _ _ _ _
theorem groups_any (p : Option Addr) (c n : Nat) (l : List UInt8) (w : World) (h1 : 1 ≤ n) (h2 : n ≤ 8) (hl : l.length ≤ 1000) (hc : l.length ≤ c) (hpc : p = none → c = 0) (hb : Bs w p l) :
    Calls Tryz.prog 35 #[.slice p l.length c, .int .i64 (n : Int)] w (GroupsPost (gl n (l.length / n) l) (l.drop (l.length / n * n)) w) := by
  rcases hb with h0 | ⟨b, off, rfl, h3, h4⟩
  · obtain rfl := List.eq_nil_of_length_eq_zero h0
    have e : ([] : List UInt8).length / n = 0 := Nat.zero_div n
    rw [e, Nat.zero_mul]
    exact groups_nil p c n w h1 h2 hpc
  · exact groups_some b off c n l w h1 h2 hl hc (.inr ⟨b, off, rfl, h3, h4⟩)
end Go.Proofs.YtpbcdmefngbjjaaGreatDoor
namespace Go.Proofs.YtpbcdmefngbjjaaGreatDoor
open Go.RowKit
open Go.Lib
def jl (n : Nat) : List Nat → List UInt8
  | [] => []
  | x :: xs => be n x ++ jl n xs
theorem jl_append (n : Nat) (ys : List Nat) : ∀ xs, jl n (xs ++ ys) = jl n xs ++ jl n ys
  | [] => rfl
  | x :: xs => by rw [List.cons_append, jl, jl, jl_append n ys xs, List.append_assoc]
theorem jl_length (n : Nat) : ∀ xs, (jl n xs).length = xs.length * n
  | [] => by rw [jl, List.length_nil, List.length_nil, Nat.zero_mul]
  | x :: xs => by rw [jl, List.length_append, be_length, jl_length n xs, List.length_cons, Nat.succ_mul, Nat.add_comm]
theorem take_snoc {α : Type} {l : List α} {i : Nat} (d : α) (h : i < l.length) : l.take (i + 1) = l.take i ++ [l.getD i d] := by
  rw [List.getD_eq_getElem?_getD, List.getElem?_eq_getElem h, Option.getD_some, List.take_append_getElem h]
set_option maxRecDepth 100000 in
set_option maxHeartbeats 1600000 in
theorem joined_any (p : Option Addr) (c k n : Nat) (gs : List Nat) (q : Option Addr) (r d : Nat) (rs : List UInt8) (w : World) (h1 : 1 ≤ n) (h2 : n ≤ 8) (hk : k * n ≤ 1000) (hr : r ≤ 1000) (hgs : Rd w p k gs) (hlt : ∀ x ∈ gs, x < W64) (hrl : Hid (rs.length = r)) (hrs : Bs w q rs) :
    Calls Tryz.prog 36 #[.slice p k c, .int .i64 (n : Int), .slice q r d] w (App w.heap.size w (.slice none 0 0) (jl n gs ++ rs)) := by
  obtain ⟨i0, hi, hz0, hz1, hz2⟩ := info_parts info5
  have HK := Lib.hid hgs
  have HR := Lib.hid hrs
  have HLT := Lib.hid hlt
  have HK8 := Lib.hid hk
  have hkk : k ≤ 1000 := by have : k * 1 ≤ k * n := Nat.mul_le_mul_left _ h1; omega
  have hki : (k : Int) ≤ 1000 := by omega
  have hn1 : 1 ≤ (n : Int) := by omega
  have hn8 : (n : Int) ≤ 8 := by omega
  have hri : (r : Int) ≤ 1000 := by omega
  obtain ⟨t, HT⟩ : ∃ t : Nat, Hid (t = k * n) := ⟨_, rfl⟩
  have hmul : (k : Int) * (n : Int) = (t : Int) := by rw [HT.out]; simp
  have hti : (t : Int) ≤ 1000 := by rw [HT.out]; omega
  clear hgs hrs hlt hk
  go_enter Tryz.func36, Tryz.ntmps36
  go_wp2_with (at_make; refine wpList_make_own _ rfl _ _ 22 rfl w.heap.size 5 i0 (.int .u8 0) 1 Tryz.underlying22 hi hz0 hz1 _ _ _ (t + r) rfl rfl ?b1 ?b2 ?b3 (Nat.le_refl _) ?_)
  case b1 => omega
  case b2 => rw [hz2]; omega
  case b3 => unfold maxLen; omega
  intro w1 hown hgrow
  have HG0 : Hid (Grew w.heap.size w (.slice none 0 0) [] w1 (.slice (some ⟨w.heap.size, 0, none⟩) 0 (t + r))) := Lib.hid ⟨hown, hgrow, .inr ⟨_, rfl, Nat.le_refl _⟩⟩
  clear hown hgrow
  go_wp2_with fail
  go_loopw [7, 8] (fun vr iv wr => ∃ (i : Nat), i ≤ k ∧ iv = .int .i64 i ∧ Hid (Grew w.heap.size w (.slice none 0 0) (jl n (gs.take i)) wr vr)) (fun _ iv _ => k - (intOf iv).toNat)
  case atStart => exact ⟨0, Nat.zero_le _, rfl, Lib.hid (by rw [List.take_zero]; exact HG0.out)⟩
  case round =>
    obtain ⟨i, hik, rfl, HG⟩ := hrel
    have hbw : Hid (Below w.heap.size w wr) := Lib.hid (HG.out.below (Nat.le_refl _) (by intro k hk; cases hk))
    by_cases hilt : i < k
    · obtain ⟨b1, o1, x, rfl, hb1, hc1, hx⟩ := (HK.out.below hbw.out).at hilt
      have hxl : x < W64 := by
        rw [← hx.out]
        have hlen : i < gs.length := by rw [HK.out.len]; exact hilt
        rw [List.getD_eq_getElem?_getD, List.getElem?_eq_getElem hlen]
        exact HLT.out _ (List.getElem_mem hlen)
      have HN := Lib.hid (rnumber_any x n wr h2 hxl)
      have hxi : (x : Int) ≤ 18446744073709551615 := by unfold W64 at hxl; omega
      clear hxl
      go_wp2_with fail
      refine (HN.out).mono ?_
      rintro e w2 ⟨v2, rfl, hg2⟩
      obtain ⟨p2, c2, rfl, hb2, -⟩ := own_bytes hg2.own
      rw [be_length]
      have hbel : Below wr.heap.size wr w2 := hg2.below (Nat.le_refl _) (by intro k hk; cases hk)
      have HG2 := Lib.hid (HG.out.trans (Grew.of_below HG.out.own hbel))
      have HB2 := Lib.hid hb2
      have hbl : Hid ((jl n (gs.take i)).length + n ≤ 140737488355328 ∧ w.heap.size ≤ w2.heap.size) := Lib.hid (by
        have h3 := hbw.out.size
        have h4 := hbel.size
        have h5 : (gs.take i).length ≤ k := by rw [List.length_take]; omega
        have h6 : (gs.take i).length * n ≤ k * n := Nat.mul_le_mul_right _ h5
        have h7 := HK8.out
        rw [jl_length]
        exact ⟨by omega, by omega⟩)
      have hstep : Hid (jl n (gs.take (i + 1)) = jl n (gs.take i) ++ be n x) := Lib.hid (by
        rw [take_snoc 0 (by rw [HK.out.len]; exact hilt), jl_append, hx.out, jl, jl, List.append_nil])
      clear hg2 hb2 hbel
      go_wp2_with (at_builtin; refine wpList_append_bs rfl (.tmp 23) (.tmp 29) rfl w.heap.size _ (jl n (gs.take i)).length (jl n (gs.take i)) rfl rfl HG2.out.own p2 n c2 (be n x) rfl (be_length _ _) HB2.out hbl.out.1 hbl.out.2 ?_)
      intro v5 w5 hg5
      have HG5 := Lib.hid (HG2.out.trans hg5)
      clear hg5
      go_wp2_with fail
      go_roundw
      case rel => exact ⟨i + 1, by omega, by go_num, Lib.hid (by rw [hstep.out]; exact HG5.out)⟩
      case measure => simp [intOf]; omega
    · obtain rfl : i = k := by omega
      have HRS := Lib.hid (HR.out.below hbw.out)
      have hall : Hid (gs.take i = gs) := Lib.hid (List.take_of_length_le (by rw [HK.out.len]; exact Nat.le_refl _))
      have hbl : Hid ((jl n (gs.take i)).length + r ≤ 140737488355328 ∧ w.heap.size ≤ wr.heap.size) := Lib.hid (by
        have h3 := hbw.out.size
        have h7 := HK8.out
        rw [jl_length, hall.out, HK.out.len]
        exact ⟨by omega, h3⟩)
      go_wp2_with (at_builtin; refine wpList_append_bs rfl (.tmp 31) (.tmp 32) rfl w.heap.size _ (jl n (gs.take i)).length (jl n (gs.take i)) rfl rfl HG.out.own q r d rs rfl hrl.out HRS.out hbl.out.1 hbl.out.2 ?_)
      intro v5 w5 hg5
      have HG5 := Lib.hid (HG.out.trans hg5)
      clear hg5
      rw [hall.out] at HG5
      go_wp2_with fail
      go_ret
      exact ⟨_, rfl, HG5.out⟩
end Go.Proofs.YtpbcdmefngbjjaaGreatDoor
namespace Go.Proofs.YtpbcdmefngbjjaaGreatDoor
open Go.RowKit
open Go.Lib
def stL (st : Nat → Nat → Nat × Nat) : Nat → List Nat → List Nat
  | _, [] => []
  | a, g :: gs => (st a g).1 :: stL st (st a g).2 gs
theorem stL_length (st : Nat → Nat → Nat × Nat) : ∀ (gs : List Nat) (a : Nat), (stL st a gs).length = gs.length
  | [], _ => rfl
  | g :: gs, a => by rw [stL, List.length_cons, stL_length st gs, List.length_cons]
theorem chR_jl (st : Nat → Nat → Nat × Nat) (n : Nat) : ∀ (k a : Nat) (l : List UInt8), jl n (stL st a (gl n k l)) ++ l.drop (k * n) = chR st n k a l
  | 0, a, l => by rw [gl, stL, jl, chR, Nat.zero_mul, List.drop_zero, List.nil_append]
  | k + 1, a, l => by
    rw [gl, stL, jl, chR, List.append_assoc, ← chR_jl st n k _ (l.drop n), List.drop_drop, Nat.succ_mul, Nat.add_comm n]
theorem stL_lt {st : Nat → Nat → Nat × Nat} (h : ∀ a g, (st a g).1 < W64) : ∀ (gs : List Nat) (a : Nat), ∀ x ∈ stL st a gs, x < W64
  | [], _, x, hx => by cases hx
  | g :: gs, a, x, hx => by
    rw [stL, List.mem_cons] at hx
    rcases hx with rfl | hx
    · exact h _ _
    · exact stL_lt h gs _ x hx
/-- A row that is filled from the left: what stands in it, and the state. -/
structure FillAt (st : Nat → Nat → Nat × Nat) (gs : List Nat) (k i a : Nat) (X : List Nat) : Prop where
  ex : ∃ P : List Nat, P.length = i ∧ X = P ++ List.replicate (k - i) 0 ∧ P ++ stL st a (gs.drop i) = stL st 0 gs
theorem FillAt.start (st : Nat → Nat → Nat × Nat) (gs : List Nat) (k : Nat) : FillAt st gs k 0 0 (List.replicate k 0) := ⟨[], rfl, by rw [Nat.sub_zero, List.nil_append], by rw [List.nil_append, List.drop_zero]⟩
theorem FillAt.step {st : Nat → Nat → Nat × Nat} {gs X : List Nat} {k i a : Nat} (h : FillAt st gs k i a X) (hl : gs.length = k) (hi : i < k) : FillAt st gs k (i + 1) (st a (gs.getD i 0)).2 (X.set i (st a (gs.getD i 0)).1) := by
  obtain ⟨P, h1, h2, h3⟩ := h.ex
  have hd : gs.drop i = gs.getD i 0 :: gs.drop (i + 1) := by
    rw [List.getD_eq_getElem?_getD, List.getElem?_eq_getElem (by omega), Option.getD_some]
    exact List.drop_eq_getElem_cons (by omega)
  refine ⟨P ++ [(st a (gs.getD i 0)).1], by rw [List.length_append, h1]; rfl, ?_, ?_⟩
  · have hk : k - i = (k - (i + 1)) + 1 := by omega
    rw [h2, ← h1, List.set_append_right _ _ (Nat.le_refl _), Nat.sub_self, h1, hk, List.replicate_succ, List.set_cons_zero, List.append_assoc]; rfl
  · rw [← h3, hd, stL, List.append_assoc]; rfl
theorem FillAt.done {st : Nat → Nat → Nat × Nat} {gs X : List Nat} {k a : Nat} (h : FillAt st gs k k a X) (hl : gs.length = k) : X = stL st 0 gs := by
  obtain ⟨P, h1, h2, h3⟩ := h.ex
  rw [List.drop_of_length_le (by omega), stL, List.append_nil] at h3
  rw [h2, Nat.sub_self, List.replicate_zero, List.append_nil, h3]
theorem FillAt.len {st : Nat → Nat → Nat × Nat} {gs X : List Nat} {k i a : Nat} (h : FillAt st gs k i a X) (hi : i ≤ k) : X.length = k := by
  obtain ⟨P, h1, h2, h3⟩ := h.ex
  rw [h2, List.length_append, List.length_replicate, h1]; omega
theorem rd_of_row {w : World} {g k : Nat} {X : List Nat} (h : Row w g 38 X) (hk : X.length = k) : Rd w (some ⟨g, 0, none⟩) k X := by
  subst hk
  refine ⟨rfl, .inr ⟨g, 0, rfl, h.lt, fun j hj => ?_⟩⟩
  rw [Nat.zero_add]; exact h.cell j hj
set_option maxRecDepth 100000 in
set_option maxHeartbeats 1600000 in
theorem rdelta_ok (p : Option Addr) (c n len : Nat) (l : List UInt8) (w : World) (HN : Hid (len = l.length)) (h1 : 1 ≤ n) (h2 : n ≤ 8) (hl : len ≤ 1000) (hc : Hid (len ≤ c)) (hpc : Hid (p = none → c = 0)) (hb : Bs w p l) :
    Calls Tryz.prog 12 #[.slice p len c, .int .i64 (n : Int)] w (RowB (delL l n) len w) := by
  obtain ⟨i0, hi, hz0, hz1, hz2⟩ := info_parts info79
  have HA := Lib.hid (asked_ok p len c n w h1 h2 hl)
  have HG := Lib.hid (groups_any p c n l w h1 h2 (by rw [← HN.out]; exact hl) (by rw [← HN.out]; exact hc.out) hpc.out hb)
  rw [← HN.out] at HG
  obtain ⟨k, HK⟩ : ∃ k, Hid (k = len / n) := ⟨_, rfl⟩
  rw [← HK.out] at HG
  have HKN : Hid (k * n ≤ len) := Lib.hid (by rw [HK.out]; exact Nat.div_mul_le_self _ _)
  have hkl : k ≤ len := by have := HKN.out; have h4 : k * 1 ≤ k * n := Nat.mul_le_mul_left _ h1; omega
  have hki : (k : Int) ≤ 1000 := by omega
  obtain ⟨gs, HGS⟩ : ∃ gs, Hid (gs = gl n k l) := ⟨_, rfl⟩
  have hgl : Hid (gs.length = k) := Lib.hid (by rw [HGS.out, gl_length])
  have hglt : Hid (∀ x ∈ gs, x < W64) := Lib.hid (by rw [HGS.out]; exact gl_lt h2 k l)
  obtain ⟨rs, HRS⟩ : ∃ rs, Hid (rs = l.drop (k * n)) := ⟨_, rfl⟩
  rw [← HGS.out, ← HRS.out] at HG
  have hfin : Hid (jl n (stL dStep 0 gs) ++ rs = delL l n) := Lib.hid (by rw [HGS.out, HRS.out, chR_jl, delL, HK.out, HN.out])
  obtain ⟨r, HR⟩ : ∃ r, Hid (rs.length = r) := ⟨_, rfl⟩
  have hrl : r ≤ 1000 := by rw [← HR.out, HRS.out, List.length_drop, ← HN.out]; omega
  have hn1 : 1 ≤ (n : Int) := by omega
  have hn8 : (n : Int) ≤ 8 := by omega
  clear hb
  go_enter Tryz.func12, Tryz.ntmps12
  go_wp2_with fail
  refine (HA.out).mono ?_
  rintro e w' ⟨rfl, rfl⟩
  go_wp2_with fail
  refine (HG.out).mono ?_
  rintro e w1 ⟨hb1, p1, c1, q1, d1, rfl, hrd, hbs⟩
  rw [hgl.out] at hrd ⊢
  rw [HR.out]
  have HB1 := Lib.hid hb1
  have HRD := Lib.hid hrd
  have HBS := Lib.hid hbs
  clear hb1 hrd hbs
  go_wp2_with (at_make; refine wpList_make_full _ rfl _ _ 42 rfl w1.heap.size 38 i0 (.int .u64 0) 1 Tryz.underlying42 hi hz0 hz1 _ _ _ _ k rfl rfl (by omega) (by omega) ?b2 ?b3 (Nat.le_refl _) ?_)
  case b2 => rw [hz2]; omega
  case b3 => unfold maxLen; omega
  intro w2 hown hgrow
  have HR2 : Hid (Row w2 w1.heap.size 38 (List.replicate k 0)) := Lib.hid (row_of_made hown)
  have HB2 : Hid (Below w1.heap.size w1 w2) := Lib.hid ((Below.refl _ _).grown hgrow (Nat.le_refl _) (fun k h => by cases h))
  clear hown hgrow
  go_wp2_with fail
  go_loopw [10] (fun iv wr => ∃ (i : Nat) (X : List Nat), i ≤ k ∧ iv = .int .i64 i ∧ Hid (FillAt dStep gs k i (if i = 0 then 0 else gs.getD (i - 1) 0) X) ∧ Hid (Row wr w1.heap.size 38 X) ∧ Hid (Below w1.heap.size w1 wr)) (fun iv _ => k - (intOf iv).toNat)
  case atStart => exact ⟨0, _, Nat.zero_le _, rfl, Lib.hid (FillAt.start _ _ _), HR2, HB2⟩
  case round =>
    obtain ⟨i, X, hik, rfl, HF, HX, HB⟩ := hrel
    have hXl : X.length = k := HF.out.len hik
    by_cases hilt : i < k
    · obtain ⟨b1, o1, x, rfl, hb1, hc1, hx⟩ := (HRD.out.below HB.out).at hilt
      have hx0 := HX.out.cell i (by omega)
      have hf0 := HX.out.free i
      have hne : b1 ≠ w1.heap.size := by
        have := HRD.out.opened (by omega)
        obtain ⟨b, o, h5, h6, -⟩ := this
        cases h5; omega
      by_cases hi0 : i = 0
      · subst hi0
        rw [Nat.add_zero] at hc1
        have HF1 : Hid (FillAt dStep gs k 1 (if 1 = 0 then 0 else gs.getD (1 - 1) 0) (X.set 0 x)) := Lib.hid (by
          have h := HF.out.step hgl.out hilt
          have e : (dStep 0 x).1 = x := by
            show (x + W64 - 0) % W64 = x
            rw [Nat.sub_zero, Nat.add_mod_right]; exact Nat.mod_eq_of_lt (by
              rw [← hx.out, List.getD_eq_getElem?_getD, List.getElem?_eq_getElem (by rw [hgl.out]; exact hilt)]
              exact hglt.out _ (List.getElem_mem _))
          rw [if_pos rfl, hx.out, e] at h
          rw [if_neg (by decide), Nat.sub_self, hx.out]; exact h)
        have HX1 := Lib.hid (HX.out.set 0 x)
        have HB1' : Hid (Below w1.heap.size w1 (wr.setCell ⟨w1.heap.size, 0, none⟩ (.int .u64 (x : Int)))) := Lib.hid (HB.out.setCell (p := ⟨w1.heap.size, 0, none⟩) (Nat.le_refl _) _)
        go_wp2_with fail
        go_roundw
        case rel => exact ⟨1, X.set 0 x, by omega, by go_num, HF1, HX1, HB1'⟩
        case measure => simp [intOf]; omega
      · obtain ⟨j, HJ⟩ : ∃ j, Hid (j = i - 1) := ⟨_, rfl⟩
        have hij : (i : Int) - 1 = (j : Int) := by rw [HJ.out]; omega
        have hipos : 0 < (i : Int) := by omega
        have hjk : j < k := by rw [HJ.out]; omega
        have hji : (j : Int) < k := by omega
        obtain ⟨b2, o2, y, e2, -, hc2, hy⟩ := (HRD.out.below HB.out).at hjk
        cases e2
        have HB3 : Hid (Below w1.heap.size w1 (wr.setCell ⟨w1.heap.size, i, none⟩ (.int .u64 (x : Int)))) := Lib.hid (HB.out.setCell (p := ⟨w1.heap.size, i, none⟩) (Nat.le_refl _) _)
        have HX3 := Lib.hid (HX.out.set i x)
        go_wp2_with fail
        clear hc1 hc2 hx0 hf0
        obtain ⟨W3, hW3⟩ : ∃ W3, wr.setCell ⟨w1.heap.size, i, none⟩ (.int .u64 (x : Int)) = W3 := ⟨_, rfl⟩
        rw [hW3] at HB3 HX3 ⊢
        clear hW3
        obtain ⟨b2, o2, x', e2, -, hc1, hx'⟩ := (HRD.out.below HB3.out).at hilt
        cases e2
        obtain rfl : x = x' := hx.out.symm.trans hx'.out
        obtain ⟨b2, o2, y', e2, -, hc2, hy'⟩ := (HRD.out.below HB3.out).at hjk
        cases e2
        obtain rfl : y = y' := hy.out.symm.trans hy'.out
        have hx3 := HX3.out.cell i (by rw [List.length_set]; omega)
        have hf3 := HX3.out.free i
        obtain ⟨v, HV⟩ : ∃ v, Hid (v = (x + W64 - y) % W64) := ⟨_, rfl⟩
        have hglx : ∀ t, t < k → gs.getD t 0 < W64 := fun t ht => by
          rw [List.getD_eq_getElem?_getD, List.getElem?_eq_getElem (by rw [hgl.out]; exact ht)]
          exact hglt.out _ (List.getElem_mem _)
        have hsub : IntKind.u64.wrap ((x : Int) - (y : Int)) = (v : Int) := by
          have h5 := hglx i hilt
          have h6 := hglx j hjk
          rw [hx.out] at h5
          rw [hy.out] at h6
          rw [IntKind.wrap_u64, HV.out]; unfold W64 at *; omega
        clear hglx
        go_region
        clear hsub
        have HF1 : Hid (FillAt dStep gs k (i + 1) (if i + 1 = 0 then 0 else gs.getD (i + 1 - 1) 0) (X.set i v)) := Lib.hid (by
          have h := HF.out.step hgl.out hilt
          rw [if_neg hi0, ← HJ.out, hy.out, hx.out] at h
          rw [if_neg (by omega), Nat.add_sub_cancel, hx.out, HV.out]; exact h)
        have HX1 : Hid (Row (W3.setCell ⟨w1.heap.size, i, none⟩ (.int .u64 (v : Int))).drew w1.heap.size 38 (X.set i v)) := Lib.hid (by
          have h := (HX3.out.set i v).drew
          rwa [List.set_set] at h)
        have HB1' : Hid (Below w1.heap.size w1 (W3.setCell ⟨w1.heap.size, i, none⟩ (.int .u64 (v : Int))).drew) := Lib.hid (HB3.out.setCell (p := ⟨w1.heap.size, i, none⟩) (Nat.le_refl _) _).drew
        go_wp2_with fail
        go_roundw
        case rel => exact ⟨i + 1, X.set i v, by omega, by go_num, HF1, HX1, HB1'⟩
        case measure => simp [intOf]; omega
    · obtain rfl : i = k := by omega
      have hX := HF.out.done hgl.out
      have HJ := Lib.hid (joined_any (some ⟨w1.heap.size, 0, none⟩) i i n X q1 r d1 rs wr h1 h2 (Nat.le_trans HKN.out hl) hrl (rd_of_row HX.out hXl) (by rw [hX]; exact stL_lt (fun a g => Nat.mod_lt _ (by decide)) gs 0) HR (HBS.out.below HB.out))
      rw [hX, hfin.out] at HJ
      have HBB := Lib.hid (HB1.out.trans (HB.out.mono HB1.out.size))
      have hlenr : (delL l n).length = len := by rw [delL_length]; exact HN.out.symm
      clear hX hXl
      go_wp2_with fail
      refine (HJ.out).mono ?_
      rintro e w3 ⟨v3, rfl, hg3⟩
      obtain ⟨p3, c3, rfl, hb3, hd3⟩ := own_bytes hg3.own
      rw [hlenr] at hd3 ⊢
      have HB3 := Lib.hid hb3
      have HBF := Lib.hid (HBB.out.trans ((hg3.below (Nat.le_refl _) (by intro k hk; cases hk)).mono HBB.out.size))
      clear hg3 hb3
      go_wp2_with fail
      go_ret2
      exact ⟨HBF.out, _, _, rfl, hd3, HB3.out⟩
end Go.Proofs.YtpbcdmefngbjjaaGreatDoor
