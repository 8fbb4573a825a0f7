/- Both Dicts of no bytes at all. -/
import Derived.Test.YtpnofkefcoaojaaGreatDoorKC
import Derived.Test.YtpnofkefcoaojaaGreatDoorWFT
import Derived.Test.YtpnofkefcoaojaaGreatDoorWFJ
import Derived.Test.YtpnofkefcoaojaaGreatDoorWSX
import Derived.Test.YtpnofkefcoaojaaGreatDoorWDS
import Derived.Test.YtpnofkefcoaojaaGreatDoorWEE
import Derived.Test.YtpnofkefcoaojaaGreatDoorWFK
import Derived.Test.YtpnofkefcoaojaaGreatDoorYA
import Derived.Test.YtpnofkefcoaojaaGreatDoorYC
import Derived.BigQuiet
import Derived.Deep.QuietTactic
import Derived.StillTailTactics
set_option maxHeartbeats 2000000
set_option maxRecDepth 100000
namespace Go.Proofs.YtpnofkefcoaojaaGreatDoor
open Go.RowKit Go.Shelf Go.Maps
open Go.Lib
attribute [local go_sem] Oper.semAt_some
theorem it83_nil (p : Option Addr) (c : Nat) (m : Nat) (lr Bb Bn : Nat) (J Jx : List (Pl 0) → World → Prop) (W : World) (hBb : W.cell? ⟨Bb, 0, none⟩ = some (.slice p 0 c)) (h0 : J [] W) :
    CallsIn Fence.wide m Tryz.prog 226 #[.func (.yield lr) #[] #[], .pointer (some ⟨Bb, 0, none⟩), .pointer (some ⟨Bn, 0, none⟩)] W fun e W' => (∃ v, e = .returned v) ∧
      ((∃ ys : List (Pl 0), ys.map (·.1) = List.range 0 ∧ J ys W') ∨ (∃ pre : List (Pl 0), True ∧ Jx pre W')) := by
  have H0 := Lib.hid h0
  clear h0
  refine callsIn_of_wp Tryz.func226 rfl trivial ?_ rfl
  simp only [Tryz.ntmps226, List.size_toArray, List.length_cons, List.length_nil, Nat.reduceAdd, Nat.reduceSub, Array.replicate_succ, Array.replicate_zero, List.push_toArray, List.append_toArray, List.nil_append, List.cons_append]
  gi_wp2
  gi_loopw [4] (fun tv wr => tv = .int .i64 0 ∧ wr = W) (fun _ _ => 0)
  case atStart => exact ⟨rfl, rfl⟩
  case round =>
    obtain ⟨rfl, rfl⟩ := hrel
    gi_wp2
    go_end0
    exact ⟨⟨_, rfl⟩, .inl ⟨[], rfl, H0.out⟩⟩
theorem chunk_stops_nil (p : Option Addr) (c : Nat) (m : Nat) (Bb Bn N0 : Nat) (w : World) (hB2 : Bb < w.heap.size) (hBb : w.cell? ⟨Bb, 0, none⟩ = some (.slice p 0 c)) :
    SeqStopsK Fence.wide m Tryz.prog 226 #[.pointer (some ⟨Bb, 0, none⟩), .pointer (some ⟨Bn, 0, none⟩)] (fun _ : Pl 0 => #[.slice p 0 c]) (Keep3 N0 Bn Bb) (fun ys => ys.map (·.1) = List.range 0) (fun _ => True) 0 w := fun lr J Jx W hW _ _ _ h0 =>
  it83_nil p c m lr Bb Bn J Jx W ((hW.cell (p := ⟨Bb, 0, none⟩) hB2).trans hBb) h0
theorem appendPlain_nil (p : Option Addr) (c : Nat) (B : Nat) (w : World) (hB : B ≤ w.heap.size) : Calls Tryz.prog 154 #[.slice none 0 0, .slice p 0 c] w (App B w (.slice none 0 0) (spL [])) := by
  refine (callsIn_wide (n := 9)).1 ?_
  refine callsIn_of_wp_marks Tryz.func154 rfl trivial ?_ rfl
  simp only [Tryz.ntmps154, List.size_toArray, List.length_cons, List.length_nil, Nat.reduceAdd, Nat.reduceSub, Array.replicate_succ, Array.replicate_zero, List.push_toArray, List.append_toArray, List.nil_append, List.cons_append]
  gi_wp2_with (refine ⟨trivial, ?_⟩; gi_at_call 193; refine (chunk_in _ _ _ _ _).mono ?_; rintro e w' ⟨rfl, rfl⟩)
  obtain ⟨W0, hW0⟩ : ∃ W0, (((w.alloc (.cells #[.slice none 0 0] 39)).alloc (.cells #[.slice p 0 c] 39)).alloc (.cells #[.int .i64 128] 3)) = W0 := ⟨_, rfl⟩
  have hs0 : W0.heap.size = w.heap.size + 3 := by rw [← hW0]; simp
  have hbe : Below w.heap.size w W0 := by rw [← hW0]; exact (((Below.refl _ w).alloc (Nat.le_refl _) _).alloc (by simp) _).alloc (by simp <;> omega) _
  have hO0 : W0.heap[w.heap.size]? = some (.cells #[.slice none 0 0] 39 (0, 0)) := by
    rw [← hW0]; exact (Below.heap_alloc _ _ _ (by simp <;> omega)).trans ((Below.heap_alloc _ _ _ (by simp)).trans (World.alloc_heap_new w _))
  have hI1 : W0.heap[w.heap.size + 1]? = some (.cells #[.slice p 0 c] 39 (0, 0)) := by
    rw [← hW0]; refine (Below.heap_alloc _ _ _ (by simp)).trans ?_
    have := World.alloc_heap_new (w.alloc (.cells #[.slice none 0 0] 39)) (.cells #[.slice p 0 c] 39); rwa [World.size_alloc] at this
  rw [hW0]
  refine wpIn_rangeFunc_ownF rfl (by omega) (gf := 226) (lb := #[.pointer (some ⟨w.heap.size + 1, 0, none⟩), .pointer (some ⟨w.heap.size + 1 + 1, 0, none⟩)]) rfl trivial (enters_of Tryz.func226 (by kernel_rfl) rfl)
    (chunk_stops_nil p c _ (w.heap.size + 1) (w.heap.size + 1 + 1) B W0 (by omega) (by simp [World.cell?, hI1])) Keep3.trans
    (fun W lo o o' hlo ho hc hw => ⟨(Below.refl _ W).grown (grownBy_putObj' W lo o') (by have := (Array.getElem?_eq_some_iff.1 ho).1; omega) (fun k e => by cases e; omega), World.putObj_heap_other (by omega), World.putObj_heap_other (by omega)⟩) (Below.refl _ _) (fun _ => rfl)
    (fun _ W => Below w.heap.size w W ∧ W.heap[w.heap.size]? = some (.cells #[.slice none 0 0] 39 (0, 0)))
    (fun _ _ _ => False)
    (fun s W W' row h hg hr => ⟨h.1.grown hg h.1.size (fun k e => by have := (hr k e).1; omega), (grownBy_keeps_cells hg (fun r e => (hr r e).2) h.2 rfl).trans h.2⟩)
    (fun _ _ _ _ _ h _ _ => h)
    ⟨hbe, hO0⟩ ?a1 ?assign ?body ?done ?stop
  case assign =>
    intro lo x W K hK
    gi_wp2
    exact hK
  case body =>
    rintro lo pre x W _ h
    exact absurd h (Nat.not_lt_zero _)
  case done =>
    rintro Dd xs W hD hxs ⟨hb, hO⟩ hK
    have cO : W.cell? ⟨w.heap.size, 0, none⟩ = some (.slice none 0 0) := by simp [World.cell?, hO]
    have hB9 : Below w.heap.size w (W.putObj Dd (.deferred none)) := hb.grown (grownBy_putObj' W Dd (.deferred none)) hb.size (fun k e => by cases e; omega)
    have hfin : Grew B w (.slice none 0 0) [] (W.putObj Dd (.deferred none)) (.slice none 0 0) := Grew.of_below (l := []) (World.ownsRow_nil w B 5 1) hB9
    clear hb hO hB9
    gi_wp2
    refine ⟨by simp, .inl ⟨_, _, rfl, run_takeDeferred hK, ?_⟩⟩
    refine ⟨_, ?_, .slice none 0 0, rfl, hfin⟩
    simp [results, Tryz.f154, go_sem]
  case stop =>
    rintro D c pre W hD _ h
    exact h.elim
theorem index_nil (p : Option Addr) (c : Nat) (w : World) : Calls Tryz.prog 152 #[.slice p 0 c] w fun e w1 => Below w.heap.size w w1 ∧ e = .returned (.agg #[.slice p 0 c, .map (some (w.heap.size + 1))]) := by
  have hmm := @run_makeMap Tryz.prog
  obtain ⟨W0, HW0⟩ : ∃ W0, Hid (((w.alloc (.cells #[.slice none 0 0, .map none] 152)).alloc (.map #[] 0)).alloc (.cells #[.slice p 0 c, .map (some (w.heap.size + 1))] 152) = W0) := ⟨_, Lib.hid rfl⟩
  have HB0 : Hid (Below w.heap.size w W0) := Lib.hid (by
    rw [← HW0.out]
    exact (((Below.refl _ w).alloc (Nat.le_refl _) _).alloc (by simp) _).alloc (by simp; omega) _)
  have HX0 : Hid (W0.heap[w.heap.size]? = some (.cells #[.slice none 0 0, .map none] 152 (0, 0)) ∧ W0.heap[w.heap.size + 1 + 1]? = some (.cells #[.slice p 0 c, .map (some (w.heap.size + 1))] 152 (0, 0))) := Lib.hid (by
    rw [← HW0.out]
    constructor
    · exact (Below.heap_alloc _ _ _ (by simp; omega)).trans ((Below.heap_alloc _ _ _ (by simp)).trans (World.alloc_heap_new w _))
    · have := World.alloc_heap_new ((w.alloc (.cells #[.slice none 0 0, .map none] 152)).alloc (.map #[] 0)) (.cells #[.slice p 0 c, .map (some (w.heap.size + 1))] 152); rwa [World.size_alloc, World.size_alloc] at this)
  go_enter Tryz.func152, Tryz.ntmps152
  go_wp2_with fail
  rw [HW0.out]
  clear hmm
  go_loopw [4] (fun pv wr => pv = .int .i64 0 ∧ wr = W0) (fun _ _ => 0)
  case atStart => exact ⟨rfl, rfl⟩
  case round =>
    obtain ⟨rfl, rfl⟩ := hrel
    have c0 : wr.cell? ⟨w.heap.size + 1 + 1, 0, none⟩ = some (.slice p 0 c) := by simp [World.cell?, HX0.out.2]
    have c1 : wr.cell? ⟨w.heap.size + 1 + 1, 1, none⟩ = some (.map (some (w.heap.size + 1))) := by simp [World.cell?, HX0.out.2]
    have r0 : wr.cell? ⟨w.heap.size, 0, none⟩ = some (.slice none 0 0) := by simp [World.cell?, HX0.out.1]
    have r1 : wr.cell? ⟨w.heap.size, 1, none⟩ = some (.map none) := by simp [World.cell?, HX0.out.1]
    have z0 : wr.frozen? ⟨w.heap.size, 0, none⟩ = false := by simp [World.frozen?, HX0.out.1]
    have z1 : wr.frozen? ⟨w.heap.size, 1, none⟩ = false := by simp [World.frozen?, HX0.out.1]
    have hrow : ∀ (W : World) (y0 y1 s1 s2 : Value), W.heap[w.heap.size]? = some (.cells #[y0, y1] 152 (0, 0)) → ((W.setCell ⟨w.heap.size, 0, none⟩ s1).setCell ⟨w.heap.size, 1, none⟩ s2).heap[w.heap.size]? = some (.cells #[s1, s2] 152 (0, 0)) := fun W y0 y1 s1 s2 h0 => by
      have h1 := setRow_heap W w.heap.size _ (#[y0, y1].setIfInBounds 0 s1) 152 (0, 0) h0
      rw [← setCell_eq_setRow W w.heap.size 0 _ 152 (0, 0) _ h0] at h1
      have h2 := setRow_heap _ w.heap.size _ ((#[y0, y1].setIfInBounds 0 s1).setIfInBounds 1 s2) 152 (0, 0) h1
      rw [← setCell_eq_setRow _ w.heap.size 1 _ 152 (0, 0) _ h1] at h2
      exact h2
    have HEND : Hid (Below w.heap.size w ((wr.setCell ⟨w.heap.size, 0, none⟩ (.slice p 0 c)).setCell ⟨w.heap.size, 1, none⟩ (.map (some (w.heap.size + 1))))) := Lib.hid
      ((HB0.out.setCell (p := ⟨w.heap.size, 0, none⟩) (Nat.le_refl _) _).setCell (p := ⟨w.heap.size, 1, none⟩) (Nat.le_refl _) _)
    have HROW := Lib.hid (hrow wr _ _ (.slice p 0 c) (.map (some (w.heap.size + 1))) HX0.out.1)
    clear hrow
    go_wp2_with fail
    refine bodyPost_ret (results_cell_row rfl _ _ w.heap.size 152 _ (0, 0) _ rfl HROW.out rfl rfl rfl) rfl ?_
    exact ⟨HEND.out, rfl⟩
theorem pdict_nil (p : Option Addr) (c : Nat) (w : World) : Calls Tryz.prog 101 #[.slice p 0 c] w (RowPost (dicL []) w) := by
  have HIX := Lib.hid (index_nil p c w)
  have HAP : Hid (∀ W, w.heap.size ≤ W.heap.size → Calls Tryz.prog 154 #[.slice none 0 0, .slice p 0 c] W (App w.heap.size W (.slice none 0 0) (spL []))) := Lib.hid (fun W h => appendPlain_nil p c w.heap.size W h)
  have HE : Hid (dicL [] = spL []) := Lib.hid rfl
  rw [HE.out]
  obtain ⟨R, HR⟩ : ∃ R, Hid (R = spL ([] : List UInt8)) := ⟨_, rfl⟩
  rw [← HR.out] at HAP ⊢
  clear HE
  go_enter Tryz.func101, Tryz.ntmps101
  go_wp2_with fail
  refine (HIX.out).mono ?_
  rintro e w1 ⟨hb1, rfl⟩
  have HB1 := Lib.hid hb1
  clear hb1
  go_wp2_with fail
  have HBW0 : Hid (Below w.heap.size w (w1.alloc (.cells #[.slice p 0 c, .map (some (w.heap.size + 1))] 152))) := Lib.hid (HB1.out.trans (((Below.refl _ w1).alloc (Nat.le_refl _) _).mono HB1.out.size))
  revert HBW0
  generalize w1.alloc (.cells #[.slice p 0 c, .map (some (w.heap.size + 1))] 152) = W0
  intro HBW0
  go_loopw [5, 6, 7] (fun ov fv av wr => ov = .slice none 0 0 ∧ fv = .int .i64 0 ∧ av = .int .i64 0 ∧ wr = W0) (fun _ _ _ _ => 0)
  case atStart => exact ⟨rfl, rfl, rfl, rfl⟩
  case round =>
    obtain ⟨rfl, rfl, rfl, rfl⟩ := hrel
    have HC := Lib.hid (HAP.out wr HBW0.out.size)
    go_wp2_with fail
    refine (HC.out).mono ?_
    rintro e w4 ⟨v4, rfl, hg4⟩
    have hB4 : Hid (Below w.heap.size w w4) := Lib.hid (HBW0.out.trans ((⟨hg4.grown.os, hg4.grown.tape, hg4.grown.output, hg4.grown.size, fun k hk => hg4.grown.block k hk (by intro e; cases e)⟩ : Below wr.heap.size wr w4).mono HBW0.out.size))
    obtain ⟨q4, d4, rfl, -, -⟩ := own_bytes hg4.own
    obtain ⟨m4, HM4⟩ : ∃ m4, Hid (m4 = R.length) := ⟨_, rfl⟩
    have hown4 : Hid (w4.ownsRow w.heap.size 5 1 (.slice q4 R.length d4) R.length (ubs R)) := Lib.hid hg4.own
    rw [← HM4.out] at hown4 ⊢
    clear hg4
    go_wp2_with fail
    go_ret2
    exact ⟨hB4.out, _, rfl, by rw [← HM4.out]; exact hown4.out⟩
theorem pidx (b0 off len c : Nat) (l : List UInt8) (w : World) (hl : len ≤ 20000) (h : Came w (some ⟨b0, off, none⟩) len c l) : Calls Tryz.prog 152 #[.slice (some ⟨b0, off, none⟩) len c] w (IdxPost l b0 off len c w) :=
  (index_any b0 off len c l w hl h).mono fun e w1 hI => by
    obtain ⟨hb, b, base, D, rfl, hG, hO⟩ := hI
    refine ⟨hb, some b, rfl, fun W hW a ha => ?_⟩
    have hC : ∀ V, Below w1.heap.size w1 V → Came V (some ⟨b0, off, none⟩) len c l := fun V hV => ⟨h.hl, h.hc, h.lies.below (hb.trans (hV.mono hb.size))⟩
    refine plongest_any b0 off len c a (min 131 (len - a)) (some b) l W hl ha (Lib.hid rfl) (Lib.hid h.hl) (fun V hV n d hst hn => ?_)
    have hV1 := hW.trans (hV.mono hW.size)
    exact next_any b0 off len c a n d _ b base D l V hl ha (Lib.hid rfl) (hC V hV1) hG (groups_next hO hV1) hst hn
theorem pdict_any (p : Option Addr) (c : Nat) (l : List UInt8) (w : World) (hl : l.length ≤ 20000) (hc : l.length ≤ c) (hb : Bs w p l) : Calls Tryz.prog 101 #[.slice p l.length c] w (RowPost (dicL l) w) := by
  by_cases h0 : 0 < l.length
  · obtain ⟨b0, off, rfl⟩ : ∃ b off, p = some ⟨b, off, none⟩ := by
      obtain ⟨b, off, hp, -⟩ := at_cell hb h0
      exact ⟨b, off, hp⟩
    have hC : Came w (some ⟨b0, off, none⟩) l.length c l := ⟨rfl, hc, hb⟩
    exact pdict_some b0 off l.length c l w hl hC (pidx b0 off l.length c l w hl hC)
  · obtain rfl := List.eq_nil_of_length_eq_zero (Nat.eq_zero_of_not_pos h0)
    exact pdict_nil p c w
end Go.Proofs.YtpnofkefcoaojaaGreatDoor
namespace Go.Proofs.YtpnofkefcoaojaaGreatDoor
open Go.RowKit
open Go.Lib
theorem bl_small {x k : Nat} (h : x < 2 ^ k) : bl x ≤ k := by
  by_cases h64 : 64 ≤ k
  · exact Nat.le_trans (bl_le x) h64
  · by_cases h0 : x = 0
    · subst h0; show Lib.bitLenAux 64 0 ≤ k; rw [show Lib.bitLenAux 64 0 = 0 by decide]; exact Nat.zero_le _
    · have hlt : x < 2 ^ 64 := Nat.lt_of_lt_of_le h (Nat.pow_le_pow_right (by decide) (by omega))
      obtain ⟨h1, h2, -⟩ := Lib.bitLenAux_bounds 64 x hlt h0
      have h3 : 2 ^ (Lib.bitLenAux 64 x - 1) < 2 ^ k := Nat.lt_of_le_of_lt h2 h
      have h4 := (Nat.pow_lt_pow_iff_right (by decide : 1 < 2)).1 h3
      show Lib.bitLenAux 64 x ≤ k
      omega
theorem gl_lt' {n : Nat} : ∀ (k : Nat) (l : List UInt8), ∀ x ∈ gl n k l, x < 2 ^ (8 * n)
  | 0, _, x, h => by cases h
  | k + 1, l, x, h => by
    unfold gl at h
    rcases List.mem_cons.1 h with rfl | h
    · have h1 := nb_lt (l.take n)
      have h2 : (l.take n).length ≤ n := List.length_take_le _ _
      have e : (256 : Nat) = 2 ^ 8 := rfl
      rw [e, ← Nat.pow_mul] at h1
      exact Nat.lt_of_lt_of_le h1 (Nat.pow_le_pow_right (by decide) (by omega))
    · exact gl_lt' k _ x h
theorem wdL_small {gs : List Nat} {m : Nat} (h : ∀ x ∈ gs, x < 2 ^ m) : wdL gs ≤ m := by
  have h1 : mxL gs < 2 ^ m := foldmax_lt gs 0 (Nat.pow_pos (by decide)) h
  exact bl_small (Nat.lt_of_le_of_lt (Nat.sub_le _ _) h1)
theorem packL_len {l : List UInt8} {n : Nat} (h1 : 1 ≤ n) (h8 : n ≤ 8) : (packL l n).length ≤ l.length + 13 := by
  have hk : l.length / n * n ≤ l.length := Nat.div_mul_le_self _ _
  have hd : (l.drop (l.length / n * n)).length = l.length - l.length / n * n := List.length_drop
  unfold packL pacL pkB
  rw [List.length_append, hd]
  split
  · rw [be_length]; omega
  · rw [List.length_append, List.length_append, List.length_append, be_length, be_length, pkF, pkL_length, gl_length]
    have hw := wdL_small (gl_lt' (n := n) (l.length / n) l)
    have hm : l.length / n * wdL (gl n (l.length / n) l) ≤ 8 * (l.length / n * n) := by
      rw [← Nat.mul_assoc, Nat.mul_comm 8, Nat.mul_assoc]
      exact Nat.mul_le_mul_left _ hw
    show 4 + n + 1 + _ + _ ≤ _
    omega
def thrL (x : Sg) (l : List UInt8) : List UInt8 := if x.1 = 2 then delL l x.2.1.toNat else if x.1 = 3 then shufL l x.2.1.toNat else if x.1 = 5 then packL l x.2.1.toNat else if x.1 = 4 then dicL l else l
def thrS (ss : List Sg) (i : Nat) (l : List UInt8) : List UInt8 := (ss.take i).foldl (fun l x => thrL x l) l
theorem thrS_zero (ss : List Sg) (l : List UInt8) : thrS ss 0 l = l := rfl
theorem thrS_succ {ss : List Sg} {i : Nat} (h : i < ss.length) (l : List UInt8) : thrS ss (i + 1) l = thrL (ss.getD i (0, 0, [])) (thrS ss i l) := by
  unfold thrS
  rw [List.take_succ_eq_append_getElem h, List.foldl_append, List.getD_eq_getElem?_getD, List.getElem?_eq_getElem h]; rfl
end Go.Proofs.YtpnofkefcoaojaaGreatDoor
set_option maxHeartbeats 2000000
set_option maxRecDepth 100000
namespace Go.Proofs.YtpnofkefcoaojaaGreatDoor
open Go.RowKit
open Go.Lib
def ThrPost (B : Nat) (L : List UInt8) (w : World) (e : Ending) (w' : World) : Prop :=
  Below w.heap.size w w' ∧ ∃ v, e = .returned (.tuple #[v, .int .i64 0]) ∧ w'.ownsRow B 5 1 v L.length (ubs L)
theorem own_lower {W : World} {B B' n : Nat} {v : Value} {xs : List Value} (h : W.ownsRow B' 5 1 v n xs) (hb : B ≤ B') : W.ownsRow B 5 1 v n xs := by
  obtain ⟨h1, h2 | ⟨g, cap, cur, hv, hg, h3⟩⟩ := h
  · exact ⟨h1, .inl h2⟩
  · exact ⟨h1, .inr ⟨g, cap, cur, hv, Nat.le_trans hb hg, h3⟩⟩
theorem RowPost.thr {B : Nat} {L : List UInt8} {w W w' : World} {e : Ending} (h : RowPost L W e w') (hb : Below w.heap.size w W) (hB : B ≤ w.heap.size) : ThrPost B L w e w' := by
  obtain ⟨h1, v, h2, h3⟩ := h
  exact ⟨hb.trans (h1.mono hb.size), v, h2, own_lower h3 (Nat.le_trans hB hb.size)⟩
theorem thr_2 (n : Int) (X : ByteArray) (v : Value) (L : List UInt8) (B : Nat) (w : World) (hB : B ≤ w.heap.size)
    (hc : ∀ W, Below w.heap.size w W → Calls Tryz.prog 98 #[v, .int .i64 n] W (RowPost L W)) :
    Calls Tryz.prog 54 #[.agg #[.int .i64 2, .int .i64 n, .string X], v] w (ThrPost B L w) := by
  obtain ⟨W1, HW1⟩ : ∃ W1, Hid (w.alloc (.cells #[.int .i64 2, .int .i64 n, .string X] 45) = W1) := ⟨_, Lib.hid rfl⟩
  have HB1 : Hid (Below w.heap.size w W1) := Lib.hid (by rw [← HW1.out]; exact (Below.refl _ _).alloc (Nat.le_refl _) _)
  have HC := Lib.hid (hc W1 HB1.out)
  have HBB := Lib.hid hB
  clear hc hB
  go_enter Tryz.func54, Tryz.ntmps54
  go_wp2_with fail
  try rw [HW1.out]
  refine (HC.out).mono ?_
  rintro e w2 ⟨hb2, v2, rfl, ho2⟩
  have HF : Hid (ThrPost B L w (.returned (.tuple #[v2, .int .i64 0])) w2) := Lib.hid (RowPost.thr (W := W1) ⟨hb2, v2, rfl, ho2⟩ HB1.out HBB.out)
  clear hb2 ho2
  go_wp2_with fail
  go_ret2
  exact HF.out
theorem thr_3 (n : Int) (X : ByteArray) (v : Value) (L : List UInt8) (B : Nat) (w : World) (hB : B ≤ w.heap.size)
    (hc : ∀ W, Below w.heap.size w W → Calls Tryz.prog 99 #[v, .int .i64 n] W (RowPost L W)) :
    Calls Tryz.prog 54 #[.agg #[.int .i64 3, .int .i64 n, .string X], v] w (ThrPost B L w) := by
  obtain ⟨W1, HW1⟩ : ∃ W1, Hid (w.alloc (.cells #[.int .i64 3, .int .i64 n, .string X] 45) = W1) := ⟨_, Lib.hid rfl⟩
  have HB1 : Hid (Below w.heap.size w W1) := Lib.hid (by rw [← HW1.out]; exact (Below.refl _ _).alloc (Nat.le_refl _) _)
  have HC := Lib.hid (hc W1 HB1.out)
  have HBB := Lib.hid hB
  clear hc hB
  go_enter Tryz.func54, Tryz.ntmps54
  go_wp2_with fail
  try rw [HW1.out]
  refine (HC.out).mono ?_
  rintro e w2 ⟨hb2, v2, rfl, ho2⟩
  have HF : Hid (ThrPost B L w (.returned (.tuple #[v2, .int .i64 0])) w2) := Lib.hid (RowPost.thr (W := W1) ⟨hb2, v2, rfl, ho2⟩ HB1.out HBB.out)
  clear hb2 ho2
  go_wp2_with fail
  go_ret2
  exact HF.out
theorem thr_5 (n : Int) (X : ByteArray) (v : Value) (L : List UInt8) (B : Nat) (w : World) (hB : B ≤ w.heap.size)
    (hc : ∀ W, Below w.heap.size w W → Calls Tryz.prog 100 #[v, .int .i64 n] W (RowPost L W)) :
    Calls Tryz.prog 54 #[.agg #[.int .i64 5, .int .i64 n, .string X], v] w (ThrPost B L w) := by
  obtain ⟨W1, HW1⟩ : ∃ W1, Hid (w.alloc (.cells #[.int .i64 5, .int .i64 n, .string X] 45) = W1) := ⟨_, Lib.hid rfl⟩
  have HB1 : Hid (Below w.heap.size w W1) := Lib.hid (by rw [← HW1.out]; exact (Below.refl _ _).alloc (Nat.le_refl _) _)
  have HC := Lib.hid (hc W1 HB1.out)
  have HBB := Lib.hid hB
  clear hc hB
  go_enter Tryz.func54, Tryz.ntmps54
  go_wp2_with fail
  try rw [HW1.out]
  refine (HC.out).mono ?_
  rintro e w2 ⟨hb2, v2, rfl, ho2⟩
  have HF : Hid (ThrPost B L w (.returned (.tuple #[v2, .int .i64 0])) w2) := Lib.hid (RowPost.thr (W := W1) ⟨hb2, v2, rfl, ho2⟩ HB1.out HBB.out)
  clear hb2 ho2
  go_wp2_with fail
  go_ret2
  exact HF.out
theorem thr_4 (n : Int) (X : ByteArray) (v : Value) (L : List UInt8) (B : Nat) (w : World) (hB : B ≤ w.heap.size)
    (hc : ∀ W, Below w.heap.size w W → Calls Tryz.prog 101 #[v] W (RowPost L W)) :
    Calls Tryz.prog 54 #[.agg #[.int .i64 4, .int .i64 n, .string X], v] w (ThrPost B L w) := by
  obtain ⟨W1, HW1⟩ : ∃ W1, Hid (w.alloc (.cells #[.int .i64 4, .int .i64 n, .string X] 45) = W1) := ⟨_, Lib.hid rfl⟩
  have HB1 : Hid (Below w.heap.size w W1) := Lib.hid (by rw [← HW1.out]; exact (Below.refl _ _).alloc (Nat.le_refl _) _)
  have HC := Lib.hid (hc W1 HB1.out)
  have HBB := Lib.hid hB
  clear hc hB
  go_enter Tryz.func54, Tryz.ntmps54
  go_wp2_with fail
  try rw [HW1.out]
  refine (HC.out).mono ?_
  rintro e w2 ⟨hb2, v2, rfl, ho2⟩
  have HF : Hid (ThrPost B L w (.returned (.tuple #[v2, .int .i64 0])) w2) := Lib.hid (RowPost.thr (W := W1) ⟨hb2, v2, rfl, ho2⟩ HB1.out HBB.out)
  clear hb2 ho2
  go_wp2_with fail
  go_ret2
  exact HF.out
theorem thr_1 (n : Int) (X : ByteArray) (v : Value) (L : List UInt8) (B : Nat) (w : World) (ho : w.ownsRow B 5 1 v L.length (ubs L)) :
    Calls Tryz.prog 54 #[.agg #[.int .i64 1, .int .i64 n, .string X], v] w (ThrPost B L w) := by
  have HF : Hid (ThrPost B L w (.returned (.tuple #[v, .int .i64 0])) (w.alloc (.cells #[.int .i64 1, .int .i64 n, .string X] 45))) := Lib.hid (by
    have hb : Below w.heap.size w (w.alloc (.cells #[.int .i64 1, .int .i64 n, .string X] 45)) := (Below.refl _ _).alloc (Nat.le_refl _) _
    exact ⟨hb, v, rfl, own_below ho hb⟩)
  clear ho
  go_enter Tryz.func54, Tryz.ntmps54
  go_wp2_with fail
  go_ret2
  exact HF.out
theorem st_kinds {x : Sg} (h : stOk x = true) : (x.1 = 1 ∨ x.1 = 4) ∨ ((x.1 = 2 ∨ x.1 = 3 ∨ x.1 = 5) ∧ 1 ≤ x.2.1 ∧ x.2.1 ≤ 8) := by
  unfold stOk at h
  by_cases h1 : x.1 = 1
  · exact .inl (.inl h1)
  · rw [if_neg h1] at h
    by_cases h2 : x.1 = 2 ∨ x.1 = 3 ∨ x.1 = 5
    · rw [if_pos h2, Bool.and_eq_true] at h
      have h3 := h.1
      unfold gsB at h3
      rw [Bool.and_eq_true, decide_eq_true_eq, decide_eq_true_eq] at h3
      exact .inr ⟨h2, h3⟩
    · rw [if_neg h2] at h
      by_cases h4 : x.1 = 4
      · exact .inl (.inr h4)
      · rw [if_neg h4] at h; cases h
theorem thr_len {x : Sg} {l : List UInt8} (h : stOk x = true) (hl : l.length ≤ 10000) : (thrL x l).length ≤ l.length + 100 := by
  unfold thrL
  rcases st_kinds h with h1 | ⟨h2, h3, h4⟩
  · rw [if_neg (by omega), if_neg (by omega), if_neg (by omega)]
    split
    · have := dic_size l; omega
    · omega
  · split
    · rw [delL_length]; omega
    · split
      · rw [shufL_length]; omega
      · split
        · have := packL_len (l := l) (n := x.2.1.toNat) (by omega) (by omega); omega
        · split
          · have := dic_size l; omega
          · omega
theorem thrS_len {ss : List Sg} {l : List UInt8} (h : ∀ i, i < ss.length → stOk (ss.getD i (0, 0, [])) = true) (hl : l.length ≤ 9000) (hs : ss.length ≤ 4) : ∀ i, i ≤ ss.length → (thrS ss i l).length ≤ l.length + 100 * i
  | 0, _ => by rw [thrS_zero]; omega
  | i + 1, hi => by
    have ih := thrS_len h hl hs i (by omega)
    rw [thrS_succ (by omega)]
    have := thr_len (l := thrS ss i l) (h i (by omega)) (by omega)
    omega
theorem through_any (x : Sg) (v : Value) (l : List UInt8) (B : Nat) (w : World) (hB : B ≤ w.heap.size) (hok : stOk x = true) (hl : l.length ≤ 20000) (ho : w.ownsRow B 5 1 v l.length (ubs l)) :
    Calls Tryz.prog 54 #[.agg #[.int .i64 x.1, .int .i64 x.2.1, .string ⟨x.2.2.toArray⟩], v] w (ThrPost B (thrL x l) w) := by
  obtain ⟨k, n, s⟩ := x
  obtain ⟨p, c, rfl, hbs, hc⟩ := own_bytes ho
  have hnc := own_nocap ho
  rcases st_kinds hok with (h1 | h4) | ⟨h2, h3, h8⟩
  · have h1 : k = 1 := h1
    subst h1
    have e : thrL (1, n, s) l = l := by unfold thrL; rw [if_neg (by show ¬ (1 : Int) = 2; decide), if_neg (by show ¬ (1 : Int) = 3; decide), if_neg (by show ¬ (1 : Int) = 5; decide), if_neg (by show ¬ (1 : Int) = 4; decide)]
    rw [e]
    exact thr_1 n _ _ l B w ho
  · have h4 : k = 4 := h4
    subst h4
    have e : thrL (4, n, s) l = dicL l := by unfold thrL; rw [if_neg (by show ¬ (4 : Int) = 2; decide), if_neg (by show ¬ (4 : Int) = 3; decide), if_neg (by show ¬ (4 : Int) = 5; decide), if_pos (by show (4 : Int) = 4; rfl)]
    rw [e]
    exact thr_4 n _ _ _ B w hB (fun W hW => pdict_any p c l W hl hc (hbs.below hW))
  · have h3 : 1 ≤ n := h3
    have h8 : n ≤ 8 := h8
    obtain ⟨m, rfl⟩ : ∃ m : Nat, n = m := ⟨n.toNat, by omega⟩
    have m1 : 1 ≤ m := by omega
    have m8 : m ≤ 8 := by omega
    have h2 : k = 2 ∨ k = 3 ∨ k = 5 := h2
    rcases h2 with rfl | rfl | rfl
    · have e : thrL (2, (m : Int), s) l = delL l m := by unfold thrL; rw [if_pos (by show (2 : Int) = 2; rfl)]; rfl
      rw [e]
      exact thr_2 m _ _ _ B w hB (fun W hW => delta_ok p c m l W m1 m8 hl hc hnc (hbs.below hW))
    · have e : thrL (3, (m : Int), s) l = shufL l m := by unfold thrL; rw [if_neg (by show ¬ (3 : Int) = 2; decide), if_pos (by show (3 : Int) = 3; rfl)]; rfl
      rw [e]
      exact thr_3 m _ _ _ B w hB (fun W hW => shuffle_ok p c m l W m1 m8 hl (hbs.below hW))
    · have e : thrL (5, (m : Int), s) l = packL l m := by unfold thrL; rw [if_neg (by show ¬ (5 : Int) = 2; decide), if_neg (by show ¬ (5 : Int) = 3; decide), if_pos (by show (5 : Int) = 5; rfl)]; rfl
      rw [e]
      exact thr_5 m _ _ _ B w hB (fun W hW => pack_any p c m l.length l W (Lib.hid rfl) m1 m8 (by omega) (Lib.hid hc) (Lib.hid hnc) (hbs.below hW))
end Go.Proofs.YtpnofkefcoaojaaGreatDoor
