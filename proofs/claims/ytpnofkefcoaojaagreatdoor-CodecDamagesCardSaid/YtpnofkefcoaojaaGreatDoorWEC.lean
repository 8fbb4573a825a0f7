/- The least number of a group and the bits of the greatest difference: span of the program. -/
import Derived.Test.YtpnofkefcoaojaaGreatDoorKC
import Derived.Test.YtpnofkefcoaojaaGreatDoorWSX
import Derived.BigQuiet
set_option maxHeartbeats 4000000
set_option maxRecDepth 100000
namespace Go.Proofs.YtpnofkefcoaojaaGreatDoor
open Go.RowKit Go.Shelf
open Go.Lib
attribute [local go_sem] Oper.semAt_some
structure SpI (N n : Nat) (p : Option Addr) (len c : Nat) (w : World) (a z : Nat) (W : World) : Prop where
  b6 : W.heap[N]? = some (.cells #[.int .u64 (a : Int)] 86 (0, 0))
  b7 : W.heap[N + 1]? = some (.cells #[.int .u64 (z : Int)] 86 (0, 0))
  i1 : W.heap[N + 1 + 1]? = some (.cells #[.slice p len c] 39 (0, 0))
  i2 : W.heap[N + 1 + 1 + 1]? = some (.cells #[.int .i64 (n : Int)] 3 (0, 0))
  bel : Below N w W
section
variable {N n : Nat} {p : Option Addr} {len c : Nat} {w W W' : World} {a z : Nat}
theorem SpI.keep (h : SpI N n p len c w a z W) {row : Option Nat} (hg : W.grownBy W' row) (hr : ∀ r, row = some r → N ≤ r ∧ ∃ o : Obj, W.heap[r]? = some o ∧ o.isCells = false) (hB : N ≤ W.heap.size) : SpI N n p len c w a z W' := by
  have hk : ∀ {k : Nat} {o : Obj}, W.heap[k]? = some o → o.isCells = true → W'.heap[k]? = some o := fun h1 h2 => (grownBy_keeps_cells hg (fun r e => (hr r e).2) h1 h2).trans h1
  exact ⟨hk h.b6 rfl, hk h.b7 rfl, hk h.i1 rfl, hk h.i2 rfl, h.bel.grown hg hB (fun k e => (hr k e).1)⟩
theorem SpI.lt (h : SpI N n p len c w a z W) : N ≤ W.heap.size := Nat.le_of_lt (Array.getElem?_eq_some_iff.1 h.b6).1
theorem SpI.put6 (h : SpI N n p len c w a z W) (a' : Nat) : SpI N n p len c w a' z (W.setCell ⟨N, 0, none⟩ (.int .u64 (a' : Int))) := by
  have hk : ∀ {k : Nat} {o : Obj}, k ≠ N → W.heap[k]? = some o → (W.setCell ⟨N, 0, none⟩ (.int .u64 (a' : Int))).heap[k]? = some o := fun hne h1 => (Below.heap_setCell W ⟨N, 0, none⟩ _ _ hne).trans h1
  exact ⟨block_of_set h.b6, hk (by omega) h.b7, hk (by omega) h.i1, hk (by omega) h.i2, h.bel.setCell (p := ⟨N, 0, none⟩) (Nat.le_refl _) _⟩
theorem SpI.put7 (h : SpI N n p len c w a z W) (z' : Nat) : SpI N n p len c w a z' (W.setCell ⟨N + 1, 0, none⟩ (.int .u64 (z' : Int))) := by
  have hk : ∀ {k : Nat} {o : Obj}, k ≠ N + 1 → W.heap[k]? = some o → (W.setCell ⟨N + 1, 0, none⟩ (.int .u64 (z' : Int))).heap[k]? = some o := fun hne h1 => (Below.heap_setCell W ⟨N + 1, 0, none⟩ _ _ hne).trans h1
  exact ⟨hk (by omega) h.b6, block_of_set h.b7, hk (by omega) h.i1, hk (by omega) h.i2, h.bel.setCell (p := ⟨N + 1, 0, none⟩) (by simp) _⟩
end
def SpanPost (gs : List Nat) (w : World) (e : Ending) (w' : World) : Prop := Below w.heap.size w w' ∧ e = .returned (.tuple #[.int .u64 (mnL gs : Int), .int .i64 (wdL gs : Int)])
theorem span_any (p : Option Addr) (c n len k : Nat) (l : List UInt8) (w : World) (HL : Hid (len = l.length)) (HK : Hid (k = len / n)) (h1 : 1 ≤ n) (h2 : n ≤ 8) (hl : len ≤ 1048576) (hc : len ≤ c) (hk0 : 0 < k) (hbs : Bs w p l) :
    Calls Tryz.prog 149 #[.slice p len c, .int .i64 (n : Int)] w (SpanPost (gl n k l) w) := by
  have HBS : Hid (BsN w.heap.size w p l) := Lib.hid hbs.bsN
  obtain ⟨gs, HGS⟩ : ∃ gs, Hid (gs = gl n k l) := ⟨_, rfl⟩
  have HGL : Hid (gs ≠ [] ∧ ∀ g ∈ gs, g < W64) := Lib.hid (by
    rw [HGS.out]
    exact ⟨fun e => by rw [← List.length_eq_zero_iff, gl_length] at e; omega, gl_lt h2 k l⟩)
  rw [← HGS.out]
  clear hbs
  refine (callsIn_wide (n := 9)).1 ?_
  refine callsIn_of_wp_marks Tryz.func149 rfl trivial ?_ rfl
  simp only [Tryz.ntmps149, List.size_toArray, List.length_cons, List.length_nil, Nat.reduceAdd, Nat.reduceSub, Array.replicate_succ, Array.replicate_zero, List.push_toArray, List.append_toArray, List.nil_append, List.cons_append]
  gi_wp2_with (refine ⟨trivial, ?_⟩; gi_at_call 188; refine (numbers_in _ _ _ _ _ _).mono ?_; rintro e w' ⟨rfl, rfl⟩)
  obtain ⟨W0, hW0⟩ : ∃ W0, ((((w.alloc (.cells #[.int .u64 18446744073709551615] 86)).alloc (.cells #[.int .u64 0] 86)).alloc (.cells #[.slice p len c] 39)).alloc (.cells #[.int .i64 (n : Int)] 3)) = W0 := ⟨_, rfl⟩
  have hs0 : W0.heap.size = w.heap.size + 4 := by rw [← hW0]; simp
  have hI0 : SpI w.heap.size n p len c w 18446744073709551615 0 W0 := by
    rw [← hW0]
    refine ⟨?_, ?_, ?_, ?_, ((((Below.refl _ w).alloc (Nat.le_refl _) _).alloc (by simp) _).alloc (by simp <;> omega) _).alloc (by simp <;> omega) _⟩
    · exact (Below.heap_alloc _ _ _ (by simp <;> omega)).trans ((Below.heap_alloc _ _ _ (by simp <;> omega)).trans ((Below.heap_alloc _ _ _ (by simp)).trans (World.alloc_heap_new w _)))
    · refine (Below.heap_alloc _ _ _ (by simp <;> omega)).trans ((Below.heap_alloc _ _ _ (by simp)).trans ?_)
      have := World.alloc_heap_new (w.alloc (.cells #[.int .u64 18446744073709551615] 86)) (.cells #[.int .u64 0] 86); rwa [World.size_alloc] at this
    · refine (Below.heap_alloc _ _ _ (by simp)).trans ?_
      have := World.alloc_heap_new ((w.alloc (.cells #[.int .u64 18446744073709551615] 86)).alloc (.cells #[.int .u64 0] 86)) (.cells #[.slice p len c] 39); rwa [World.size_alloc, World.size_alloc] at this
    · have := World.alloc_heap_new (((w.alloc (.cells #[.int .u64 18446744073709551615] 86)).alloc (.cells #[.int .u64 0] 86)).alloc (.cells #[.slice p len c] 39)) (.cells #[.int .i64 (n : Int)] 3); rwa [World.size_alloc, World.size_alloc, World.size_alloc] at this
  rw [hW0]
  refine wpIn_rangeFunc_ownF rfl (by omega) (gf := 222) (lb := #[.pointer (some ⟨w.heap.size + 1 + 1 + 1, 0, none⟩), .pointer (some ⟨w.heap.size + 1 + 1, 0, none⟩)]) rfl trivial (enters_of Tryz.func222 (by kernel_rfl) rfl)
    (numbers_stops_w _ (by omega) (w.heap.size + 1 + 1 + 1) (w.heap.size + 1 + 1) w.heap.size n len k c l p HL HK h1 h2 hl hc W0 (by omega) (by omega) (by omega) (by simp [World.cell?, hI0.i2]) (by simp [World.cell?, hI0.i1]) (HBS.out.keep hI0.bel)) Keep3.trans
    (fun W lo o o' hlo ho hc hw => ⟨(Below.refl _ W).grown (grownBy_putObj' W lo o') (by have := (Array.getElem?_eq_some_iff.1 ho).1; omega) (fun k e => by cases e; omega), World.putObj_heap_other (by omega), World.putObj_heap_other (by omega)⟩) (Below.refl _ _) (fun _ => rfl)
    (fun pre W => SpI w.heap.size n p len c w ((gP l n pre).foldl min 18446744073709551615) ((gP l n pre).foldl max 0) W)
    (fun _ _ _ => False)
    (fun s W W' row h hg hr => h.keep hg (fun r e => ⟨by have := (hr r e).1; omega, (hr r e).2⟩) h.lt)
    (fun _ _ _ _ _ h _ _ => h)
    hI0 ?a1 ?assign ?body ?done ?stop
  case assign =>
    intro lo x W K hK
    gi_wp2
    exact hK
  case body =>
    intro lo pre x W hI hlen
    obtain ⟨a, HA⟩ : ∃ a, Hid (a = (gP l n pre).foldl min 18446744073709551615) := ⟨_, rfl⟩
    obtain ⟨z, HZ⟩ : ∃ z, Hid (z = (gP l n pre).foldl max 0) := ⟨_, rfl⟩
    rw [← HA.out, ← HZ.out] at hI
    obtain ⟨g, HG⟩ : ∃ g, Hid (g = gN l n x.1) := ⟨_, rfl⟩
    obtain ⟨a2, HA2⟩ : ∃ a2, Hid (a2 = min a g) := ⟨_, rfl⟩
    obtain ⟨z2, HZ2⟩ : ∃ z2, Hid (z2 = max z g) := ⟨_, rfl⟩
    have e10 : (nb ((l.drop (x.1 * n)).take n)) = g := HG.out.symm
    have hmin : min (a : Int) (g : Int) = (a2 : Int) := by rw [HA2.out]; omega
    have hmax : max (z : Int) (g : Int) = (z2 : Int) := by rw [HZ2.out]; omega
    have c6 : W.cell? ⟨w.heap.size, 0, none⟩ = some (.int .u64 (a : Int)) := by simp [World.cell?, hI.b6]
    have f6 : W.frozen? ⟨w.heap.size, 0, none⟩ = false := by simp [World.frozen?, hI.b6]
    have hI1 := hI.put6 a2
    have hI2 := hI1.put7 z2
    have hF : KeepsOthers W ((W.setCell ⟨w.heap.size, 0, none⟩ (.int .u64 (a2 : Int))).setCell ⟨w.heap.size + 1, 0, none⟩ (.int .u64 (z2 : Int))) ∧ Keep3 w.heap.size (w.heap.size + 1 + 1 + 1) (w.heap.size + 1 + 1) W ((W.setCell ⟨w.heap.size, 0, none⟩ (.int .u64 (a2 : Int))).setCell ⟨w.heap.size + 1, 0, none⟩ (.int .u64 (z2 : Int))) ∧
        SpI w.heap.size n p len c w ((gP l n (pre ++ [x])).foldl min 18446744073709551615) ((gP l n (pre ++ [x])).foldl max 0) ((W.setCell ⟨w.heap.size, 0, none⟩ (.int .u64 (a2 : Int))).setCell ⟨w.heap.size + 1, 0, none⟩ (.int .u64 (z2 : Int))) := by
      refine ⟨(KeepsOthers.setCell _ _ _).trans (KeepsOthers.setCell _ _ _), ⟨((Below.refl _ W).setCell (p := ⟨w.heap.size, 0, none⟩) (Nat.le_refl _) _).setCell (p := ⟨w.heap.size + 1, 0, none⟩) (by simp) _, hI2.i2.trans hI.i2.symm, hI2.i1.trans hI.i1.symm⟩, ?_⟩
      rw [gP_snoc, List.foldl_append, List.foldl_append, ← HA.out, ← HZ.out, ← HG.out]
      show SpI _ _ _ _ _ _ (min a g) (max z g) _
      rw [← HA2.out, ← HZ2.out]
      exact hI2
    have HFh := Lib.hid hF
    obtain ⟨W1, hW1⟩ : ∃ W1, W.setCell ⟨w.heap.size, 0, none⟩ (.int .u64 (a2 : Int)) = W1 := ⟨_, rfl⟩
    rw [hW1] at hI1 HFh
    have c7 : W1.cell? ⟨w.heap.size + 1, 0, none⟩ = some (.int .u64 (z : Int)) := by simp [World.cell?, hI1.b7]
    have f7 : W1.frozen? ⟨w.heap.size + 1, 0, none⟩ = false := by simp [World.frozen?, hI1.b7]
    simp only [e10]
    clear hF hI hI1 hI2 e10
    gi_wp2
    exact HFh.out
  case done =>
    intro D xs W hD hxs hI hK
    rw [gP_all l n xs hxs, ← HGS.out] at hI
    have hI' : SpI w.heap.size n p len c w (mnL gs) (mxL gs) W := hI
    obtain ⟨a, HA⟩ : ∃ a, Hid (a = mnL gs) := ⟨_, rfl⟩
    obtain ⟨z, HZ⟩ : ∃ z, Hid (z = mxL gs) := ⟨_, rfl⟩
    obtain ⟨d, HD⟩ : ∃ d, Hid (d = z - a) := ⟨_, rfl⟩
    have hfin : Hid (∀ W5 : World, W5 = W.drew → (W5.putObj D (.deferred none) = W5.putObj D (.deferred none) ∧ SpanPost gs w (.returned (.tuple #[.int .u64 (a : Int), .int .i64 (Lib.bitLen d : Int)])) (W5.putObj D (.deferred none)))) := Lib.hid (fun W5 h5 => ⟨rfl, by
      rw [h5]; exact hI'.bel.drew.trans ((Below.refl _ _).grown (grownBy_putObj' W.drew D _) hI'.lt (fun k e => by cases e; omega)), by rw [HA.out, HD.out, HA.out, HZ.out]; rfl⟩)
    rw [← HA.out, ← HZ.out] at hI'
    have hsub : IntKind.u64.wrap ((z : Int) - (a : Int)) = (d : Int) := by
      have q1 := mnL_mxL HGL.out.1
      have q2 := mxL_lt HGL.out.2
      rw [← HA.out, ← HZ.out] at q1
      rw [← HZ.out] at q2
      rw [IntKind.wrap_u64, HD.out]; unfold W64 at q2; omega
    have HC := Lib.hid (Tryz.len64_any d W.drew (by
      have q2 := mxL_lt HGL.out.2
      rw [← HZ.out] at q2
      rw [HD.out]; unfold W64 at q2; omega))
    have c6 : W.drew.cell? ⟨w.heap.size, 0, none⟩ = some (.int .u64 (a : Int)) := by show W.cell? _ = _; simp [World.cell?, hI'.b6]
    have c7 : W.drew.cell? ⟨w.heap.size + 1, 0, none⟩ = some (.int .u64 (z : Int)) := by show W.cell? _ = _; simp [World.cell?, hI'.b7]
    have hKD : W.drew.heap[D]? = some (.deferred (some [])) := hK
    clear hI hI'
    gi_wp2
    refine wpIn_wide.2 ?_
    refine wp_region_noPanic ?_
    refine wp_region_held_drew (S := fun W' => W'.cell? ⟨w.heap.size, 0, none⟩ = some (.int .u64 (a : Int)) ∧ W'.cell? ⟨w.heap.size + 1, 0, none⟩ = some (.int .u64 (z : Int))) (by kernel_rfl) ⟨c6, c7⟩ (fun hHeld => ?_)
    refine wpAnyH_take (i := 0) (v := .int .u64 (a : Int)) rfl (by kernel_rfl) (by kernel_rfl) (by kernel_rfl) (fun _ _ _ h => h) (Or.inl ⟨by rfl, by intro W' hSw; obtain ⟨e6, e7⟩ := hSw; go_simp⟩) (by assumption) ?_
    simp only [List.getElem_toArray, List.getElem_cons_zero, Act.put, List.setIfInBounds_toArray, List.set_cons_zero, List.set_cons_succ]
    refine wpAnyH_take (i := 1) (v := .int .u64 (z : Int)) rfl (by kernel_rfl) (by kernel_rfl) (by kernel_rfl) (fun _ _ _ h => h) (Or.inl ⟨by rfl, by intro W' hSw; obtain ⟨e6, e7⟩ := hSw; go_simp⟩) (by assumption) ?_
    simp only [List.getElem_toArray, List.getElem_cons_zero, List.getElem_cons_succ, Act.put, List.setIfInBounds_toArray, List.set_cons_zero, List.set_cons_succ]
    refine wpAnyH_take (i := 2) (v := .int .u64 (a : Int)) rfl (by kernel_rfl) (by kernel_rfl) (by kernel_rfl) (fun _ _ _ h => h) (Or.inl ⟨by rfl, by intro W' hSw; obtain ⟨e6, e7⟩ := hSw; go_simp⟩) (by assumption) ?_
    simp only [List.getElem_toArray, List.getElem_cons_zero, List.getElem_cons_succ, Act.put, List.setIfInBounds_toArray, List.set_cons_zero, List.set_cons_succ]
    refine wpAnyH_take (i := 3) (v := .int .u64 (d : Int)) rfl (by kernel_rfl) (by kernel_rfl) (by kernel_rfl) (fun _ _ _ h => h) (Or.inl ⟨by rfl, by intro W' hSw; obtain ⟨e6, e7⟩ := hSw; go_simp⟩) (by assumption) ?_
    simp only [List.getElem_toArray, List.getElem_cons_zero, List.getElem_cons_succ, Act.put, List.setIfInBounds_toArray, List.set_cons_zero, List.set_cons_succ]
    refine wpAnyH_ready (rs := [4]) (by kernel_rfl) (by simp) ?_
    refine AllReadyH.cons (i := 4) rfl (fun K hK => ?_) AllReadyH.nil
    go_simp
    refine (HC.out).mono ?_
    rintro e W' ⟨rfl, rfl⟩
    refine hK.out _ _ (⟨c6, c7⟩) (fun hHeld => ?_)
    clear hK K
    refine wpAnyH_ready (rs := [5]) (by kernel_rfl) (by simp) ?_
    refine AllReadyH.cons (i := 5) rfl (fun K hK => ?_) AllReadyH.nil
    go_simp
    refine hK.out _ _ (⟨c6, c7⟩) (fun hHeld => ?_)
    clear hK K
    refine wpAnyH_ready (rs := [6]) (by kernel_rfl) (by simp) ?_
    refine AllReadyH.cons (i := 6) rfl (fun K hK => ?_) AllReadyH.nil
    go_simp
    refine hK.out _ _ (⟨c6, c7⟩) (fun hHeld => ?_)
    clear hK K
    refine wpAnyH_done (by kernel_rfl) ?_ _
    refine NoPanic.normal ?_
    gi_wp2
    refine ⟨by simp, .inl ⟨_, _, rfl, run_takeDeferred hKD, ?_⟩⟩
    refine ⟨_, ?_, (hfin.out _ rfl).2⟩
    simp [results, Tryz.f149, go_sem]
  case stop =>
    rintro D c pre W hD _ h
    exact h.elim
end Go.Proofs.YtpnofkefcoaojaaGreatDoor
namespace Go.Proofs.YtpnofkefcoaojaaGreatDoor
open Go.RowKit Go.Shelf
open Go.Lib
attribute [local go_sem] Oper.semAt_some
theorem pkL_congr {b b' : Nat → Nat} {T : Nat} (h : ∀ t, t < T → b t = b' t) : pkL b T = pkL b' T := by
  have hv : ∀ q r, 8 * q + r ≤ T → bv b q r = bv b' q r := by
    intro q r
    induction r with
    | zero => intro _; rfl
    | succ r ih => intro hr; rw [bv, bv, ih (by omega), h (8 * q + r) (by omega)]
  unfold pkL
  refine List.map_congr_left fun q hq => ?_
  rw [List.mem_range] at hq
  rw [hv q _ (by omega)]
theorem btF_append {gs : List Nat} {g m w t : Nat} (h : t < gs.length * w) : btF (gs ++ [g]) m w t = btF gs m w t := by
  have hw : 0 < w := by
    rcases Nat.eq_zero_or_pos w with h0 | h0
    · rw [h0, Nat.mul_zero] at h; omega
    · exact h0
  have h1 : t / w < gs.length := (Nat.div_lt_iff_lt_mul hw).2 h
  rw [btF, btF, List.getD_eq_getElem?_getD, List.getD_eq_getElem?_getD, List.getElem?_append_left h1]
structure PkI (N n : Nat) (p : Option Addr) (len c m wd : Nat) (w : World) (v : Value) (L : List UInt8) (T : Nat) (W : World) : Prop where
  own : W.ownsRow N 5 1 v L.length (ubs L)
  b6 : W.heap[N]? = some (.cells #[.int .u64 (m : Int)] 86 (0, 0))
  b7 : W.heap[N + 1]? = some (.cells #[.int .i64 (wd : Int)] 3 (0, 0))
  out : W.heap[N + 1 + 1]? = some (.cells #[v] 39 (0, 0))
  b10 : W.heap[N + 1 + 1 + 1]? = some (.cells #[.int .i64 (T : Int)] 3 (0, 0))
  i1 : W.heap[N + 1 + 1 + 1 + 1]? = some (.cells #[.slice p len c] 39 (0, 0))
  i2 : W.heap[N + 1 + 1 + 1 + 1 + 1]? = some (.cells #[.int .i64 (n : Int)] 3 (0, 0))
  bel : Below N w W
section
variable {N n : Nat} {p : Option Addr} {len c m wd : Nat} {w W W' : World} {v v' : Value} {L L' : List UInt8} {T T' : Nat}
theorem PkI.keep (h : PkI N n p len c m wd w v L T W) {row : Option Nat} (hg : W.grownBy W' row) (hr : ∀ r, row = some r → N ≤ r ∧ ∃ o : Obj, W.heap[r]? = some o ∧ o.isCells = false) (hB : N ≤ W.heap.size) : PkI N n p len c m wd w v L T W' := by
  have hk : ∀ {k : Nat} {o : Obj}, W.heap[k]? = some o → o.isCells = true → W'.heap[k]? = some o := fun h1 h2 => (grownBy_keeps_cells hg (fun r e => (hr r e).2) h1 h2).trans h1
  exact ⟨own_keepB h.own (fun k cs h1 => hk h1 rfl), hk h.b6 rfl, hk h.b7 rfl, hk h.out rfl, hk h.b10 rfl, hk h.i1 rfl, hk h.i2 rfl, h.bel.grown hg hB (fun k e => (hr k e).1)⟩
theorem PkI.lt (h : PkI N n p len c m wd w v L T W) : N ≤ W.heap.size := Nat.le_of_lt (Array.getElem?_eq_some_iff.1 h.b6).1
theorem PkI.drew (h : PkI N n p len c m wd w v L T W) : PkI N n p len c m wd w v L T W.drew := ⟨h.own, h.b6, h.b7, h.out, h.b10, h.i1, h.i2, h.bel.drew⟩
theorem PkI.put10 (h : PkI N n p len c m wd w v L T W) (T' : Nat) : PkI N n p len c m wd w v L T' (W.setCell ⟨N + 1 + 1 + 1, 0, none⟩ (.int .i64 (T' : Int))) := by
  have hk : ∀ {k : Nat} {o : Obj}, k ≠ N + 1 + 1 + 1 → W.heap[k]? = some o → (W.setCell ⟨N + 1 + 1 + 1, 0, none⟩ (.int .i64 (T' : Int))).heap[k]? = some o := fun hne h1 => (Below.heap_setCell W ⟨N + 1 + 1 + 1, 0, none⟩ _ _ hne).trans h1
  refine ⟨own_keepB h.own (fun k cs h3 => hk ?_ h3), hk (by omega) h.b6, hk (by omega) h.b7, hk (by omega) h.out, block_of_set h.b10, hk (by omega) h.i1, hk (by omega) h.i2, h.bel.setCell (p := ⟨N + 1 + 1 + 1, 0, none⟩) (by show N ≤ N + 1 + 1 + 1; omega) _⟩
  rintro rfl
  rw [h.b10] at h3; cases h3
theorem PkI.app (h : PkI N n p len c m wd w v L T W) (hg : Grew N W v L' W' v') : W'.ownsRow N 5 1 v' L'.length (ubs L') ∧ PkI N n p len c m wd w v' L' T (W'.setCell ⟨N + 1 + 1, 0, none⟩ v') ∧ KeepsOthers W (W'.setCell ⟨N + 1 + 1, 0, none⟩ v') ∧ W'.heap[N + 1 + 1]? = some (.cells #[v] 39 (0, 0)) ∧ Below N W (W'.setCell ⟨N + 1 + 1, 0, none⟩ v') := by
  have hk : ∀ {k : Nat} {cs : Array Value} {t : TypeId}, W.heap[k]? = some (.cells cs t (0, 0)) → t ≠ 5 → W'.heap[k]? = some (.cells cs t (0, 0)) := fun h1 h2 => (hg.grown.block _ (Array.getElem?_eq_some_iff.1 h1).1 (own_ne h.own h1 h2)).trans h1
  have hs : ∀ {k : Nat} {o : Obj}, k ≠ N + 1 + 1 → W'.heap[k]? = some o → (W'.setCell ⟨N + 1 + 1, 0, none⟩ v').heap[k]? = some o := fun hne h1 => (Below.heap_setCell W' ⟨N + 1 + 1, 0, none⟩ _ _ hne).trans h1
  have hO := hk h.out (by decide)
  have hne : ∀ {k : Nat} {cs : Array Value}, W'.heap[k]? = some (.cells cs 5 (0, 0)) → k ≠ N + 1 + 1 := by
    rintro k cs h1 rfl
    rw [hO] at h1; cases h1
  have hb1 : Below N w W' := h.bel.grown hg.grown h.lt (fun k e => own_ge h.own e)
  refine ⟨hg.own, ⟨own_keepB hg.own (fun k cs h3 => hs (hne h3) h3), hs (by omega) (hk h.b6 (by decide)), hs (by omega) (hk h.b7 (by decide)), block_of_set hO, hs (by omega) (hk h.b10 (by decide)), hs (by omega) (hk h.i1 (by decide)), hs (by omega) (hk h.i2 (by decide)), hb1.setCell (p := ⟨N + 1 + 1, 0, none⟩) (by show N ≤ N + 1 + 1; omega) _⟩, (KeepsOthers.of_grownBy hg.grown (own_cells h.own)).trans (KeepsOthers.setCell _ _ _), hO, ((Below.refl N W).grown hg.grown h.lt (fun k e => own_ge h.own e)).setCell (p := ⟨N + 1 + 1, 0, none⟩) (by show N ≤ N + 1 + 1; omega) _⟩
theorem PkI.set (h : PkI N n p len c m wd w v L T W) (hl : 0 < L.length) : ∃ g cap, v = .slice (some ⟨g, 0, none⟩) L.length cap ∧ L.length ≤ cap ∧ (∀ j, j < L.length → W.cell? ⟨g, j, none⟩ = some (.int .u8 (((L.getD j 0).toNat : Nat) : Int))) ∧ (∀ j, W.frozen? ⟨g, j, none⟩ = false) ∧ (∀ k, k ≤ N + 1 + 1 + 1 + 1 + 1 → N ≤ k → k ≠ g) ∧ ∀ k (y : UInt8), k < L.length → PkI N n p len c m wd w v (L.set k y) T (W.setCell ⟨g, k, none⟩ (.int .u8 (y.toNat : Int))) ∧ Below N W (W.setCell ⟨g, k, none⟩ (.int .u8 (y.toNat : Int))) := by
  obtain ⟨g, cap, hv, hcap, hg, hgl, hc, hf, hset⟩ := own_set h.own hl
  have hx : ∀ {k : Nat} {cs : Array Value} {t : TypeId}, W.heap[k]? = some (.cells cs t (0, 0)) → t ≠ 5 → k ≠ g := by
    rintro k cs t h1 h2 rfl
    have := own_ne h.own h1 h2
    rw [hv] at this; exact this rfl
  refine ⟨g, cap, hv, hcap, hc, hf, fun k hk1 hk2 => ?_, fun k y hk => ?_⟩
  · have : k = N ∨ k = N + 1 ∨ k = N + 1 + 1 ∨ k = N + 1 + 1 + 1 ∨ k = N + 1 + 1 + 1 + 1 ∨ k = N + 1 + 1 + 1 + 1 + 1 := by omega
    rcases this with rfl | rfl | rfl | rfl | rfl | rfl
    · exact hx h.b6 (by decide)
    · exact hx h.b7 (by decide)
    · exact hx h.out (by decide)
    · exact hx h.b10 (by decide)
    · exact hx h.i1 (by decide)
    · exact hx h.i2 (by decide)
  · have hk' : ∀ {j : Nat} {cs : Array Value} {t : TypeId}, W.heap[j]? = some (.cells cs t (0, 0)) → t ≠ 5 → (W.setCell ⟨g, k, none⟩ (.int .u8 (y.toNat : Int))).heap[j]? = some (.cells cs t (0, 0)) := fun h1 h2 => (Below.heap_setCell W ⟨g, k, none⟩ _ _ (hx h1 h2)).trans h1
    have ho := hset k y hk
    rw [show L.length = (L.set k y).length by rw [List.length_set]] at ho
    exact ⟨⟨ho, hk' h.b6 (by decide), hk' h.b7 (by decide), hk' h.out (by decide), hk' h.b10 (by decide), hk' h.i1 (by decide), hk' h.i2 (by decide), h.bel.setCell (p := ⟨g, k, none⟩) hg _⟩, (Below.refl N W).setCell (p := ⟨g, k, none⟩) hg _⟩
end
end Go.Proofs.YtpnofkefcoaojaaGreatDoor
