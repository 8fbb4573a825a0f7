/- The document's opened: a new key at a place. -/
import Derived.Test.YthpeaeepcbbfcaaAW
namespace Go.Proofs.Ythpeaeepcbbfcaa
open Go.RowKit

theorem info41 : (Try.prog.info? 41).map (fun i => (i.zero, i.size, i.bytes)) = some (some (.slice none 0 0), 1, 24) := by kernel_rfl
theorem news_take {w W : World} {b o : Nat} (t : Nat) {xs : List Value} (hb : b < w.heap.size) (hx : ∀ j u, xs[j]? = some u → w.cell? ⟨b, o + j, none⟩ = some u) (hW : Below w.heap.size w W) : ∀ j u, (xs.take t)[j]? = some u → W.cell? ((⟨b, o, none⟩ : Addr).add j) = some u := by
  intro j u h
  rw [Addr.add_lit]
  rw [List.getElem?_take] at h
  split at h
  · exact (hW.cell (p := ⟨b, o + j, none⟩) hb).trans (hx j u h)
  · cases h
theorem news_drop {w W : World} {b o : Nat} (t : Nat) {xs : List Value} (hb : b < w.heap.size) (hx : ∀ j u, xs[j]? = some u → w.cell? ⟨b, o + j, none⟩ = some u) (hW : Below w.heap.size w W) : ∀ j u, (xs.drop t)[j]? = some u → W.cell? ((⟨b, o + t, none⟩ : Addr).add j) = some u := by
  intro j u h
  rw [Addr.add_lit, Nat.add_assoc]
  rw [List.getElem?_drop] at h
  exact (hW.cell (p := ⟨b, o + (t + j), none⟩) hb).trans (hx (t + j) u h)
theorem news_one {w : World} (v : Value) (T : TypeId) : ∀ j u, [v][j]? = some u → (w.alloc (.cells #[v] T)).cell? ((⟨w.heap.size, 0, none⟩ : Addr).add j) = some u := by
  intro j u h
  match j, h with
  | 0, h =>
    simp at h; subst h
    rw [Addr.add_lit]
    exact (Bk.new w #[v] T).cell 0
  | j + 1, h => simp at h
theorem news_none {W : World} {ad : Addr} (xs : List Value) (t : Nat) {m : Nat} (hl : (xs.drop t).length = m * 1) (hm : m = 0) : ∀ j u, (xs.drop t)[j]? = some u → W.cell? (ad.add j) = some u := by
  intro j u h
  subst hm
  have e : xs.drop t = [] := List.length_eq_zero_iff.1 (by rw [hl])
  rw [e] at h
  simp at h
theorem one_take {xs : List Value} (t : Nat) (h : ∀ u ∈ xs, u.oneCell' = true) : ∀ u ∈ xs.take t, u.oneCell' = true := fun u hu => h u (List.mem_of_mem_take hu)
theorem one_drop {xs : List Value} (t : Nat) (h : ∀ u ∈ xs, u.oneCell' = true) : ∀ u ∈ xs.drop t, u.oneCell' = true := fun u hu => h u (List.mem_of_mem_drop hu)
theorem one_one {v : Value} (h : v.oneCell' = true) : ∀ u ∈ [v], u.oneCell' = true := by intro u hu; simp at hu; subst hu; exact h

/-- A row of numbers and a row of slices, both of the call's own. -/
structure O2 (v1 v2 : Value) (k1 k2 : Nat) (xs1 xs2 : List Value) (w0 W : World) : Prop where
  below : Below w0.heap.size w0 W
  o1 : W.ownsRow w0.heap.size 3 1 v1 k1 xs1
  o2 : W.ownsRow w0.heap.size 41 1 v2 k2 xs2
variable {v1 v2 : Value} {k1 k2 : Nat} {xs1 xs2 : List Value} {w0 W W' : World}
theorem owns_next' {v : Value} {k base e : Nat} {xs : List Value} (h : W.ownsRow base e 1 v k xs) (hb : Below W.heap.size W W') : W'.ownsRow base e 1 v k xs := by
  refine ⟨h.1, ?_⟩
  rcases h.2 with h0 | ⟨g, cap, cur, e1, hbg, hg, r⟩
  · exact .inl h0
  · exact .inr ⟨g, cap, cur, e1, hbg, (hb.block g (Array.getElem?_eq_some_iff.1 hg).1).trans hg, r⟩
theorem O2.start (w : World) : O2 (.slice none 0 0) (.slice none 0 0) 0 0 [] [] w w := ⟨Below.refl _ _, World.ownsRow_nil _ _ _ _, World.ownsRow_nil _ _ _ _⟩
theorem O2.next (h : O2 v1 v2 k1 k2 xs1 xs2 w0 W) (hb : Below W.heap.size W W') : O2 v1 v2 k1 k2 xs1 xs2 w0 W' := ⟨bel_next h.below hb, owns_next' h.o1 hb, owns_next' h.o2 hb⟩
theorem owns_type {v : Value} {k base e g : Nat} {xs : List Value} (h : W.ownsRow base e 1 v k xs) (hg : v.ownBlock = some g) : ∃ cur, W.heap[g]? = some (.cells cur e (0, 0)) := by
  rcases h.2 with ⟨rfl, -⟩ | ⟨g', cap, cur, rfl, hbg, hg', r⟩
  · simp [Value.ownBlock] at hg
  · simp [Value.ownBlock] at hg
    subst hg
    exact ⟨cur, hg'⟩
theorem O2.ne (h : O2 v1 v2 k1 k2 xs1 xs2 w0 W) (g : Nat) (h1 : v1.ownBlock = some g) : v2.ownBlock ≠ some g := by
  intro h2
  obtain ⟨c1, e1⟩ := owns_type h.o1 h1
  obtain ⟨c2, e2⟩ := owns_type h.o2 h2
  rw [e1] at e2
  simp at e2
theorem kept_other' {v u : Value} {k base e : Nat} {xs : List Value} (h : W.ownsRow base e 1 v k xs) (hg : W.grownBy W' u.ownBlock) (hne : ∀ g, u.ownBlock = some g → v.ownBlock ≠ some g) : W'.ownsRow base e 1 v k xs := by
  refine h.kept hg ?_
  cases hv : v.ownBlock with
  | none => exact .inl rfl
  | some g => exact .inr (fun e => hne g e.symm hv)
theorem O2.app1 {v1' : Value} {k1' : Nat} {ys : List Value} (h : O2 v1 v2 k1 k2 xs1 xs2 w0 W) (h1 : W'.ownsRow w0.heap.size 3 1 v1' k1' ys) (hg : W.grownBy W' v1.ownBlock) : O2 v1' v2 k1' k2 ys xs2 w0 W' :=
  ⟨h.below.grown hg h.below.size (fun k hk => (h.o1.lt k hk).1), h1, kept_other' h.o2 hg h.ne⟩
theorem O2.app2 {v2' : Value} {k2' : Nat} {ys : List Value} (h : O2 v1 v2 k1 k2 xs1 xs2 w0 W) (h1 : W'.ownsRow w0.heap.size 41 1 v2' k2' ys) (hg : W.grownBy W' v2.ownBlock) : O2 v1 v2' k1 k2' xs1 ys w0 W' :=
  ⟨h.below.grown hg h.below.size (fun k hk => (h.o2.lt k hk).1), kept_other' h.o1 hg (fun g h2 h1 => h.ne g h1 h2), h1⟩

set_option maxRecDepth 100000 in
set_option maxHeartbeats 3200000 in
theorem opened_mm (b1 o1 b2 o2 n c c' t : Nat) (k : Int) (xs vs : List Value) (w : World) (hn : n ≤ 1000) (hc : n ≤ c) (hc' : n ≤ c') (ht : t ≤ n) (hc1 : t < c) (hc2 : t < c')
    (hx : xs.length = n) (hv : vs.length = n) (hb1 : Hid (b1 < w.heap.size)) (hb2 : Hid (b2 < w.heap.size)) (h1 : Hid (∀ u ∈ xs, u.oneCell' = true)) (h2 : Hid (∀ u ∈ vs, u.oneCell' = true))
    (hx1 : Hid (∀ j u, xs[j]? = some u → w.cell? ⟨b1, o1 + j, none⟩ = some u)) (hx2 : Hid (∀ j u, vs[j]? = some u → w.cell? ⟨b2, o2 + j, none⟩ = some u)) :
    Calls Try.prog 71 #[.slice (some ⟨b1, o1, none⟩) n c, .slice (some ⟨b2, o2, none⟩) n c', .int .i64 (t : Int), .int .i64 k] w fun e w' => ∃ v1 v2 k1 k2, e = .returned (.tuple #[v1, v2]) ∧ k1 = n + 1 ∧ k2 = n + 1 ∧ O2 v1 v2 k1 k2 (xs.take t ++ .int .i64 k :: xs.drop t) (vs.take t ++ .slice none 0 0 :: vs.drop t) w w' := by
  obtain ⟨i3, hi3, hz30, hz31, hz32⟩ := info_parts info3
  obtain ⟨i41, hi41, hz410, hz411, hz412⟩ := info_parts info41
  have HO := Lib.hid (O2.start w)
  have ltt := Lib.hid (show (xs.take t).length = t * 1 by rw [List.length_take]; omega)
  have ltd := Lib.hid (show (xs.drop t).length = (n - t) * 1 by rw [List.length_drop]; omega)
  have lvt := Lib.hid (show (vs.take t).length = t * 1 by rw [List.length_take]; omega)
  have lvd := Lib.hid (show (vs.drop t).length = (n - t) * 1 by rw [List.length_drop]; omega)
  clear hx hv
  go_enter Try.func71, Try.ntmps71
  have hcn := news_take t hb1.out hx1.out HO.out.below
  have hlen : (xs.take t).length = (t) * 1 := ltt.out
  go_wp2_with (at_builtin; refine wpList_append_own _ (o := ⟨some 16, _, _, _, _, _⟩) rfl (.tmp 12) (.tmp 15) 41 rfl w.heap.size 3 i3 (.int .i64 0) 1 8 Try.underlying41 hi3 hz30 hz31 hz32 rfl (by decide) _ 0 _ rfl HO.out.o1 ⟨b1, o1, none⟩ t _ (xs.take t) rfl hlen hcn (one_take t h1.out) (by unfold maxLen; omega) (by omega) HO.out.below.size ?_)
  intro v1 w1 g1 g2 _
  have HO1 := Lib.hid (HO.out.app1 g1 g2)
  clear g1 g2 hcn hlen
  have HO1 := Lib.hid (HO1.out.next (below_alloc w1 (.cells #[.int .i64 k] 3)))
  have hcn := news_one (w := w1) (.int .i64 k) 3
  have hlen : ([Value.int .i64 k]).length = (1) * 1 := rfl
  go_wp2_with (at_builtin; refine wpList_append_own _ (o := ⟨some 20, _, _, _, _, _⟩) rfl (.tmp 17) (.tmp 19) 41 rfl w.heap.size 3 i3 (.int .i64 0) 1 8 Try.underlying41 hi3 hz30 hz31 hz32 rfl (by decide) _ _ _ rfl HO1.out.o1 ⟨w1.heap.size, 0, none⟩ 1 _ ([Value.int .i64 k]) rfl hlen hcn (one_one rfl) (by unfold maxLen; omega) (by omega) HO1.out.below.size ?_)
  intro v2 w2 g1 g2 _
  have HO2 := Lib.hid (HO1.out.app1 g1 g2)
  clear g1 g2 hcn hlen
  have hcn := news_drop t hb1.out hx1.out HO2.out.below
  have hlen : (xs.drop t).length = ((n - t)) * 1 := ltd.out
  go_wp2_with (at_builtin; refine wpList_append_own _ (o := ⟨some 25, _, _, _, _, _⟩) rfl (.tmp 21) (.tmp 24) 41 rfl w.heap.size 3 i3 (.int .i64 0) 1 8 Try.underlying41 hi3 hz30 hz31 hz32 rfl (by decide) _ _ _ rfl HO2.out.o1 ⟨b1, o1 + t, none⟩ (n - t) _ (xs.drop t) rfl hlen hcn (one_drop t h1.out) (by unfold maxLen; omega) (by omega) HO2.out.below.size ?_)
  intro v3 w3 g1 g2 _
  have HO3 := Lib.hid (HO2.out.app1 g1 g2)
  clear g1 g2 hcn hlen
  have hcn := news_take t hb2.out hx2.out HO3.out.below
  have hlen : (vs.take t).length = (t) * 1 := lvt.out
  go_wp2_with (at_builtin; refine wpList_append_own _ (o := ⟨some 30, _, _, _, _, _⟩) rfl (.tmp 26) (.tmp 29) 53 rfl w.heap.size 41 i41 (.slice none 0 0) 1 24 Try.underlying53 hi41 hz410 hz411 hz412 rfl (by decide) _ 0 _ rfl HO3.out.o2 ⟨b2, o2, none⟩ t _ (vs.take t) rfl hlen hcn (one_take t h2.out) (by unfold maxLen; omega) (by omega) HO3.out.below.size ?_)
  intro v4 w4 g1 g2 _
  have HO4 := Lib.hid (HO3.out.app2 g1 g2)
  clear g1 g2 hcn hlen
  have HO4 := Lib.hid (HO4.out.next (below_alloc w4 (.cells #[.slice none 0 0] 41)))
  have hcn := news_one (w := w4) (.slice none 0 0) 41
  have hlen : ([Value.slice none 0 0]).length = (1) * 1 := rfl
  go_wp2_with (at_builtin; refine wpList_append_own _ (o := ⟨some 33, _, _, _, _, _⟩) rfl (.tmp 31) (.tmp 32) 53 rfl w.heap.size 41 i41 (.slice none 0 0) 1 24 Try.underlying53 hi41 hz410 hz411 hz412 rfl (by decide) _ _ _ rfl HO4.out.o2 ⟨w4.heap.size, 0, none⟩ 1 _ ([Value.slice none 0 0]) rfl hlen hcn (one_one rfl) (by unfold maxLen; omega) (by omega) HO4.out.below.size ?_)
  intro v5 w5 g1 g2 _
  have HO5 := Lib.hid (HO4.out.app2 g1 g2)
  clear g1 g2 hcn hlen
  have hcn := news_drop t hb2.out hx2.out HO5.out.below
  have hlen : (vs.drop t).length = ((n - t)) * 1 := lvd.out
  go_wp2_with (at_builtin; refine wpList_append_own _ (o := ⟨some 38, _, _, _, _, _⟩) rfl (.tmp 34) (.tmp 37) 53 rfl w.heap.size 41 i41 (.slice none 0 0) 1 24 Try.underlying53 hi41 hz410 hz411 hz412 rfl (by decide) _ _ _ rfl HO5.out.o2 ⟨b2, o2 + t, none⟩ (n - t) _ (vs.drop t) rfl hlen hcn (one_drop t h2.out) (by unfold maxLen; omega) (by omega) HO5.out.below.size ?_)
  intro v6 w6 g1 g2 _
  have HO6 := Lib.hid (HO5.out.app2 g1 g2)
  clear g1 g2 hcn hlen
  go_wp2_with fail
  go_ret2
  exact ⟨v3, v6, t + 1 + (n - t), t + 1 + (n - t), rfl, by omega, by omega, HO6.out⟩

set_option maxRecDepth 100000 in
set_option maxHeartbeats 3200000 in
theorem opened_em (b1 o1 b2 o2 n c c' t : Nat) (k : Int) (xs vs : List Value) (w : World) (hn : n ≤ 1000) (hc : n ≤ c) (hc' : n ≤ c') (ht : t ≤ n) (hc1 : c = t) (hc2 : t < c')
    (hx : xs.length = n) (hv : vs.length = n) (hb1 : Hid (b1 < w.heap.size)) (hb2 : Hid (b2 < w.heap.size)) (h1 : Hid (∀ u ∈ xs, u.oneCell' = true)) (h2 : Hid (∀ u ∈ vs, u.oneCell' = true))
    (hx1 : Hid (∀ j u, xs[j]? = some u → w.cell? ⟨b1, o1 + j, none⟩ = some u)) (hx2 : Hid (∀ j u, vs[j]? = some u → w.cell? ⟨b2, o2 + j, none⟩ = some u)) :
    Calls Try.prog 71 #[.slice (some ⟨b1, o1, none⟩) n c, .slice (some ⟨b2, o2, none⟩) n c', .int .i64 (t : Int), .int .i64 k] w fun e w' => ∃ v1 v2 k1 k2, e = .returned (.tuple #[v1, v2]) ∧ k1 = n + 1 ∧ k2 = n + 1 ∧ O2 v1 v2 k1 k2 (xs.take t ++ .int .i64 k :: xs.drop t) (vs.take t ++ .slice none 0 0 :: vs.drop t) w w' := by
  obtain ⟨i3, hi3, hz30, hz31, hz32⟩ := info_parts info3
  obtain ⟨i41, hi41, hz410, hz411, hz412⟩ := info_parts info41
  have HO := Lib.hid (O2.start w)
  have ltt := Lib.hid (show (xs.take t).length = t * 1 by rw [List.length_take]; omega)
  have ltd := Lib.hid (show (xs.drop t).length = (n - t) * 1 by rw [List.length_drop]; omega)
  have lvt := Lib.hid (show (vs.take t).length = t * 1 by rw [List.length_take]; omega)
  have lvd := Lib.hid (show (vs.drop t).length = (n - t) * 1 by rw [List.length_drop]; omega)
  clear hx hv
  go_enter Try.func71, Try.ntmps71
  have hcn := news_take t hb1.out hx1.out HO.out.below
  have hlen : (xs.take t).length = (t) * 1 := ltt.out
  go_wp2_with (at_builtin; refine wpList_append_own _ (o := ⟨some 16, _, _, _, _, _⟩) rfl (.tmp 12) (.tmp 15) 41 rfl w.heap.size 3 i3 (.int .i64 0) 1 8 Try.underlying41 hi3 hz30 hz31 hz32 rfl (by decide) _ 0 _ rfl HO.out.o1 ⟨b1, o1, none⟩ t _ (xs.take t) rfl hlen hcn (one_take t h1.out) (by unfold maxLen; omega) (by omega) HO.out.below.size ?_)
  intro v1 w1 g1 g2 _
  have HO1 := Lib.hid (HO.out.app1 g1 g2)
  clear g1 g2 hcn hlen
  have HO1 := Lib.hid (HO1.out.next (below_alloc w1 (.cells #[.int .i64 k] 3)))
  have hcn := news_one (w := w1) (.int .i64 k) 3
  have hlen : ([Value.int .i64 k]).length = (1) * 1 := rfl
  go_wp2_with (at_builtin; refine wpList_append_own _ (o := ⟨some 20, _, _, _, _, _⟩) rfl (.tmp 17) (.tmp 19) 41 rfl w.heap.size 3 i3 (.int .i64 0) 1 8 Try.underlying41 hi3 hz30 hz31 hz32 rfl (by decide) _ _ _ rfl HO1.out.o1 ⟨w1.heap.size, 0, none⟩ 1 _ ([Value.int .i64 k]) rfl hlen hcn (one_one rfl) (by unfold maxLen; omega) (by omega) HO1.out.below.size ?_)
  intro v2 w2 g1 g2 _
  have HO2 := Lib.hid (HO1.out.app1 g1 g2)
  clear g1 g2 hcn hlen
  have hcn := news_none (W := w2) (ad := ⟨b1, o1, none⟩) xs t ltd.out (by omega)
  have hlen : (xs.drop t).length = ((n - t)) * 1 := ltd.out
  go_wp2_with (at_builtin; refine wpList_append_own _ (o := ⟨some 25, _, _, _, _, _⟩) rfl (.tmp 21) (.tmp 24) 41 rfl w.heap.size 3 i3 (.int .i64 0) 1 8 Try.underlying41 hi3 hz30 hz31 hz32 rfl (by decide) _ _ _ rfl HO2.out.o1 ⟨b1, o1, none⟩ (n - t) _ (xs.drop t) rfl hlen hcn (one_drop t h1.out) (by unfold maxLen; omega) (by omega) HO2.out.below.size ?_)
  intro v3 w3 g1 g2 _
  have HO3 := Lib.hid (HO2.out.app1 g1 g2)
  clear g1 g2 hcn hlen
  have hcn := news_take t hb2.out hx2.out HO3.out.below
  have hlen : (vs.take t).length = (t) * 1 := lvt.out
  go_wp2_with (at_builtin; refine wpList_append_own _ (o := ⟨some 30, _, _, _, _, _⟩) rfl (.tmp 26) (.tmp 29) 53 rfl w.heap.size 41 i41 (.slice none 0 0) 1 24 Try.underlying53 hi41 hz410 hz411 hz412 rfl (by decide) _ 0 _ rfl HO3.out.o2 ⟨b2, o2, none⟩ t _ (vs.take t) rfl hlen hcn (one_take t h2.out) (by unfold maxLen; omega) (by omega) HO3.out.below.size ?_)
  intro v4 w4 g1 g2 _
  have HO4 := Lib.hid (HO3.out.app2 g1 g2)
  clear g1 g2 hcn hlen
  have HO4 := Lib.hid (HO4.out.next (below_alloc w4 (.cells #[.slice none 0 0] 41)))
  have hcn := news_one (w := w4) (.slice none 0 0) 41
  have hlen : ([Value.slice none 0 0]).length = (1) * 1 := rfl
  go_wp2_with (at_builtin; refine wpList_append_own _ (o := ⟨some 33, _, _, _, _, _⟩) rfl (.tmp 31) (.tmp 32) 53 rfl w.heap.size 41 i41 (.slice none 0 0) 1 24 Try.underlying53 hi41 hz410 hz411 hz412 rfl (by decide) _ _ _ rfl HO4.out.o2 ⟨w4.heap.size, 0, none⟩ 1 _ ([Value.slice none 0 0]) rfl hlen hcn (one_one rfl) (by unfold maxLen; omega) (by omega) HO4.out.below.size ?_)
  intro v5 w5 g1 g2 _
  have HO5 := Lib.hid (HO4.out.app2 g1 g2)
  clear g1 g2 hcn hlen
  have hcn := news_drop t hb2.out hx2.out HO5.out.below
  have hlen : (vs.drop t).length = ((n - t)) * 1 := lvd.out
  go_wp2_with (at_builtin; refine wpList_append_own _ (o := ⟨some 38, _, _, _, _, _⟩) rfl (.tmp 34) (.tmp 37) 53 rfl w.heap.size 41 i41 (.slice none 0 0) 1 24 Try.underlying53 hi41 hz410 hz411 hz412 rfl (by decide) _ _ _ rfl HO5.out.o2 ⟨b2, o2 + t, none⟩ (n - t) _ (vs.drop t) rfl hlen hcn (one_drop t h2.out) (by unfold maxLen; omega) (by omega) HO5.out.below.size ?_)
  intro v6 w6 g1 g2 _
  have HO6 := Lib.hid (HO5.out.app2 g1 g2)
  clear g1 g2 hcn hlen
  go_wp2_with fail
  go_ret2
  exact ⟨v3, v6, t + 1 + (n - t), t + 1 + (n - t), rfl, by omega, by omega, HO6.out⟩

set_option maxRecDepth 100000 in
set_option maxHeartbeats 3200000 in
theorem opened_me (b1 o1 b2 o2 n c c' t : Nat) (k : Int) (xs vs : List Value) (w : World) (hn : n ≤ 1000) (hc : n ≤ c) (hc' : n ≤ c') (ht : t ≤ n) (hc1 : t < c) (hc2 : c' = t)
    (hx : xs.length = n) (hv : vs.length = n) (hb1 : Hid (b1 < w.heap.size)) (hb2 : Hid (b2 < w.heap.size)) (h1 : Hid (∀ u ∈ xs, u.oneCell' = true)) (h2 : Hid (∀ u ∈ vs, u.oneCell' = true))
    (hx1 : Hid (∀ j u, xs[j]? = some u → w.cell? ⟨b1, o1 + j, none⟩ = some u)) (hx2 : Hid (∀ j u, vs[j]? = some u → w.cell? ⟨b2, o2 + j, none⟩ = some u)) :
    Calls Try.prog 71 #[.slice (some ⟨b1, o1, none⟩) n c, .slice (some ⟨b2, o2, none⟩) n c', .int .i64 (t : Int), .int .i64 k] w fun e w' => ∃ v1 v2 k1 k2, e = .returned (.tuple #[v1, v2]) ∧ k1 = n + 1 ∧ k2 = n + 1 ∧ O2 v1 v2 k1 k2 (xs.take t ++ .int .i64 k :: xs.drop t) (vs.take t ++ .slice none 0 0 :: vs.drop t) w w' := by
  obtain ⟨i3, hi3, hz30, hz31, hz32⟩ := info_parts info3
  obtain ⟨i41, hi41, hz410, hz411, hz412⟩ := info_parts info41
  have HO := Lib.hid (O2.start w)
  have ltt := Lib.hid (show (xs.take t).length = t * 1 by rw [List.length_take]; omega)
  have ltd := Lib.hid (show (xs.drop t).length = (n - t) * 1 by rw [List.length_drop]; omega)
  have lvt := Lib.hid (show (vs.take t).length = t * 1 by rw [List.length_take]; omega)
  have lvd := Lib.hid (show (vs.drop t).length = (n - t) * 1 by rw [List.length_drop]; omega)
  clear hx hv
  go_enter Try.func71, Try.ntmps71
  have hcn := news_take t hb1.out hx1.out HO.out.below
  have hlen : (xs.take t).length = (t) * 1 := ltt.out
  go_wp2_with (at_builtin; refine wpList_append_own _ (o := ⟨some 16, _, _, _, _, _⟩) rfl (.tmp 12) (.tmp 15) 41 rfl w.heap.size 3 i3 (.int .i64 0) 1 8 Try.underlying41 hi3 hz30 hz31 hz32 rfl (by decide) _ 0 _ rfl HO.out.o1 ⟨b1, o1, none⟩ t _ (xs.take t) rfl hlen hcn (one_take t h1.out) (by unfold maxLen; omega) (by omega) HO.out.below.size ?_)
  intro v1 w1 g1 g2 _
  have HO1 := Lib.hid (HO.out.app1 g1 g2)
  clear g1 g2 hcn hlen
  have HO1 := Lib.hid (HO1.out.next (below_alloc w1 (.cells #[.int .i64 k] 3)))
  have hcn := news_one (w := w1) (.int .i64 k) 3
  have hlen : ([Value.int .i64 k]).length = (1) * 1 := rfl
  go_wp2_with (at_builtin; refine wpList_append_own _ (o := ⟨some 20, _, _, _, _, _⟩) rfl (.tmp 17) (.tmp 19) 41 rfl w.heap.size 3 i3 (.int .i64 0) 1 8 Try.underlying41 hi3 hz30 hz31 hz32 rfl (by decide) _ _ _ rfl HO1.out.o1 ⟨w1.heap.size, 0, none⟩ 1 _ ([Value.int .i64 k]) rfl hlen hcn (one_one rfl) (by unfold maxLen; omega) (by omega) HO1.out.below.size ?_)
  intro v2 w2 g1 g2 _
  have HO2 := Lib.hid (HO1.out.app1 g1 g2)
  clear g1 g2 hcn hlen
  have hcn := news_drop t hb1.out hx1.out HO2.out.below
  have hlen : (xs.drop t).length = ((n - t)) * 1 := ltd.out
  go_wp2_with (at_builtin; refine wpList_append_own _ (o := ⟨some 25, _, _, _, _, _⟩) rfl (.tmp 21) (.tmp 24) 41 rfl w.heap.size 3 i3 (.int .i64 0) 1 8 Try.underlying41 hi3 hz30 hz31 hz32 rfl (by decide) _ _ _ rfl HO2.out.o1 ⟨b1, o1 + t, none⟩ (n - t) _ (xs.drop t) rfl hlen hcn (one_drop t h1.out) (by unfold maxLen; omega) (by omega) HO2.out.below.size ?_)
  intro v3 w3 g1 g2 _
  have HO3 := Lib.hid (HO2.out.app1 g1 g2)
  clear g1 g2 hcn hlen
  have hcn := news_take t hb2.out hx2.out HO3.out.below
  have hlen : (vs.take t).length = (t) * 1 := lvt.out
  go_wp2_with (at_builtin; refine wpList_append_own _ (o := ⟨some 30, _, _, _, _, _⟩) rfl (.tmp 26) (.tmp 29) 53 rfl w.heap.size 41 i41 (.slice none 0 0) 1 24 Try.underlying53 hi41 hz410 hz411 hz412 rfl (by decide) _ 0 _ rfl HO3.out.o2 ⟨b2, o2, none⟩ t _ (vs.take t) rfl hlen hcn (one_take t h2.out) (by unfold maxLen; omega) (by omega) HO3.out.below.size ?_)
  intro v4 w4 g1 g2 _
  have HO4 := Lib.hid (HO3.out.app2 g1 g2)
  clear g1 g2 hcn hlen
  have HO4 := Lib.hid (HO4.out.next (below_alloc w4 (.cells #[.slice none 0 0] 41)))
  have hcn := news_one (w := w4) (.slice none 0 0) 41
  have hlen : ([Value.slice none 0 0]).length = (1) * 1 := rfl
  go_wp2_with (at_builtin; refine wpList_append_own _ (o := ⟨some 33, _, _, _, _, _⟩) rfl (.tmp 31) (.tmp 32) 53 rfl w.heap.size 41 i41 (.slice none 0 0) 1 24 Try.underlying53 hi41 hz410 hz411 hz412 rfl (by decide) _ _ _ rfl HO4.out.o2 ⟨w4.heap.size, 0, none⟩ 1 _ ([Value.slice none 0 0]) rfl hlen hcn (one_one rfl) (by unfold maxLen; omega) (by omega) HO4.out.below.size ?_)
  intro v5 w5 g1 g2 _
  have HO5 := Lib.hid (HO4.out.app2 g1 g2)
  clear g1 g2 hcn hlen
  have hcn := news_none (W := w5) (ad := ⟨b2, o2, none⟩) vs t lvd.out (by omega)
  have hlen : (vs.drop t).length = ((n - t)) * 1 := lvd.out
  go_wp2_with (at_builtin; refine wpList_append_own _ (o := ⟨some 38, _, _, _, _, _⟩) rfl (.tmp 34) (.tmp 37) 53 rfl w.heap.size 41 i41 (.slice none 0 0) 1 24 Try.underlying53 hi41 hz410 hz411 hz412 rfl (by decide) _ _ _ rfl HO5.out.o2 ⟨b2, o2, none⟩ (n - t) _ (vs.drop t) rfl hlen hcn (one_drop t h2.out) (by unfold maxLen; omega) (by omega) HO5.out.below.size ?_)
  intro v6 w6 g1 g2 _
  have HO6 := Lib.hid (HO5.out.app2 g1 g2)
  clear g1 g2 hcn hlen
  go_wp2_with fail
  go_ret2
  exact ⟨v3, v6, t + 1 + (n - t), t + 1 + (n - t), rfl, by omega, by omega, HO6.out⟩

set_option maxRecDepth 100000 in
set_option maxHeartbeats 3200000 in
theorem opened_ee (b1 o1 b2 o2 n c c' t : Nat) (k : Int) (xs vs : List Value) (w : World) (hn : n ≤ 1000) (hc : n ≤ c) (hc' : n ≤ c') (ht : t ≤ n) (hc1 : c = t) (hc2 : c' = t)
    (hx : xs.length = n) (hv : vs.length = n) (hb1 : Hid (b1 < w.heap.size)) (hb2 : Hid (b2 < w.heap.size)) (h1 : Hid (∀ u ∈ xs, u.oneCell' = true)) (h2 : Hid (∀ u ∈ vs, u.oneCell' = true))
    (hx1 : Hid (∀ j u, xs[j]? = some u → w.cell? ⟨b1, o1 + j, none⟩ = some u)) (hx2 : Hid (∀ j u, vs[j]? = some u → w.cell? ⟨b2, o2 + j, none⟩ = some u)) :
    Calls Try.prog 71 #[.slice (some ⟨b1, o1, none⟩) n c, .slice (some ⟨b2, o2, none⟩) n c', .int .i64 (t : Int), .int .i64 k] w fun e w' => ∃ v1 v2 k1 k2, e = .returned (.tuple #[v1, v2]) ∧ k1 = n + 1 ∧ k2 = n + 1 ∧ O2 v1 v2 k1 k2 (xs.take t ++ .int .i64 k :: xs.drop t) (vs.take t ++ .slice none 0 0 :: vs.drop t) w w' := by
  obtain ⟨i3, hi3, hz30, hz31, hz32⟩ := info_parts info3
  obtain ⟨i41, hi41, hz410, hz411, hz412⟩ := info_parts info41
  have HO := Lib.hid (O2.start w)
  have ltt := Lib.hid (show (xs.take t).length = t * 1 by rw [List.length_take]; omega)
  have ltd := Lib.hid (show (xs.drop t).length = (n - t) * 1 by rw [List.length_drop]; omega)
  have lvt := Lib.hid (show (vs.take t).length = t * 1 by rw [List.length_take]; omega)
  have lvd := Lib.hid (show (vs.drop t).length = (n - t) * 1 by rw [List.length_drop]; omega)
  clear hx hv
  go_enter Try.func71, Try.ntmps71
  have hcn := news_take t hb1.out hx1.out HO.out.below
  have hlen : (xs.take t).length = (t) * 1 := ltt.out
  go_wp2_with (at_builtin; refine wpList_append_own _ (o := ⟨some 16, _, _, _, _, _⟩) rfl (.tmp 12) (.tmp 15) 41 rfl w.heap.size 3 i3 (.int .i64 0) 1 8 Try.underlying41 hi3 hz30 hz31 hz32 rfl (by decide) _ 0 _ rfl HO.out.o1 ⟨b1, o1, none⟩ t _ (xs.take t) rfl hlen hcn (one_take t h1.out) (by unfold maxLen; omega) (by omega) HO.out.below.size ?_)
  intro v1 w1 g1 g2 _
  have HO1 := Lib.hid (HO.out.app1 g1 g2)
  clear g1 g2 hcn hlen
  have HO1 := Lib.hid (HO1.out.next (below_alloc w1 (.cells #[.int .i64 k] 3)))
  have hcn := news_one (w := w1) (.int .i64 k) 3
  have hlen : ([Value.int .i64 k]).length = (1) * 1 := rfl
  go_wp2_with (at_builtin; refine wpList_append_own _ (o := ⟨some 20, _, _, _, _, _⟩) rfl (.tmp 17) (.tmp 19) 41 rfl w.heap.size 3 i3 (.int .i64 0) 1 8 Try.underlying41 hi3 hz30 hz31 hz32 rfl (by decide) _ _ _ rfl HO1.out.o1 ⟨w1.heap.size, 0, none⟩ 1 _ ([Value.int .i64 k]) rfl hlen hcn (one_one rfl) (by unfold maxLen; omega) (by omega) HO1.out.below.size ?_)
  intro v2 w2 g1 g2 _
  have HO2 := Lib.hid (HO1.out.app1 g1 g2)
  clear g1 g2 hcn hlen
  have hcn := news_none (W := w2) (ad := ⟨b1, o1, none⟩) xs t ltd.out (by omega)
  have hlen : (xs.drop t).length = ((n - t)) * 1 := ltd.out
  go_wp2_with (at_builtin; refine wpList_append_own _ (o := ⟨some 25, _, _, _, _, _⟩) rfl (.tmp 21) (.tmp 24) 41 rfl w.heap.size 3 i3 (.int .i64 0) 1 8 Try.underlying41 hi3 hz30 hz31 hz32 rfl (by decide) _ _ _ rfl HO2.out.o1 ⟨b1, o1, none⟩ (n - t) _ (xs.drop t) rfl hlen hcn (one_drop t h1.out) (by unfold maxLen; omega) (by omega) HO2.out.below.size ?_)
  intro v3 w3 g1 g2 _
  have HO3 := Lib.hid (HO2.out.app1 g1 g2)
  clear g1 g2 hcn hlen
  have hcn := news_take t hb2.out hx2.out HO3.out.below
  have hlen : (vs.take t).length = (t) * 1 := lvt.out
  go_wp2_with (at_builtin; refine wpList_append_own _ (o := ⟨some 30, _, _, _, _, _⟩) rfl (.tmp 26) (.tmp 29) 53 rfl w.heap.size 41 i41 (.slice none 0 0) 1 24 Try.underlying53 hi41 hz410 hz411 hz412 rfl (by decide) _ 0 _ rfl HO3.out.o2 ⟨b2, o2, none⟩ t _ (vs.take t) rfl hlen hcn (one_take t h2.out) (by unfold maxLen; omega) (by omega) HO3.out.below.size ?_)
  intro v4 w4 g1 g2 _
  have HO4 := Lib.hid (HO3.out.app2 g1 g2)
  clear g1 g2 hcn hlen
  have HO4 := Lib.hid (HO4.out.next (below_alloc w4 (.cells #[.slice none 0 0] 41)))
  have hcn := news_one (w := w4) (.slice none 0 0) 41
  have hlen : ([Value.slice none 0 0]).length = (1) * 1 := rfl
  go_wp2_with (at_builtin; refine wpList_append_own _ (o := ⟨some 33, _, _, _, _, _⟩) rfl (.tmp 31) (.tmp 32) 53 rfl w.heap.size 41 i41 (.slice none 0 0) 1 24 Try.underlying53 hi41 hz410 hz411 hz412 rfl (by decide) _ _ _ rfl HO4.out.o2 ⟨w4.heap.size, 0, none⟩ 1 _ ([Value.slice none 0 0]) rfl hlen hcn (one_one rfl) (by unfold maxLen; omega) (by omega) HO4.out.below.size ?_)
  intro v5 w5 g1 g2 _
  have HO5 := Lib.hid (HO4.out.app2 g1 g2)
  clear g1 g2 hcn hlen
  have hcn := news_none (W := w5) (ad := ⟨b2, o2, none⟩) vs t lvd.out (by omega)
  have hlen : (vs.drop t).length = ((n - t)) * 1 := lvd.out
  go_wp2_with (at_builtin; refine wpList_append_own _ (o := ⟨some 38, _, _, _, _, _⟩) rfl (.tmp 34) (.tmp 37) 53 rfl w.heap.size 41 i41 (.slice none 0 0) 1 24 Try.underlying53 hi41 hz410 hz411 hz412 rfl (by decide) _ _ _ rfl HO5.out.o2 ⟨b2, o2, none⟩ (n - t) _ (vs.drop t) rfl hlen hcn (one_drop t h2.out) (by unfold maxLen; omega) (by omega) HO5.out.below.size ?_)
  intro v6 w6 g1 g2 _
  have HO6 := Lib.hid (HO5.out.app2 g1 g2)
  clear g1 g2 hcn hlen
  go_wp2_with fail
  go_ret2
  exact ⟨v3, v6, t + 1 + (n - t), t + 1 + (n - t), rfl, by omega, by omega, HO6.out⟩

theorem owns_some {v : Value} {k base e : Nat} {xs : List Value} (h : W.ownsRow base e 1 v (k + 1) xs) : ∃ g cap, v = .slice (some ⟨g, 0, none⟩) (k + 1) cap ∧ k + 1 ≤ cap := by
  rcases h.2 with ⟨-, h0⟩ | ⟨g, cap, cur, e1, hbg, hg, hnc, r⟩
  · omega
  · exact ⟨g, cap, e1, hnc⟩
set_option maxRecDepth 100000 in
set_option maxHeartbeats 3200000 in
theorem opened_nil (k : Int) (w : World) : Calls Try.prog 71 #[.slice none 0 0, .slice none 0 0, .int .i64 0, .int .i64 k] w fun e w' => ∃ v1 v2, e = .returned (.tuple #[v1, v2]) ∧ O2 v1 v2 1 1 [.int .i64 k] [.slice none 0 0] w w' := by
  obtain ⟨i3, hi3, hz30, hz31, hz32⟩ := info_parts info3
  obtain ⟨i41, hi41, hz410, hz411, hz412⟩ := info_parts info41
  have HO := Lib.hid (O2.start w)
  have HO1 := Lib.hid (HO.out.next (below_alloc w (.cells #[.int .i64 k] 3)))
  go_enter Try.func71, Try.ntmps71
  have hcn := news_one (w := w) (.int .i64 k) 3
  have hlen : ([Value.int .i64 k]).length = (1) * 1 := rfl
  go_wp2_with (at_builtin; refine wpList_append_own _ (o := ⟨some 20, _, _, _, _, _⟩) rfl (.tmp 17) (.tmp 19) 41 rfl w.heap.size 3 i3 (.int .i64 0) 1 8 Try.underlying41 hi3 hz30 hz31 hz32 rfl (by decide) _ _ _ rfl HO1.out.o1 ⟨w.heap.size, 0, none⟩ 1 _ ([Value.int .i64 k]) rfl hlen hcn (one_one rfl) (by unfold maxLen; omega) (by omega) HO1.out.below.size ?_)
  intro v2 w2 g1 g2 _
  have HO2 := Lib.hid (HO1.out.app1 g1 g2)
  clear g1 g2 hcn hlen
  obtain ⟨q1, cap1, rfl, hcap1⟩ := owns_some (k := 0) HO2.out.o1
  have HO2 := Lib.hid (HO2.out.next (below_alloc w2 (.cells #[.slice none 0 0] 41)))
  have hcn := news_one (w := w2) (.slice none 0 0) 41
  have hlen : ([Value.slice none 0 0]).length = (1) * 1 := rfl
  go_wp2_with (at_builtin; refine wpList_append_own _ (o := ⟨some 33, _, _, _, _, _⟩) rfl (.tmp 31) (.tmp 32) 53 rfl w.heap.size 41 i41 (.slice none 0 0) 1 24 Try.underlying53 hi41 hz410 hz411 hz412 rfl (by decide) _ _ _ rfl HO2.out.o2 ⟨w2.heap.size, 0, none⟩ 1 _ ([Value.slice none 0 0]) rfl hlen hcn (one_one rfl) (by unfold maxLen; omega) (by omega) HO2.out.below.size ?_)
  intro v5 w5 g1 g2 _
  have HO5 := Lib.hid (HO2.out.app2 g1 g2)
  clear g1 g2 hcn hlen
  obtain ⟨q2, cap2, rfl, hcap2⟩ := owns_some (k := 0) HO5.out.o2
  go_wp2_with fail
  go_ret2
  exact ⟨_, _, rfl, HO5.out⟩
end Go.Proofs.Ythpeaeepcbbfcaa
