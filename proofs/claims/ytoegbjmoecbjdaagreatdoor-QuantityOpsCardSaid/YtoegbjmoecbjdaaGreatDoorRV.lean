/- The document's Get. -/
import Derived.Test.YtoegbjmoecbjdaaGreatDoorRU
set_option maxHeartbeats 3200000
set_option maxRecDepth 100000
namespace Go.Proofs.YtoegbjmoecbjdaaGreatDoor
open Go.RowKit Big
open Go.Lib
theorem get_long (s : ByteArray) (w : World) (h82 : (82 : Int) < s.size) : Calls Tryz.prog 38 #[.string s] w (FlagPost 0 false w) := by
  have hres := hiD (Resa.start w)
  go_enter Tryz.func38, Tryz.ntmps38
  go_wp2_with fail
  refine bodyPost_ret (v := .tuple #[.agg #[.bool false, .slice none 0 0, .slice none 0 0], .bool false]) ?h1 rfl ?h2
  case h1 => simp [results, Tryz.results38, go_sem]
  exact ⟨_, _, _, _, _, _, _, rfl, hres.out.below, fun h => by cases h⟩
theorem get_none (s : ByteArray) (q : Rat) (w : World) (h82 : (s.size : Int) ≤ 82) (hpl : ∀ W, Hid (Calls Tryz.prog 65 #[.string s] W (PlainPost none W))) : Calls Tryz.prog 38 #[.string s] w (FlagPost q false w) := by
  have hres := hiD (Resa.start w)
  go_enter Tryz.func38, Tryz.ntmps38
  go_wp2_with fail
  refine (hpl _).out.mono ?_
  rintro e w1 ⟨q1, b, p, n, c, p2, n2, c2, rfl, hb1, -⟩
  have hr2 := hiD ((hres.out.next hb1).next (below_alloc9 w1 (.cells #[.bool b, .slice p n c, .slice p2 n2 c2] 38)))
  obtain ⟨z0, z1, z2, l0, l1, l2, f0, f1, f2⟩ := hr2.out.slots
  have q3 := hiD (hr2.out.put3 (Nat.le_refl _) false none none 0 0 0 0).below
  clear hb1
  go_wp2_with fail
  refine bodyPost_ret (v := .tuple #[.agg #[.bool false, .slice none 0 0, .slice none 0 0], .bool false]) ?h1 rfl ?h2
  case h1 => simp [results, Tryz.results38, go_sem, l0, l1, l2]
  exact ⟨_, _, _, _, _, _, _, rfl, q3.out, fun h => by cases h⟩
theorem get_eq (s y : ByteArray) (q : Rat) (w : World) (h82 : (s.size : Int) ≤ 82) (hpl : ∀ W, Hid (Calls Tryz.prog 65 #[.string s] W (FlagPost q true W))) (htx : ∀ W x, QAt W x q → Hid (Calls Tryz.prog 66 #[x] W fun e w' => e = .returned (.tuple #[.string y, .bool true]) ∧ Below W.heap.size W w')) (he : (y.toList == s.toList) = true) : Calls Tryz.prog 38 #[.string s] w (FlagPost q true w) := by
  have hres := hiD (Resa.start w)
  go_enter Tryz.func38, Tryz.ntmps38
  go_wp2_with fail
  refine (hpl _).out.mono ?_
  rintro e w1 ⟨b, p, n, c, p2, n2, c2, rfl, hb1, hq⟩
  have hr1 := hres.out.next hb1
  have hq1 := hq rfl
  have hr2 := hiD (hr1.next (below_alloc9 w1 (.cells #[.bool b, .slice p n c, .slice p2 n2 c2] 38)))
  have hq2 := hiD (hq1.below (below_alloc9 w1 (.cells #[.bool b, .slice p n c, .slice p2 n2 c2] 38)))
  have hbx : Hid ((w1.alloc (.cells #[.bool b, .slice p n c, .slice p2 n2 c2] 38)).heap[w1.heap.size]? = some (.cells #[.bool b, .slice p n c, .slice p2 n2 c2] 38 (0, 0))) := hiD (heap_new _ _)
  have ht := htx _ _ hq2.out
  clear hb1 hq hr1 hq1
  go_wp2_with fail
  refine ht.out.mono ?_
  rintro e w3 ⟨rfl, hb3⟩
  have hr3 := hiD (hr2.out.next hb3)
  have hq3 := hq2.out.below hb3
  have hbx3 : w3.heap[w1.heap.size]? = some (.cells #[.bool b, .slice p n c, .slice p2 n2 c2] 38 (0, 0)) := (hb3.block _ (by simp)).trans hbx.out
  have c0 := ceh hbx3 0
  have c1 := ceh hbx3 1
  have c2' := ceh hbx3 2
  obtain ⟨z0, z1, z2, l0, l1, l2, f0, f1, f2⟩ := hr3.out.slots
  obtain ⟨u, v, he, hu, hv⟩ := hq3
  cases he
  have hfin := hiD (hr3.out.fin (Nat.le_refl _) rfl hu hv)
  obtain ⟨sb, hsb⟩ : ∃ sb, Hid (sb = decide (q.num < 0)) := ⟨_, hiD rfl⟩
  rw [← hsb.out] at hfin c0 hbx3
  rw [← hsb.out]
  clear hbx3 hb3 hu hv ht
  go_wp2_with fail
  refine bodyPost_ret (v := .tuple #[.agg #[.bool sb, .slice p n c, .slice p2 n2 c2], .bool true]) ?h1 rfl ?h2
  case h1 => simp [results, Tryz.results38, go_sem, l0, l1, l2]
  obtain ⟨x, hx, hq, hb⟩ := hfin.out
  cases hx
  exact ⟨_, _, _, _, _, _, _, rfl, hb, fun _ => hq⟩
theorem get_ne (s y : ByteArray) (q : Rat) (w : World) (h82 : (s.size : Int) ≤ 82) (hpl : ∀ W, Hid (Calls Tryz.prog 65 #[.string s] W (FlagPost q true W))) (htx : ∀ W x, QAt W x q → Hid (Calls Tryz.prog 66 #[x] W fun e w' => e = .returned (.tuple #[.string y, .bool true]) ∧ Below W.heap.size W w')) (he : (y.toList == s.toList) = false) : Calls Tryz.prog 38 #[.string s] w (FlagPost q false w) := by
  have hres := hiD (Resa.start w)
  go_enter Tryz.func38, Tryz.ntmps38
  go_wp2_with fail
  refine (hpl _).out.mono ?_
  rintro e w1 ⟨b, p, n, c, p2, n2, c2, rfl, hb1, hq⟩
  have hr1 := hres.out.next hb1
  have hq1 := hq rfl
  have hr2 := hiD (hr1.next (below_alloc9 w1 (.cells #[.bool b, .slice p n c, .slice p2 n2 c2] 38)))
  have hq2 := hiD (hq1.below (below_alloc9 w1 (.cells #[.bool b, .slice p n c, .slice p2 n2 c2] 38)))
  have hbx : Hid ((w1.alloc (.cells #[.bool b, .slice p n c, .slice p2 n2 c2] 38)).heap[w1.heap.size]? = some (.cells #[.bool b, .slice p n c, .slice p2 n2 c2] 38 (0, 0))) := hiD (heap_new _ _)
  have ht := htx _ _ hq2.out
  clear hb1 hq hr1 hq1
  go_wp2_with fail
  refine ht.out.mono ?_
  rintro e w3 ⟨rfl, hb3⟩
  have hr3 := hiD (hr2.out.next hb3)
  have hq3 := hq2.out.below hb3
  have hbx3 : w3.heap[w1.heap.size]? = some (.cells #[.bool b, .slice p n c, .slice p2 n2 c2] 38 (0, 0)) := (hb3.block _ (by simp)).trans hbx.out
  have c0 := ceh hbx3 0
  have c1 := ceh hbx3 1
  have c2' := ceh hbx3 2
  obtain ⟨z0, z1, z2, l0, l1, l2, f0, f1, f2⟩ := hr3.out.slots
  obtain ⟨u, v, he, hu, hv⟩ := hq3
  cases he
  have hfin := hiD (hr3.out.fin (Nat.le_refl _) rfl hu hv)
  obtain ⟨sb, hsb⟩ : ∃ sb, Hid (sb = decide (q.num < 0)) := ⟨_, hiD rfl⟩
  rw [← hsb.out] at hfin c0 hbx3
  rw [← hsb.out]
  clear hbx3 hb3 hu hv ht
  go_wp2_with fail
  refine bodyPost_ret (v := .tuple #[.agg #[.bool sb, .slice p n c, .slice p2 n2 c2], .bool false]) ?h1 rfl ?h2
  case h1 => simp [results, Tryz.results38, go_sem, l0, l1, l2]
  obtain ⟨x, hx, hq, hb⟩ := hfin.out
  cases hx
  exact ⟨_, _, _, _, _, _, _, rfl, hb, fun _ => hq⟩
theorem get_no (s y : ByteArray) (q : Rat) (w : World) (h82 : (s.size : Int) ≤ 82) (hpl : ∀ W, Hid (Calls Tryz.prog 65 #[.string s] W (FlagPost q true W))) (htx : ∀ W x, QAt W x q → Hid (Calls Tryz.prog 66 #[x] W fun e w' => e = .returned (.tuple #[.string y, .bool false]) ∧ Below W.heap.size W w'))  : Calls Tryz.prog 38 #[.string s] w (FlagPost q false w) := by
  have hres := hiD (Resa.start w)
  go_enter Tryz.func38, Tryz.ntmps38
  go_wp2_with fail
  refine (hpl _).out.mono ?_
  rintro e w1 ⟨b, p, n, c, p2, n2, c2, rfl, hb1, hq⟩
  have hr1 := hres.out.next hb1
  have hq1 := hq rfl
  have hr2 := hiD (hr1.next (below_alloc9 w1 (.cells #[.bool b, .slice p n c, .slice p2 n2 c2] 38)))
  have hq2 := hiD (hq1.below (below_alloc9 w1 (.cells #[.bool b, .slice p n c, .slice p2 n2 c2] 38)))
  have hbx : Hid ((w1.alloc (.cells #[.bool b, .slice p n c, .slice p2 n2 c2] 38)).heap[w1.heap.size]? = some (.cells #[.bool b, .slice p n c, .slice p2 n2 c2] 38 (0, 0))) := hiD (heap_new _ _)
  have ht := htx _ _ hq2.out
  clear hb1 hq hr1 hq1
  go_wp2_with fail
  refine ht.out.mono ?_
  rintro e w3 ⟨rfl, hb3⟩
  have hr3 := hiD (hr2.out.next hb3)
  have hq3 := hq2.out.below hb3
  have hbx3 : w3.heap[w1.heap.size]? = some (.cells #[.bool b, .slice p n c, .slice p2 n2 c2] 38 (0, 0)) := (hb3.block _ (by simp)).trans hbx.out
  have c0 := ceh hbx3 0
  have c1 := ceh hbx3 1
  have c2' := ceh hbx3 2
  obtain ⟨z0, z1, z2, l0, l1, l2, f0, f1, f2⟩ := hr3.out.slots
  obtain ⟨u, v, he, hu, hv⟩ := hq3
  cases he
  have hfin := hiD (hr3.out.fin (Nat.le_refl _) rfl hu hv)
  obtain ⟨sb, hsb⟩ : ∃ sb, Hid (sb = decide (q.num < 0)) := ⟨_, hiD rfl⟩
  rw [← hsb.out] at hfin c0 hbx3
  rw [← hsb.out]
  clear hbx3 hb3 hu hv ht
  go_wp2_with fail
  refine bodyPost_ret (v := .tuple #[.agg #[.bool sb, .slice p n c, .slice p2 n2 c2], .bool false]) ?h1 rfl ?h2
  case h1 => simp [results, Tryz.results38, go_sem, l0, l1, l2]
  obtain ⟨x, hx, hq, hb⟩ := hfin.out
  cases hx
  exact ⟨_, _, _, _, _, _, _, rfl, hb, fun _ => hq⟩
def GetPost (o : Option Rat) (w : World) (e : Ending) (w' : World) : Prop := match o with
  | some q => FlagPost q true w e w'
  | none => ∃ q, FlagPost q false w e w'
theorem readL_le {l : List UInt8} {s : Bool} {n d : Nat} (h : readL l = some (s, n, d)) (hl : l.length ≤ 82) : QLt 10 (ratv s n d) ∧ 0 < d := by
  unfold readL at h
  rw [Option.map_eq_some_iff] at h
  obtain ⟨⟨n', d'⟩, h1, h2⟩ := h
  simp only [Prod.mk.injEq] at h2
  rw [h2.2.1, h2.2.2] at h1
  have hd := readAbs_pos h1
  refine ⟨?_, hd⟩
  have h3 : n < B9 ^ 10 ∧ d < B9 ^ 10 := by
    have e9 : B9 ^ 10 = 10 ^ 90 := by rw [B9_pow]
    rw [e9]
    have hle : (Lib.trimPrefix l [45]).length ≤ 82 := Nat.le_trans (trim_len l) hl
    generalize Lib.trimPrefix l [45] = m at h1 hle
    have hdv : ∀ x : List UInt8, allDig x = true → x.length ≤ 82 → dval x < 10 ^ 90 := fun x hx hxl =>
      Nat.lt_of_lt_of_le (dval_lt x (allDig_all hx)) (Nat.pow_le_pow_right (by omega) (by omega))
    obtain ⟨k1, k2, k3⟩ := cut_len m 46
    obtain ⟨m1, m2, m3⟩ := cut_len m 47
    unfold readAbs at h1
    split at h1
    · split at h1
      · rename_i hdd
        rw [Bool.and_eq_true] at hdd
        simp only [Option.some.injEq, Prod.mk.injEq] at h1
        obtain ⟨rfl, rfl⟩ := h1
        refine ⟨hdv _ ?_ (by rw [List.length_append]; omega), Nat.pow_lt_pow_right (by omega) (by omega)⟩
        unfold allDig
        rw [List.all_append, allDig_all hdd.1, allDig_all hdd.2]
        have := hdd.1
        unfold allDig at this
        simp at this ⊢
        intro h; exact absurd h this.2
      · cases h1
    · split at h1
      · split at h1
        · rename_i hdd
          rw [Bool.and_eq_true, Bool.and_eq_true] at hdd
          simp only [Option.some.injEq, Prod.mk.injEq] at h1
          obtain ⟨rfl, rfl⟩ := h1
          exact ⟨hdv _ hdd.1.1 (by omega), hdv _ hdd.1.2 (by omega)⟩
        · cases h1
      · split at h1
        · rename_i hdd
          simp only [Option.some.injEq, Prod.mk.injEq] at h1
          obtain ⟨rfl, rfl⟩ := h1
          exact ⟨hdv _ hdd hle, Nat.one_lt_pow (by omega) (by omega)⟩
        · cases h1
  have e : ratv s n d = ratv (s && !(n == 0)) n d := (ratv_drop s n d).symm
  rw [e]
  exact ratv_lt _ h3.1 h3.2 hd (by intro h; simp at h; omega)
theorem num_none_of {l : List UInt8} (h : readL l = none) : num l = none := by
  unfold num readQ; rw [h]; split <;> rfl
theorem num_of {l : List UInt8} {s : Bool} {n d : Nat} (h : readL l = some (s, n, d)) (hl : l.length ≤ 82) (hd : 0 < d) : num l = if txt (ratv s n d) = l then some (ratv s n d) else none := by
  unfold num readQ
  rw [if_neg (by omega), h]
  have e := numText_txt' (s := s) (a := n) (b := d) hd
  rw [ratv_drop] at e
  simp only [e]
  split
  · simp [ratv_drop]
  · rfl
theorem get_any (s : ByteArray) (w : World) : Calls Tryz.prog 38 #[.string s] w (GetPost (num s.data.toList) w) := by
  have hls : s.data.toList.length = s.size := by simp
  by_cases h82 : s.size ≤ 82
  · cases hr : readL s.data.toList with
    | none =>
      rw [num_none_of hr]
      exact (get_none s 0 w (by omega) (fun W => hiD (by have h := plain_any s W (by omega); rw [hr] at h; exact h))).mono fun e w' h => ⟨_, h⟩
    | some t =>
      obtain ⟨sg, n, d⟩ := t
      obtain ⟨hK, hd⟩ := readL_le hr (by omega)
      rw [num_of hr (by omega) hd]
      obtain ⟨y, hy⟩ : ∃ y : ByteArray, y = ⟨(txt (ratv sg n d)).toArray⟩ := ⟨_, rfl⟩
      have hyl : y.data.toList = txt (ratv sg n d) := by rw [hy]
      have hyl2 : y.toList = txt (ratv sg n d) := by rw [Lib.toList_data]; exact hyl
      have hpl : ∀ W, Hid (Calls Tryz.prog 65 #[.string s] W (FlagPost (ratv sg n d) true W)) := fun W => hiD (by have h := plain_any s W (by omega); rw [hr] at h; exact h)
      have htx : ∀ f, f = (!(txt (ratv sg n d)).isEmpty) → ∀ W x, QAt W x (ratv sg n d) → Hid (Calls Tryz.prog 66 #[x] W fun e w' => e = .returned (.tuple #[.string y, .bool f]) ∧ Below W.heap.size W w') := by
        rintro f rfl W x hx
        rw [hy]; exact hiD (text_q x _ 10 W (by omega) hK hx)
      have hne : s.data.toList ≠ [] := by intro h; rw [h] at hr; cases hr
      cases hf : (txt (ratv sg n d)).isEmpty with
      | true =>
        have h0 : txt (ratv sg n d) = [] := List.isEmpty_iff.1 hf
        rw [if_neg (by rw [h0]; exact fun h => hne h.symm)]
        exact (get_no s y (ratv sg n d) w (by omega) hpl (htx false (by rw [hf]; rfl))).mono fun e w' h => ⟨_, h⟩
      | false =>
        by_cases he : txt (ratv sg n d) = s.data.toList
        · rw [if_pos he]
          exact get_eq s y (ratv sg n d) w (by omega) hpl (htx true (by rw [hf]; rfl)) (by rw [hyl2, he, Lib.toList_data]; simp)
        · rw [if_neg he]
          exact (get_ne s y (ratv sg n d) w (by omega) hpl (htx true (by rw [hf]; rfl)) (by rw [hyl2, Lib.toList_data, beq_eq_false_iff_ne]; exact he)).mono fun e w' h => ⟨_, h⟩
  · have hn : num s.data.toList = none := by unfold num readQ; rw [if_pos (by omega)]; rfl
    rw [hn]
    exact (get_long s w (by omega)).mono fun e w' h => ⟨_, h⟩
end Go.Proofs.YtoegbjmoecbjdaaGreatDoor
