/- The document's Get. -/
import Derived.Test.YtoegbjmoecbjdaaGreatDoorRU
set_option maxHeartbeats 3200000
set_option maxRecDepth 100000
namespace Go.Proofs.YtoegbjmoecbjdaaGreatDoor
open Go.RowKit Big
open Go.Lib
theorem get_long (s : ByteArray) (w : World) (h82 : (82 : Int) < s.size) : Calls Tryz.prog 38 #[.string s] w (FlagPost 0 false w) := by
  have hres := hiD (Resa.start w)
  go_enter Tryz.func38, Tryz.ntmps38
  go_wp2_with fail
  refine bodyPost_ret (v := .tuple #[.agg #[.bool false, .slice none 0 0, .slice none 0 0], .bool false]) ?h1 rfl ?h2
  case h1 => simp [results, Tryz.results38, go_sem]
  exact ⟨_, _, _, _, _, _, _, rfl, hres.out.below, fun h => by cases h⟩
theorem get_none (s : ByteArray) (q : Rat) (w : World) (h82 : (s.size : Int) ≤ 82) (hpl : ∀ W, Hid (Calls Tryz.prog 65 #[.string s] W (PlainPost none W))) : Calls Tryz.prog 38 #[.string s] w (FlagPost q false w) := by
  have hres := hiD (Resa.start w)
  go_enter Tryz.func38, Tryz.ntmps38
  go_wp2_with fail
  refine (hpl _).out.mono ?_
  rintro e w1 ⟨q1, b, p, n, c, p2, n2, c2, rfl, hb1, -⟩
  have hr2 := hiD ((hres.out.next hb1).next (below_alloc9 w1 (.cells #[.bool b, .slice p n c, .slice p2 n2 c2] 38)))
  obtain ⟨z0, z1, z2, l0, l1, l2, f0, f1, f2⟩ := hr2.out.slots
  have q3 := hiD (hr2.out.put3 (Nat.le_refl _) false none none 0 0 0 0).below
  clear hb1
  go_wp2_with fail
  refine bodyPost_ret (v := .tuple #[.agg #[.bool false, .slice none 0 0, .slice none 0 0], .bool false]) ?h1 rfl ?h2
  case h1 => simp [results, Tryz.results38, go_sem, l0, l1, l2]
  exact ⟨_, _, _, _, _, _, _, rfl, q3.out, fun h => by cases h⟩
theorem get_eq (s y : ByteArray) (q : Rat) (w : World) (h82 : (s.size : Int) ≤ 82) (hpl : ∀ W, Hid (Calls Tryz.prog 65 #[.string s] W (FlagPost q true W))) (htx : ∀ W x, QAt W x q → Hid (Calls Tryz.prog 66 #[x] W fun e w' => e = .returned (.tuple #[.string y, .bool true]) ∧ Below W.heap.size W w')) (he : (y.toList == s.toList) = true) : Calls Tryz.prog 38 #[.string s] w (FlagPost q true w) := by
  have hres := hiD (Resa.start w)
  go_enter Tryz.func38, Tryz.ntmps38
  go_wp2_with fail
  refine (hpl _).out.mono ?_
  rintro e w1 ⟨b, p, n, c, p2, n2, c2, rfl, hb1, hq⟩
  have hr1 := hres.out.next hb1
  have hq1 := hq rfl
  have hr2 := hiD (hr1.next (below_alloc9 w1 (.cells #[.bool b, .slice p n c, .slice p2 n2 c2] 38)))
  have hq2 := hiD (hq1.below (below_alloc9 w1 (.cells #[.bool b, .slice p n c, .slice p2 n2 c2] 38)))
  have hbx : Hid ((w1.alloc (.cells #[.bool b, .slice p n c, .slice p2 n2 c2] 38)).heap[w1.heap.size]? = some (.cells #[.bool b, .slice p n c, .slice p2 n2 c2] 38 (0, 0))) := hiD (heap_new _ _)
  have ht := htx _ _ hq2.out
  clear hb1 hq hr1 hq1
  go_wp2_with fail
  refine ht.out.mono ?_
  rintro e w3 ⟨rfl, hb3⟩
  have hr3 := hiD (hr2.out.next hb3)
  have hq3 := hq2.out.below hb3
  have hbx3 : w3.heap[w1.heap.size]? = some (.cells #[.bool b, .slice p n c, .slice p2 n2 c2] 38 (0, 0)) := (hb3.block _ (by simp)).trans hbx.out
  have c0 := ceh hbx3 0
  have c1 := ceh hbx3 1
  have c2' := ceh hbx3 2
  obtain ⟨z0, z1, z2, l0, l1, l2, f0, f1, f2⟩ := hr3.out.slots
  obtain ⟨u, v, he, hu, hv⟩ := hq3
  cases he
  have hfin := hiD (hr3.out.fin (Nat.le_refl _) rfl hu hv)
  obtain ⟨sb, hsb⟩ : ∃ sb, Hid (sb = decide (q.num < 0)) := ⟨_, hiD rfl⟩
  rw [← hsb.out] at hfin c0 hbx3
  rw [← hsb.out]
  clear hbx3 hb3 hu hv ht
  go_wp2_with fail
  refine bodyPost_ret (v := .tuple #[.agg #[.bool sb, .slice p n c, .slice p2 n2 c2], .bool true]) ?h1 rfl ?h2
  case h1 => simp [results, Tryz.results38, go_sem, l0, l1, l2]
  obtain ⟨x, hx, hq, hb⟩ := hfin.out
  cases hx
  exact ⟨_, _, _, _, _, _, _, rfl, hb, fun _ => hq⟩
theorem get_ne (s y : ByteArray) (q : Rat) (w : World) (h82 : (s.size : Int) ≤ 82) (hpl : ∀ W, Hid (Calls Tryz.prog 65 #[.string s] W (FlagPost q true W))) (htx : ∀ W x, QAt W x q → Hid (Calls Tryz.prog 66 #[x] W fun e w' => e = .returned (.tuple #[.string y, .bool true]) ∧ Below W.heap.size W w')) (he : (y.toList == s.toList) = false) : Calls Tryz.prog 38 #[.string s] w (FlagPost q false w) := by
  have hres := hiD (Resa.start w)
  go_enter Tryz.func38, Tryz.ntmps38
  go_wp2_with fail
  refine (hpl _).out.mono ?_
  rintro e w1 ⟨b, p, n, c, p2, n2, c2, rfl, hb1, hq⟩
  have hr1 := hres.out.next hb1
  have hq1 := hq rfl
  have hr2 := hiD (hr1.next (below_alloc9 w1 (.cells #[.bool b, .slice p n c, .slice p2 n2 c2] 38)))
  have hq2 := hiD (hq1.below (below_alloc9 w1 (.cells #[.bool b, .slice p n c, .slice p2 n2 c2] 38)))
  have hbx : Hid ((w1.alloc (.cells #[.bool b, .slice p n c, .slice p2 n2 c2] 38)).heap[w1.heap.size]? = some (.cells #[.bool b, .slice p n c, .slice p2 n2 c2] 38 (0, 0))) := hiD (heap_new _ _)
  have ht := htx _ _ hq2.out
  clear hb1 hq hr1 hq1
  go_wp2_with fail
  refine ht.out.mono ?_
  rintro e w3 ⟨rfl, hb3⟩
  have hr3 := hiD (hr2.out.next hb3)
  have hq3 := hq2.out.below hb3
  have hbx3 : w3.heap[w1.heap.size]? = some (.cells #[.bool b, .slice p n c, .slice p2 n2 c2] 38 (0, 0)) := (hb3.block _ (by simp)).trans hbx.out
  have c0 := ceh hbx3 0
  have c1 := ceh hbx3 1
  have c2' := ceh hbx3 2
  obtain ⟨z0, z1, z2, l0, l1, l2, f0, f1, f2⟩ := hr3.out.slots
  obtain ⟨u, v, he, hu, hv⟩ := hq3
  cases he
  have hfin := hiD (hr3.out.fin (Nat.le_refl _) rfl hu hv)
  obtain ⟨sb, hsb⟩ : ∃ sb, Hid (sb = decide (q.num < 0)) := ⟨_, hiD rfl⟩
  rw [← hsb.out] at hfin c0 hbx3
  rw [← hsb.out]
  clear hbx3 hb3 hu hv ht
  go_wp2_with fail
  refine bodyPost_ret (v := .tuple #[.agg #[.bool sb, .slice p n c, .slice p2 n2 c2], .bool false]) ?h1 rfl ?h2
  case h1 => simp [results, Tryz.results38, go_sem, l0, l1, l2]
  obtain ⟨x, hx, hq, hb⟩ := hfin.out
  cases hx
  exact ⟨_, _, _, _, _, _, _, rfl, hb, fun _ => hq⟩
theorem get_no (s y : ByteArray) (q : Rat) (w : World) (h82 : (s.size : Int) ≤ 82) (hpl : ∀ W, Hid (Calls Tryz.prog 65 #[.string s] W (FlagPost q true W))) (htx : ∀ W x, QAt W x q → Hid (Calls Tryz.prog 66 #[x] W fun e w' => e = .returned (.tuple #[.string y, .bool false]) ∧ Below W.heap.size W w'))  : Calls Tryz.prog 38 #[.string s] w (FlagPost q false w) := by
  have hres := hiD (Resa.start w)
  go_enter Tryz.func38, Tryz.ntmps38
  go_wp2_with fail
  refine (hpl _).out.mono ?_
  rintro e w1 ⟨b, p, n, c, p2, n2, c2, rfl, hb1, hq⟩
  have hr1 := hres.out.next hb1
  have hq1 := hq rfl
  have hr2 := hiD (hr1.next (below_alloc9 w1 (.cells #[.bool b, .slice p n c, .slice p2 n2 c2] 38)))
  have hq2 := hiD (hq1.below (below_alloc9 w1 (.cells #[.bool b, .slice p n c, .slice p2 n2 c2] 38)))
  have hbx : Hid ((w1.alloc (.cells #[.bool b, .slice p n c, .slice p2 n2 c2] 38)).heap[w1.heap.size]? = some (.cells #[.bool b, .slice p n c, .slice p2 n2 c2] 38 (0, 0))) := hiD (heap_new _ _)
  have ht := htx _ _ hq2.out
  clear hb1 hq hr1 hq1
  go_wp2_with fail
  refine ht.out.mono ?_
  rintro e w3 ⟨rfl, hb3⟩
  have hr3 := hiD (hr2.out.next hb3)
  have hq3 := hq2.out.below hb3
  have hbx3 : w3.heap[w1.heap.size]? = some (.cells #[.bool b, .slice p n c, .slice p2 n2 c2] 38 (0, 0)) := (hb3.block _ (by simp)).trans hbx.out
  have c0 := ceh hbx3 0
  have c1 := ceh hbx3 1
  have c2' := ceh hbx3 2
  obtain ⟨z0, z1, z2, l0, l1, l2, f0, f1, f2⟩ := hr3.out.slots
  obtain ⟨u, v, he, hu, hv⟩ := hq3
  cases he
  have hfin := hiD (hr3.out.fin (Nat.le_refl _) rfl hu hv)
  obtain ⟨sb, hsb⟩ : ∃ sb, Hid (sb = decide (q.num < 0)) := ⟨_, hiD rfl⟩
  rw [← hsb.out] at hfin c0 hbx3
  rw [← hsb.out]
  clear hbx3 hb3 hu hv ht
  go_wp2_with fail
  refine bodyPost_ret (v := .tuple #[.agg #[.bool sb, .slice p n c, .slice p2 n2 c2], .bool false]) ?h1 rfl ?h2
  case h1 => simp [results, Tryz.results38, go_sem, l0, l1, l2]
  obtain ⟨x, hx, hq, hb⟩ := hfin.out
  cases hx
  exact ⟨_, _, _, _, _, _, _, rfl, hb, fun _ => hq⟩
def GetPost (o : Option Rat) (w : World) (e : Ending) (w' : World) : Prop := match o with
  | some q => FlagPost q true w e w'
  | none => ∃ q, FlagPost q false w e w'
theorem readL_le {l : List UInt8} {s : Bool} {n d : Nat} (h : readL l = some (s, n, d)) (hl : l.length ≤ 82) : QLt 10 (ratv s n d) ∧ 0 < d := by
  unfold readL at h
  rw [Option.map_eq_some_iff] at h
  obtain ⟨⟨n', d'⟩, h1, h2⟩ := h
  simp only [Prod.mk.injEq] at h2
  rw [h2.2.1, h2.2.2] at h1
  have hd := readAbs_pos h1
  refine ⟨?_, hd⟩
  have h3 : n < B9 ^ 10 ∧ d < B9 ^ 10 := by
    have e9 : B9 ^ 10 = 10 ^ 90 := by rw [B9_pow]
    rw [e9]
    have hle : (Lib.trimPrefix l [45]).length ≤ 82 := Nat.le_trans (trim_len l) hl
    generalize Lib.trimPrefix l [45] = m at h1 hle
    have hdv : ∀ x : List UInt8, allDig x = true → x.length ≤ 82 → dval x < 10 ^ 90 := fun x hx hxl =>
      Nat.lt_of_lt_of_le (dval_lt x (allDig_all hx)) (Nat.pow_le_pow_right (by omega) (by omega))
    obtain ⟨k1, k2, k3⟩ := cut_len m 46
    obtain ⟨m1, m2, m3⟩ := cut_len m 47
    unfold readAbs at h1
    split at h1
    · split at h1
      · rename_i hdd
        rw [Bool.and_eq_true] at hdd
        simp only [Option.some.injEq, Prod.mk.injEq] at h1
        obtain ⟨rfl, rfl⟩ := h1
        refine ⟨hdv _ ?_ (by rw [List.length_append]; omega), Nat.pow_lt_pow_right (by omega) (by omega)⟩
        unfold allDig
        rw [List.all_append, allDig_all hdd.1, allDig_all hdd.2]
        have := hdd.1
        unfold allDig at this
        simp at this ⊢
        intro h; exact absurd h this.2
      · cases h1
    · split at h1
      · split at h1
        · rename_i hdd
          rw [Bool.and_eq_true, Bool.and_eq_true] at hdd
          simp only [Option.some.injEq, Prod.mk.injEq] at h1
          obtain ⟨rfl, rfl⟩ := h1
          exact ⟨hdv _ hdd.1.1 (by omega), hdv _ hdd.1.2 (by omega)⟩
        · cases h1
      · split at h1
        · rename_i hdd
          simp only [Option.some.injEq, Prod.mk.injEq] at h1
          obtain ⟨rfl, rfl⟩ := h1
          exact ⟨hdv _ hdd hle, Nat.one_lt_pow (by omega) (by omega)⟩
        · cases h1
  have e : ratv s n d = ratv (s && !(n == 0)) n d := (ratv_drop s n d).symm
  rw [e]
  exact ratv_lt _ h3.1 h3.2 hd (by intro h; simp at h; omega)
theorem num_none_of {l : List UInt8} (h : readL l = none) : num l = none := by
  unfold num readQ; rw [h]; split <;> rfl
theorem num_of {l : List UInt8} {s : Bool} {n d : Nat} (h : readL l = some (s, n, d)) (hl : l.length ≤ 82) (hd : 0 < d) : num l = if txt (ratv s n d) = l then some (ratv s n d) else none := by
  unfold num readQ
  rw [if_neg (by omega), h]
  have e := numText_txt' (s := s) (a := n) (b := d) hd
  rw [ratv_drop] at e
  simp only [e]
  split
  · simp [ratv_drop]
  · rfl
theorem get_any (s : ByteArray) (w : World) : Calls Tryz.prog 38 #[.string s] w (GetPost (num s.data.toList) w) := by
  have hls : s.data.toList.length = s.size := by simp
  by_cases h82 : s.size ≤ 82
  · cases hr : readL s.data.toList with
    | none =>
      rw [num_none_of hr]
      exact (get_none s 0 w (by omega) (fun W => hiD (by have h := plain_any s W (by omega); rw [hr] at h; exact h))).mono fun e w' h => ⟨_, h⟩
    | some t =>
      obtain ⟨sg, n, d⟩ := t
      obtain ⟨hK, hd⟩ := readL_le hr (by omega)
      rw [num_of hr (by omega) hd]
      obtain ⟨y, hy⟩ : ∃ y : ByteArray, y = ⟨(txt (ratv sg n d)).toArray⟩ := ⟨_, rfl⟩
      have hyl : y.data.toList = txt (ratv sg n d) := by rw [hy]
      have hyl2 : y.toList = txt (ratv sg n d) := by rw [Lib.toList_data]; exact hyl
      have hpl : ∀ W, Hid (Calls Tryz.prog 65 #[.string s] W (FlagPost (ratv sg n d) true W)) := fun W => hiD (by have h := plain_any s W (by omega); rw [hr] at h; exact h)
      have htx : ∀ f, f = (!(txt (ratv sg n d)).isEmpty) → ∀ W x, QAt W x (ratv sg n d) → Hid (Calls Tryz.prog 66 #[x] W fun e w' => e = .returned (.tuple #[.string y, .bool f]) ∧ Below W.heap.size W w') := by
        rintro f rfl W x hx
        rw [hy]; exact hiD (text_q x _ 10 W (by omega) hK hx)
      have hne : s.data.toList ≠ [] := by intro h; rw [h] at hr; cases hr
      cases hf : (txt (ratv sg n d)).isEmpty with
      | true =>
        have h0 : txt (ratv sg n d) = [] := List.isEmpty_iff.1 hf
        rw [if_neg (by rw [h0]; exact fun h => hne h.symm)]
        exact (get_no s y (ratv sg n d) w (by omega) hpl (htx false (by rw [hf]; rfl))).mono fun e w' h => ⟨_, h⟩
      | false =>
        by_cases he : txt (ratv sg n d) = s.data.toList
        · rw [if_pos he]
          exact get_eq s y (ratv sg n d) w (by omega) hpl (htx true (by rw [hf]; rfl)) (by rw [hyl2, he, Lib.toList_data]; simp)
        · rw [if_neg he]
          exact (get_ne s y (ratv sg n d) w (by omega) hpl (htx true (by rw [hf]; rfl)) (by rw [hyl2, Lib.toList_data, beq_eq_false_iff_ne]; exact he)).mono fun e w' h => ⟨_, h⟩
  · have hn : num s.data.toList = none := by unfold num readQ; rw [if_pos (by omega)]; rfl
    rw [hn]
    exact (get_long s w (by omega)).mono fun e w' h => ⟨_, h⟩
end Go.Proofs.YtoegbjmoecbjdaaGreatDoor
namespace Go.Proofs.YtoegbjmoecbjdaaGreatDoor
open Go.RowKit Big
open Go.Lib
theorem Resa.other {B g : Nat} {w0 W : World} (h : Resa B w0 W) (hg : g ≠ B) (h0 : w0.heap.size ≤ g) (k : Nat) (v : Value) : Resa B w0 (W.setCell ⟨g, k, none⟩ v) := by
  refine ⟨by rw [World.size_setCell]; exact h.size, h.below.setCell h0 _, ?_⟩
  obtain ⟨z0, z1, z2, hz, hn⟩ := h.z
  exact ⟨z0, z1, z2, (Below.heap_setCell _ _ _ _ (fun e => hg e.symm)).trans hz, hn⟩
theorem QAt.put3 {B : Nat} {w0 W : World} {x : Value} {r : Rat} (hq : QAt W x r) (h : Resa B w0 W) (hB : w0.heap.size ≤ B) (a : Bool) (p q : Option Addr) (n c m d : Nat) : QAt (((W.setCell ⟨B, 0, none⟩ (.bool a)).setCell ⟨B, 1, none⟩ (.slice p n c)).setCell ⟨B, 2, none⟩ (.slice q m d)) x r := by
  obtain ⟨u, v, rfl, hu, hv⟩ := hq
  exact ⟨u, v, rfl, h.nat3 hB hu a p q n c m d, hv.imp (fun h2 => h.nat3 hB h2 a p q n c m d) fun h2 => ⟨h.nat3 hB h2.1 a p q n c m d, h2.2⟩⟩
end Go.Proofs.YtoegbjmoecbjdaaGreatDoor
namespace Go.Proofs.YtoegbjmoecbjdaaGreatDoor
open Go.RowKit Big
open Go.Lib
theorem num_lt9 {l : List UInt8} {q : Rat} (h : num l = some q) : QLt 5 q := by
  have hs := num_short h
  unfold short at hs
  have hb : ∀ n : Nat, nDigits n ≤ 40 → n < B9 ^ 5 := by
    intro n hn
    have h1 := dval_lt (decDigits n) (dec_all n).1
    rw [(dec_all n).2, decDigits_length] at h1
    rw [B9_pow]
    exact Nat.lt_of_lt_of_le h1 (Nat.pow_le_pow_right (by omega) (by omega))
  exact ⟨hb _ hs.1, hb _ hs.2⟩
theorem lt_of_ratv {K : Nat} {q : Rat} {s : Bool} {a b : Nat} (h : ratv s a b = q) (ha : a < B9 ^ K) (hb : b < B9 ^ K) (hb0 : 0 < b) : QLt K q := by
  rw [← h, ← ratv_drop]
  exact ratv_lt _ ha hb hb0 (by intro h; simp at h; omega)
theorem plus_num (a b : Rat) : ∃ (s : Bool) (n : Nat), ratv s n (a.den * b.den) = a + b ∧ n ≤ a.num.natAbs * b.den + b.num.natAbs * a.den := by
  have e1 : ratv (decide (a.num < 0)) (a.num.natAbs * b.den) (a.den * b.den) = a := by rw [ratv_scale a.den_pos b.den_pos, ratv_self]
  have e2 : ratv (decide (b.num < 0)) (b.num.natAbs * a.den) (a.den * b.den) = b := by rw [Nat.mul_comm a.den b.den, ratv_scale b.den_pos a.den_pos, ratv_self]
  by_cases h : decide (a.num < 0) = decide (b.num < 0)
  · rw [← h] at e2
    exact ⟨_, _, by rw [ratv_plus, e1, e2], Nat.le_refl _⟩
  · by_cases hle : b.num.natAbs * a.den ≤ a.num.natAbs * b.den
    · exact ⟨_, _, by rw [ratv_minus h hle, e1, e2], by omega⟩
    · exact ⟨_, _, by rw [ratv_minus (fun e => h e.symm) (Nat.le_of_lt (Nat.lt_of_not_le hle)), e1, e2, Rat.add_comm], by omega⟩
theorem QLt.add {K L : Nat} {a b : Rat} (ha : QLt K a) (hb : QLt L b) : QLt (K + L + 1) (a + b) := by
  obtain ⟨s, n, h1, h2⟩ := plus_num a b
  have h3 := pow9_mul ha.1 hb.2
  have h4 := pow9_mul hb.1 ha.2
  rw [Nat.add_comm L K] at h4
  have h5 : B9 ^ (K + L + 1) = B9 ^ (K + L) * 1000000000 := by rw [Nat.pow_succ, B9_eq]
  exact lt_of_ratv h1 (by omega) (pow9_mono (pow9_mul ha.2 hb.2) (by omega)) (Nat.mul_pos a.den_pos b.den_pos)
theorem QLt.sub {K L : Nat} {a b : Rat} (ha : QLt K a) (hb : QLt L b) : QLt (K + L + 1) (a - b) := by
  rw [Rat.sub_eq_add_neg]; exact ha.add hb.neg
end Go.Proofs.YtoegbjmoecbjdaaGreatDoor
