/- The document's plain: the walks. -/
import Derived.Test.YtoegbjmoecbjdaaGreatDoorRR
set_option maxHeartbeats 3200000
set_option maxRecDepth 100000
namespace Go.Proofs.YtoegbjmoecbjdaaGreatDoor
open Go.RowKit Big
open Go.Lib
theorem Resa.fin {B : Nat} {w0 W : World} {q : Rat} {sb : Bool} {p p2 : Option Addr} {n c n2 c2 : Nat} (h : Resa B w0 W) (hB : w0.heap.size ≤ B) (hs : sb = decide (q.num < 0))
    (h1 : Nat9 W (.slice p n c) q.num.natAbs) (h2 : Nat9 W (.slice p2 n2 c2) q.den ∨ (Nat9 W (.slice p2 n2 c2) 0 ∧ q.den = 1)) :
    QPost q w0 (.returned (.agg #[.bool sb, .slice p n c, .slice p2 n2 c2])) (((W.setCell ⟨B, 0, none⟩ (.bool sb)).setCell ⟨B, 1, none⟩ (.slice p n c)).setCell ⟨B, 2, none⟩ (.slice p2 n2 c2)) :=
  ⟨_, rfl, ⟨_, _, by rw [hs], h.nat3 hB h1 sb p p2 n c n2 c2, h2.imp (fun h2 => h.nat3 hB h2 sb p p2 n c n2 c2) fun h2 => ⟨h.nat3 hB h2.1 sb p p2 n c n2 c2, h2.2⟩⟩, (h.put3 hB sb p p2 n c n2 c2).below⟩
def FlagPost (q : Rat) (f : Bool) (w : World) (e : Ending) (w' : World) : Prop := ∃ b p n c p2 n2 c2, e = .returned (.tuple #[.agg #[.bool b, .slice p n c, .slice p2 n2 c2], .bool f]) ∧ Below w.heap.size w w' ∧ (f = true → QAt w' (.agg #[.bool b, .slice p n c, .slice p2 n2 c2]) q)
def iterAt (W : World) (g : Nat) (s : ByteArray) (pos : Nat) : World := { W with heap := W.heap.setIfInBounds g (.stringIter s pos) }
theorem next_at (W : World) (g : Nat) (s : ByteArray) (pos : Nat) (ty : TypeId) (hg : W.heap[g]? = some (.stringIter s pos)) (h : pos < s.size) (ha : (s[pos]'h).toNat < 128) :
    (Instr.next (.pointer (some ⟨g, 0, none⟩)) true ty).run Tryz.prog W = .ok (.tuple #[.bool true, .int .i64 pos, .int .i32 (s[pos]'h).toNat]) (iterAt W g s (pos + 1)) := by
  simp only [Instr.next, getObj, setObj, Sem.run_bind, Sem.run, hg, Result.andThen, h, if_true, decode_ascii s pos h ha]
  simp [goInt, iterAt]
theorem next_at_end (W : World) (g : Nat) (s : ByteArray) (pos : Nat) (ty : TypeId) (hg : W.heap[g]? = some (.stringIter s pos)) (h : ¬ pos < s.size) :
    (Instr.next (.pointer (some ⟨g, 0, none⟩)) true ty).run Tryz.prog W = .ok (.tuple #[.bool false]) W := by
  simp [Instr.next, getObj, Sem.run, hg, h]
theorem iterAt_below (W : World) (g : Nat) (s : ByteArray) (pos : Nat) {B : Nat} (hB : B ≤ g) : Below B W (iterAt W g s pos) :=
  ⟨rfl, rfl, rfl, by simp [iterAt], fun k hk => by simp only [iterAt]; rw [Array.getElem?_setIfInBounds_ne (by omega)]⟩
theorem iterAt_new (W : World) (g : Nat) (s : ByteArray) (pos : Nat) (h : g < W.heap.size) : (iterAt W g s pos).heap[g]? = some (.stringIter s pos) := by
  simp [iterAt, h]
structure DotAt (w wr : World) (g : Nat) (mo : ByteArray) (pos : Nat) (dv : Value) : Prop where
  nat : Nat9 wr dv (10 ^ pos)
  it : wr.heap[g]? = some (.stringIter mo pos)
  res : Resa w.heap.size w wr
  gt : w.heap.size < g
  le : pos ≤ mo.size
theorem Nat9.iter {W : World} {v : Value} {x g pos : Nat} {mo : ByteArray} (h : Nat9 W v x) (hg : W.heap[g]? = some (.stringIter mo pos)) (p2 : Nat) : Nat9 (iterAt W g mo p2) v x := by
  obtain ⟨p, n, c, l, rfl, h2, h3, h4⟩ := h
  refine ⟨p, n, c, l, rfl, h2, ⟨h3.len, ?_⟩, h4⟩
  by_cases hn : n = 0
  · exact .inl hn
  · obtain ⟨b, o, hp, hb, hc⟩ := h3.opened (by omega)
    refine .inr ⟨b, o, hp, by simpa [iterAt] using hb, fun j hj => ?_⟩
    have hne : b ≠ g := by
      rintro rfl
      have := hc 0 (by omega)
      simp [World.cell?, hg] at this
    rw [← hc j hj]
    refine World.cell?_of_block (w := W) ?_
    simp only [iterAt]; rw [Array.getElem?_setIfInBounds_ne (by omega)]
theorem DotAt.step {w wr w5 : World} {g pos : Nat} {mo : ByteArray} {dv d2 : Value} (h : DotAt w wr g mo pos dv) (hlt : pos < mo.size) (hb : Below (iterAt wr g mo (pos + 1)).heap.size (iterAt wr g mo (pos + 1)) w5) (h2 : Nat9 w5 d2 (10 ^ (pos + 1))) : DotAt w w5 g mo (pos + 1) d2 := by
  have hg := (Array.getElem?_eq_some_iff.1 h.it).1
  have hs : (iterAt wr g mo (pos + 1)).heap.size = wr.heap.size := by simp [iterAt]
  have hr : Resa w.heap.size w (iterAt wr g mo (pos + 1)) := by
    refine ⟨by rw [hs]; exact h.res.size, h.res.below.trans (iterAt_below _ _ _ _ (Nat.le_of_lt h.gt)), ?_⟩
    obtain ⟨z0, z1, z2, hz, hn⟩ := h.res.z
    refine ⟨z0, z1, z2, ?_, hn⟩
    rw [← hz]; simp only [iterAt]; rw [Array.getElem?_setIfInBounds_ne (by have := h.gt; omega)]
  refine ⟨h2, ?_, hr.next hb, h.gt, hlt⟩
  rw [hb.block g (by rw [hs]; exact hg)]
  exact iterAt_new _ _ _ _ hg
theorem pow10_lt (p : Nat) : 10 ^ p < B9 ^ (p + 1) := by
  rw [B9_pow]; exact Nat.pow_lt_pow_right (by omega) (by omega)
theorem plain_n0_A (s : ByteArray) (k : Nat) (q : Rat) (_sb : Bool) (_N0 _D0 : Nat) (w : World) (_hmax : (s.size : Int) ≤ 100000) (hz : s.size = 0) (hrun : ∀ W, Hid (Calls Tryz.prog 118 #[.string s, .int .i64 0] W fun e w' => e = .returned (.int .i64 (k : Int)) ∧ W = w')) (hk : k = 0) : Calls Tryz.prog 65 #[.string s] w (FlagPost q false w) := by
  subst hk
  have hres := hiD (Resa.start w)
  have hz0 : ((s.size : Int)) = 0 := by omega
  go_enter Tryz.func65, Tryz.ntmps65
  go_wp2_with fail
  refine (hrun _).out.mono ?_
  rintro e w1 ⟨rfl, rfl⟩
  go_wp2_with fail
  refine bodyPost_ret (v := .tuple #[.agg #[.bool false, .slice none 0 0, .slice none 0 0], .bool false]) ?h1 rfl ?h2
  case h1 => simp [results, Tryz.results65, go_sem]
  exact ⟨_, _, _, _, _, _, _, rfl, hres.out.below, fun h => by cases h⟩
theorem plain_n1_A (s : ByteArray) (k : Nat) (q : Rat) (_sb : Bool) (_N0 _D0 : Nat) (w : World) (_hmax : (s.size : Int) ≤ 100000) (hz : 0 < s.size) (hm : (((s[0]'hz).toNat : Int) == 45) = false) (hrun : ∀ W, Hid (Calls Tryz.prog 118 #[.string s, .int .i64 0] W fun e w' => e = .returned (.int .i64 (k : Int)) ∧ W = w')) (hk : k = 0) : Calls Tryz.prog 65 #[.string s] w (FlagPost q false w) := by
  subst hk
  have hres := hiD (Resa.start w)
  go_enter Tryz.func65, Tryz.ntmps65
  go_wp2_with fail
  refine (hrun _).out.mono ?_
  rintro e w1 ⟨rfl, rfl⟩
  go_wp2_with fail
  refine bodyPost_ret (v := .tuple #[.agg #[.bool false, .slice none 0 0, .slice none 0 0], .bool false]) ?h1 rfl ?h2
  case h1 => simp [results, Tryz.results65, go_sem]
  exact ⟨_, _, _, _, _, _, _, rfl, hres.out.below, fun h => by cases h⟩
theorem plain_n1_B (s : ByteArray) (k : Nat) (q : Rat) (sb : Bool) (N0 D0 : Nat) (w : World) (_hmax : (s.size : Int) ≤ 100000) (hz : 0 < s.size) (hm : (((s[0]'hz).toNat : Int) == 45) = false) (hrun : ∀ W, Hid (Calls Tryz.prog 118 #[.string s, .int .i64 0] W fun e w' => e = .returned (.int .i64 (k : Int)) ∧ W = w')) (hk0 : ((k : Int) == 0) = false) (hks : ((k : Int) == s.size) = true) (hrd : ∀ W, Hid (Calls Tryz.prog 119 #[.string s] W (Post9 N0 W))) (hone : ∀ W, Hid (Calls Tryz.prog 90 #[] W (Post9 D0 W))) (hqs : Hid (sb = decide (q.num < 0))) (hmk : ∀ W u v, Nat9 W u N0 → Nat9 W v D0 → Hid (Calls Tryz.prog 91 #[.bool false, u, v] W (QPostB q sb W))) : Calls Tryz.prog 65 #[.string s] w (FlagPost q true w) := by
  have hres := hiD (Resa.start w)
  go_enter Tryz.func65, Tryz.ntmps65
  go_wp2_with fail
  refine (hrun _).out.mono ?_
  rintro e w1 ⟨rfl, rfl⟩
  go_wp2_with fail
  refine (hrd _).out.mono ?_
  rintro e w2 ⟨v2, rfl, hv2, hb2, -⟩
  obtain ⟨p2, n2, c2, rfl⟩ := hv2.slice
  have hr2 := hiD (hres.out.next hb2)
  have Hv2 := hiD hv2
  clear hv2 hb2
  go_wp2_with fail
  refine (hone _).out.mono ?_
  rintro e w3 ⟨v3, rfl, hv3, hb3, -⟩
  obtain ⟨p3, n3, c3, rfl⟩ := hv3.slice
  have HR := hiD (hr2.out.next hb3)
  have hm3 := hmk w3 _ _ (Hv2.out.below hb3) hv3
  clear hv3 hb3 hr2
  go_wp2_with fail
  refine hm3.out.mono ?_
  rintro e wM ⟨pr, nr, cr, pq, nq, cq, rfl, hr1, hr2, hbM⟩
  have hrz := hiD (HR.out.next hbM)
  have Hr1 := hiD hr1
  have Hr2 := hiD hr2
  obtain ⟨z0, z1, z2, l0, l1, l2, f0, f1, f2⟩ := hrz.out.slots
  clear hr1 hr2 hbM
  go_wp2_with fail
  have hfin := hiD (hrz.out.fin (Nat.le_refl _) hqs.out Hr1.out Hr2.out)
  refine bodyPost_ret (v := .tuple #[.agg #[.bool sb, .slice pr nr cr, .slice pq nq cq], .bool true]) ?h1 rfl ?h2
  case h1 => simp [results, Tryz.results65, go_sem, l0, l1, l2] <;> omega
  obtain ⟨x, hx, hq, hb⟩ := hfin.out
  cases hx
  exact ⟨_, _, _, _, _, _, _, rfl, hb, fun _ => hq⟩
theorem plain_n1_C1 (s : ByteArray) (k : Nat) (q : Rat) (_sb : Bool) (_N0 _D0 : Nat) (w : World) (hmax : (s.size : Int) ≤ 100000) (hz : 0 < s.size) (hm : (((s[0]'hz).toNat : Int) == 45) = false) (hrun : ∀ W, Hid (Calls Tryz.prog 118 #[.string s, .int .i64 0] W fun e w' => e = .returned (.int .i64 (k : Int)) ∧ W = w')) (hk0 : ((k : Int) == 0) = false) (hks : ((k : Int) == s.size) = false) (hkl : k < s.size) (ck : Nat) (hck : ((s[k]'hkl).toNat : Int) = (ck : Int)) (mo hd : ByteArray) (hmo : s.extract (k + 1) s.size = mo) (_hhd : s.extract 0 k = hd) (cm : Nat) (hrun2 : ∀ W, Hid (Calls Tryz.prog 118 #[.string mo, .int .i64 0] W fun e w' => e = .returned (.int .i64 (cm : Int)) ∧ W = w')) (hb : ((cm : Int) != mo.size) = true) : Calls Tryz.prog 65 #[.string s] w (FlagPost q false w) := by
  have hres := hiD (Resa.start w)
  go_enter Tryz.func65, Tryz.ntmps65
  go_wp2_with fail
  refine (hrun _).out.mono ?_
  rintro e w1 ⟨rfl, rfl⟩
  have hkl2 : (k : Int) < s.size := by omega
  go_wp2_with fail
  go_quiet (fail)
  have hrq := hiD (hres.out.next (below_drewN _ _ nq))
  go_wp2_with fail
  refine (hrun2 _).out.mono ?_
  rintro e w1 ⟨rfl, rfl⟩
  obtain ⟨z0, z1, z2, l0, l1, l2, f0, f1, f2⟩ := hrq.out.slots
  have q3 := hiD (hrq.out.put3 (Nat.le_refl _) false none none 0 0 0 0).below
  go_wp2_with fail
  refine bodyPost_ret (v := .tuple #[.agg #[.bool false, .slice none 0 0, .slice none 0 0], .bool false]) ?h1 rfl ?h2
  case h1 => simp [results, Tryz.results65, go_sem, l0, l1, l2] <;> omega
  exact ⟨_, _, _, _, _, _, _, rfl, q3.out, fun h => by cases h⟩
theorem plain_n1_C1b (s : ByteArray) (k : Nat) (q : Rat) (_sb : Bool) (_N0 _D0 : Nat) (w : World) (hmax : (s.size : Int) ≤ 100000) (hz : 0 < s.size) (hm : (((s[0]'hz).toNat : Int) == 45) = false) (hrun : ∀ W, Hid (Calls Tryz.prog 118 #[.string s, .int .i64 0] W fun e w' => e = .returned (.int .i64 (k : Int)) ∧ W = w')) (hk0 : ((k : Int) == 0) = false) (hks : ((k : Int) == s.size) = false) (hkl : k < s.size) (ck : Nat) (hck : ((s[k]'hkl).toNat : Int) = (ck : Int)) (mo hd : ByteArray) (hmo : s.extract (k + 1) s.size = mo) (_hhd : s.extract 0 k = hd) (cm : Nat) (hrun2 : ∀ W, Hid (Calls Tryz.prog 118 #[.string mo, .int .i64 0] W fun e w' => e = .returned (.int .i64 (cm : Int)) ∧ W = w')) (hb : ((cm : Int) != 0) = false) (he : mo = ⟨#[]⟩) : Calls Tryz.prog 65 #[.string s] w (FlagPost q false w) := by
  subst he
  have hres := hiD (Resa.start w)
  go_enter Tryz.func65, Tryz.ntmps65
  go_wp2_with fail
  refine (hrun _).out.mono ?_
  rintro e w1 ⟨rfl, rfl⟩
  have hkl2 : (k : Int) < s.size := by omega
  go_wp2_with fail
  go_quiet (fail)
  have hrq := hiD (hres.out.next (below_drewN _ _ nq))
  go_wp2_with fail
  refine (hrun2 _).out.mono ?_
  rintro e w1 ⟨rfl, rfl⟩
  obtain ⟨z0, z1, z2, l0, l1, l2, f0, f1, f2⟩ := hrq.out.slots
  have q3 := hiD (hrq.out.put3 (Nat.le_refl _) false none none 0 0 0 0).below
  go_wp2_with fail
  refine bodyPost_ret (v := .tuple #[.agg #[.bool false, .slice none 0 0, .slice none 0 0], .bool false]) ?h1 rfl ?h2
  case h1 => simp [results, Tryz.results65, go_sem, l0, l1, l2] <;> omega
  exact ⟨_, _, _, _, _, _, _, rfl, q3.out, fun h => by cases h⟩
theorem plain_n1_C1c (s : ByteArray) (k : Nat) (q : Rat) (_sb : Bool) (_N0 _D0 : Nat) (w : World) (hmax : (s.size : Int) ≤ 100000) (hz : 0 < s.size) (hm : (((s[0]'hz).toNat : Int) == 45) = false) (hrun : ∀ W, Hid (Calls Tryz.prog 118 #[.string s, .int .i64 0] W fun e w' => e = .returned (.int .i64 (k : Int)) ∧ W = w')) (hk0 : ((k : Int) == 0) = false) (hks : ((k : Int) == s.size) = false) (hkl : k < s.size) (ck : Nat) (hck : ((s[k]'hkl).toNat : Int) = (ck : Int)) (mo hd : ByteArray) (hmo : s.extract (k + 1) s.size = mo) (_hhd : s.extract 0 k = hd) (cm : Nat) (hrun2 : ∀ W, Hid (Calls Tryz.prog 118 #[.string mo, .int .i64 0] W fun e w' => e = .returned (.int .i64 (cm : Int)) ∧ W = w')) (hb : ((cm : Int) != mo.size) = false) (he : (mo.toList == []) = false) (_he2 : ¬ mo.toList = []) (_he3 : mo.toList.isEmpty = false) (h46 : ((ck : Int) != 46) = true) (h47 : ((ck : Int) != 47) = true) : Calls Tryz.prog 65 #[.string s] w (FlagPost q false w) := by
  have hres := hiD (Resa.start w)
  go_enter Tryz.func65, Tryz.ntmps65
  go_wp2_with fail
  refine (hrun _).out.mono ?_
  rintro e w1 ⟨rfl, rfl⟩
  have hkl2 : (k : Int) < s.size := by omega
  go_wp2_with fail
  go_quiet (fail)
  have hrq := hiD (hres.out.next (below_drewN _ _ nq))
  go_wp2_with fail
  refine (hrun2 _).out.mono ?_
  rintro e w1 ⟨rfl, rfl⟩
  obtain ⟨z0, z1, z2, l0, l1, l2, f0, f1, f2⟩ := hrq.out.slots
  have q3 := hiD (hrq.out.put3 (Nat.le_refl _) false none none 0 0 0 0).below
  go_wp2_with fail
  refine bodyPost_ret (v := .tuple #[.agg #[.bool false, .slice none 0 0, .slice none 0 0], .bool false]) ?h1 rfl ?h2
  case h1 => simp [results, Tryz.results65, go_sem, l0, l1, l2] <;> omega
  exact ⟨_, _, _, _, _, _, _, rfl, q3.out, fun h => by cases h⟩
theorem plain_n1_C2y (s : ByteArray) (k : Nat) (q : Rat) (sb : Bool) (N0 D0 : Nat) (w : World) (hmax : (s.size : Int) ≤ 100000) (hz : 0 < s.size) (hm : (((s[0]'hz).toNat : Int) == 45) = false) (hrun : ∀ W, Hid (Calls Tryz.prog 118 #[.string s, .int .i64 0] W fun e w' => e = .returned (.int .i64 (k : Int)) ∧ W = w')) (hk0 : ((k : Int) == 0) = false) (hks : ((k : Int) == s.size) = false) (hkl : k < s.size) (ck : Nat) (hck : ((s[k]'hkl).toNat : Int) = (ck : Int)) (mo hd : ByteArray) (hmo : s.extract (k + 1) s.size = mo) (hhd : s.extract 0 k = hd) (cm : Nat) (hrun2 : ∀ W, Hid (Calls Tryz.prog 118 #[.string mo, .int .i64 0] W fun e w' => e = .returned (.int .i64 (cm : Int)) ∧ W = w')) (hb : ((cm : Int) != mo.size) = false) (he : (mo.toList == []) = false) (_he2 : ¬ mo.toList = []) (_he3 : mo.toList.isEmpty = false) (h47 : ck = 47) (hD0 : D0 ≠ 0) (hrd1 : ∀ W, Hid (Calls Tryz.prog 119 #[.string mo] W (Post9 D0 W))) (hrd2 : ∀ W, Hid (Calls Tryz.prog 119 #[.string hd] W (Post9 N0 W))) (hqs : Hid (sb = decide (q.num < 0))) (hmk : ∀ W u v, Nat9 W u N0 → Nat9 W v D0 → Hid (Calls Tryz.prog 91 #[.bool false, u, v] W (QPostB q sb W))) : Calls Tryz.prog 65 #[.string s] w (FlagPost q true w) := by
  subst h47
  have hres := hiD (Resa.start w)
  go_enter Tryz.func65, Tryz.ntmps65
  go_wp2_with fail
  refine (hrun _).out.mono ?_
  rintro e w1 ⟨rfl, rfl⟩
  have hkl2 : (k : Int) < s.size := by omega
  go_wp2_with fail
  go_quiet (fail)
  have hrq := hiD (hres.out.next (below_drewN _ _ nq))
  go_wp2_with fail
  refine (hrun2 _).out.mono ?_
  rintro e w1 ⟨rfl, rfl⟩
  go_wp2_with fail
  refine (hrd1 _).out.mono ?_
  rintro e w2 ⟨v2, rfl, hv2, hb2, -⟩
  obtain ⟨p2, n2, c2, rfl⟩ := hv2.slice
  have hr2 := hiD (hrq.out.next hb2)
  have Hv2 := hiD hv2
  have hn3 : 0 < n2 := by have h := hv2.zero_iff (n := n2); omega
  have hn2 : (0 : Int) < n2 := by omega
  clear hv2 hb2
  go_wp2_with fail
  refine (hrd2 _).out.mono ?_
  rintro e w3 ⟨v3, rfl, hv3, hb3, -⟩
  obtain ⟨p3, n3, c3, rfl⟩ := hv3.slice
  have HR := hiD (hr2.out.next hb3)
  have hm3 := hmk w3 _ _ hv3 (Hv2.out.below hb3)
  clear hv3 hb3 hr2
  go_wp2_with fail
  refine hm3.out.mono ?_
  rintro e wM ⟨pr, nr, cr, pq, nq, cq, rfl, hr1, hr2, hbM⟩
  have hrz := hiD (HR.out.next hbM)
  have Hr1 := hiD hr1
  have Hr2 := hiD hr2
  obtain ⟨z0, z1, z2, l0, l1, l2, f0, f1, f2⟩ := hrz.out.slots
  clear hr1 hr2 hbM
  go_wp2_with fail
  have hfin := hiD (hrz.out.fin (Nat.le_refl _) hqs.out Hr1.out Hr2.out)
  refine bodyPost_ret (v := .tuple #[.agg #[.bool sb, .slice pr nr cr, .slice pq nq cq], .bool true]) ?h1 rfl ?h2
  case h1 => simp [results, Tryz.results65, go_sem, l0, l1, l2] <;> omega
  obtain ⟨x, hx, hq, hb⟩ := hfin.out
  cases hx
  exact ⟨_, _, _, _, _, _, _, rfl, hb, fun _ => hq⟩
theorem plain_n1_C2n (s : ByteArray) (k : Nat) (q : Rat) (sb : Bool) (N0 D0 : Nat) (w : World) (hmax : (s.size : Int) ≤ 100000) (hz : 0 < s.size) (hm : (((s[0]'hz).toNat : Int) == 45) = false) (hrun : ∀ W, Hid (Calls Tryz.prog 118 #[.string s, .int .i64 0] W fun e w' => e = .returned (.int .i64 (k : Int)) ∧ W = w')) (hk0 : ((k : Int) == 0) = false) (hks : ((k : Int) == s.size) = false) (hkl : k < s.size) (ck : Nat) (hck : ((s[k]'hkl).toNat : Int) = (ck : Int)) (mo hd : ByteArray) (hmo : s.extract (k + 1) s.size = mo) (hhd : s.extract 0 k = hd) (cm : Nat) (hrun2 : ∀ W, Hid (Calls Tryz.prog 118 #[.string mo, .int .i64 0] W fun e w' => e = .returned (.int .i64 (cm : Int)) ∧ W = w')) (hb : ((cm : Int) != mo.size) = false) (he : (mo.toList == []) = false) (_he2 : ¬ mo.toList = []) (_he3 : mo.toList.isEmpty = false) (h47 : ck = 47) (hD0 : D0 = 0) (hrd1 : ∀ W, Hid (Calls Tryz.prog 119 #[.string mo] W (Post9 D0 W))) (hrd2 : ∀ W, Hid (Calls Tryz.prog 119 #[.string hd] W (Post9 N0 W))) (hqs : Hid (sb = decide (q.num < 0))) (hmk : ∀ W u v, Nat9 W u N0 → Nat9 W v D0 → Hid (Calls Tryz.prog 91 #[.bool false, u, v] W (QPostB q sb W))) : Calls Tryz.prog 65 #[.string s] w (FlagPost q false w) := by
  subst h47
  have hres := hiD (Resa.start w)
  go_enter Tryz.func65, Tryz.ntmps65
  go_wp2_with fail
  refine (hrun _).out.mono ?_
  rintro e w1 ⟨rfl, rfl⟩
  have hkl2 : (k : Int) < s.size := by omega
  go_wp2_with fail
  go_quiet (fail)
  have hrq := hiD (hres.out.next (below_drewN _ _ nq))
  go_wp2_with fail
  refine (hrun2 _).out.mono ?_
  rintro e w1 ⟨rfl, rfl⟩
  go_wp2_with fail
  refine (hrd1 _).out.mono ?_
  rintro e w2 ⟨v2, rfl, hv2, hb2, -⟩
  obtain ⟨p2, n2, c2, rfl⟩ := hv2.slice
  have hr2 := hiD (hrq.out.next hb2)
  have Hv2 := hiD hv2
  have hn3 : n2 = 0 := by have h := hv2.zero_iff (n := n2); omega
  subst hn3
  clear hv2 hb2
  go_wp2_with fail
  refine (hrd2 _).out.mono ?_
  rintro e w3 ⟨v3, rfl, hv3, hb3, -⟩
  obtain ⟨p3, n3, c3, rfl⟩ := hv3.slice
  have HR := hiD (hr2.out.next hb3)
  have hm3 := hmk w3 _ _ hv3 (Hv2.out.below hb3)
  clear hv3 hb3 hr2
  go_wp2_with fail
  refine hm3.out.mono ?_
  rintro e wM ⟨pr, nr, cr, pq, nq, cq, rfl, hr1, hr2, hbM⟩
  have hrz := hiD (HR.out.next hbM)
  have Hr1 := hiD hr1
  have Hr2 := hiD hr2
  obtain ⟨z0, z1, z2, l0, l1, l2, f0, f1, f2⟩ := hrz.out.slots
  clear hr1 hr2 hbM
  go_wp2_with fail
  have hfin := hiD (hrz.out.fin (Nat.le_refl _) hqs.out Hr1.out Hr2.out)
  refine bodyPost_ret (v := .tuple #[.agg #[.bool sb, .slice pr nr cr, .slice pq nq cq], .bool false]) ?h1 rfl ?h2
  case h1 => simp [results, Tryz.results65, go_sem, l0, l1, l2] <;> omega
  obtain ⟨x, hx, hq, hb⟩ := hfin.out
  cases hx
  exact ⟨_, _, _, _, _, _, _, rfl, hb, fun _ => hq⟩
theorem plain_n1_C3 (s : ByteArray) (k : Nat) (q : Rat) (sb : Bool) (N0 D0 : Nat) (w : World) (hmax : (s.size : Int) ≤ 100000) (hz : 0 < s.size) (hm : (((s[0]'hz).toNat : Int) == 45) = false) (hrun : ∀ W, Hid (Calls Tryz.prog 118 #[.string s, .int .i64 0] W fun e w' => e = .returned (.int .i64 (k : Int)) ∧ W = w')) (hk0 : ((k : Int) == 0) = false) (hks : ((k : Int) == s.size) = false) (hkl : k < s.size) (ck : Nat) (hck : ((s[k]'hkl).toNat : Int) = (ck : Int)) (mo hd : ByteArray) (hmo : s.extract (k + 1) s.size = mo) (hhd : s.extract 0 k = hd) (cm : Nat) (hrun2 : ∀ W, Hid (Calls Tryz.prog 118 #[.string mo, .int .i64 0] W fun e w' => e = .returned (.int .i64 (cm : Int)) ∧ W = w')) (hb : ((cm : Int) != mo.size) = false) (he : (mo.toList == []) = false) (_he2 : ¬ mo.toList = []) (_he3 : mo.toList.isEmpty = false) (h46 : ck = 46) (hall : Hid (mo.data.toList.all isDig = true)) (hsz : (mo.size : Int) ≤ 100000) (hszh : (hd.size : Int) ≤ 100000) (hD0 : Hid (D0 = 10 ^ mo.size)) (hrd2 : ∀ W, Hid (Calls Tryz.prog 119 #[.string (hd ++ mo)] W (Post9 N0 W))) (hqs : Hid (sb = decide (q.num < 0))) (hmk : ∀ W u v, Nat9 W u N0 → Nat9 W v D0 → Hid (Calls Tryz.prog 91 #[.bool false, u, v] W (QPostB q sb W))) : Calls Tryz.prog 65 #[.string s] w (FlagPost q true w) := by
  subst h46
  have hone : ∀ W, Hid (Calls Tryz.prog 90 #[] W (Post9 1 W)) := fun W => hiD (one_any W)
  have hten : ∀ W, Hid (Calls Tryz.prog 70 #[.int .u64 10] W (Post9 10 W)) := fun W => hiD (natOf_any 10 W (by omega))
  have hres := hiD (Resa.start w)
  go_enter Tryz.func65, Tryz.ntmps65
  go_wp2_with fail
  refine (hrun _).out.mono ?_
  rintro e w1 ⟨rfl, rfl⟩
  have hkl2 : (k : Int) < s.size := by omega
  go_wp2_with fail
  go_quiet (fail)
  have hrq := hiD (hres.out.next (below_drewN _ _ nq))
  go_wp2_with fail
  refine (hrun2 _).out.mono ?_
  rintro e w1 ⟨rfl, rfl⟩
  go_wp2_with fail
  refine (hone _).out.mono ?_
  rintro e w2 ⟨v2, rfl, hv2, hb2, -⟩
  obtain ⟨p2, n2, c2, rfl⟩ := hv2.slice
  have hr2 := hrq.out.next hb2
  have hst : Hid (DotAt w (w2.iter mo 0) w2.heap.size mo 0 (.slice p2 n2 c2)) := hiD ⟨by rw [Nat.pow_zero]; exact hv2.below (below_alloc9 _ _), World.iter_heap _ _ _, hr2.next (below_alloc9 _ _), by have := hr2.size; omega, Nat.zero_le _⟩
  clear hv2 hb2 hr2
  go_wp2_with fail
  go_loopw [9] (fun dv w3 => ∃ (pos : Nat) (pd : Option Addr) (nd cd : Nat), dv = .slice pd nd cd ∧ Hid (DotAt w w3 w2.heap.size mo pos dv)) (fun _ w3 => mo.size - w3.iterPos w2.heap.size)
  case atStart => exact ⟨0, _, _, _, rfl, hst⟩
  case round =>
    obtain ⟨pos, pd, nd, cd, rfl, hat⟩ := hrel
    by_cases hp : pos < mo.size
    · have hasc : (mo[pos]'hp).toNat < 128 := by
        have h1 : isDig (mo[pos]'hp) = true := List.all_eq_true.1 hall.out _ (List.getElem_mem (by simpa using hp) : mo.data.toList[pos]'(by simpa using hp) ∈ _)
        simp [isDig] at h1; omega
      have hnx : ∀ ty, (Instr.next (.pointer (some ⟨w2.heap.size, 0, none⟩)) true ty).run Tryz.prog wr = _ := fun ty => next_at wr w2.heap.size mo pos ty hat.out.it hp hasc
      have hd1 := hiD (hat.out.nat.iter hat.out.it (pos + 1))
      have hps : Hid (pos ≤ 100000) := hiD (by omega)
      clear hasc
      go_wp2_with fail
      refine (hten _).out.mono ?_
      rintro e w5 ⟨v5, rfl, hv5, hb5, -⟩
      obtain ⟨p5, n5, c5, rfl⟩ := hv5.slice
      have hm5 : Hid (Calls Tryz.prog 92 #[.slice pd nd cd, .slice p5 n5 c5] w5 (Post9 (10 ^ pos * 10) w5)) := hiD (natMul_nat _ _ _ _ (pos + 1) 1 w5 (by have := hps.out; unfold most; omega) (by unfold most; omega) (pow10_lt pos) (by rw [Nat.pow_one, B9_eq]; omega) (hd1.out.below hb5) hv5)
      have Hb5 := hiD hb5
      clear hv5 hb5
      go_wp2_with fail
      refine hm5.out.mono ?_
      rintro e w6 ⟨v6, rfl, hv6, hb6, -⟩
      obtain ⟨p6, n6, c6, rfl⟩ := hv6.slice
      have hnext : Hid (DotAt w w6 w2.heap.size mo (pos + 1) (.slice p6 n6 c6)) := hiD (hat.out.step hp (Hb5.out.trans (hb6.mono Hb5.out.size)) (by rw [Nat.pow_succ]; exact hv6))
      have hmeas : Hid (mo.size - w6.iterPos w2.heap.size < mo.size - wr.iterPos w2.heap.size) := hiD (by
        have h1 := hnext.out.it
        have h2 := hat.out.it
        simp only [World.iterPos, h1, h2]; omega)
      clear hv6 hb6
      go_wp2_with fail
      go_roundw
      case rel => exact ⟨pos + 1, _, _, _, rfl, hnext⟩
      case measure => exact hmeas.out
    · have hpe : pos = mo.size := by have := hat.out.le; omega
      have hnx : ∀ ty, (Instr.next (.pointer (some ⟨w2.heap.size, 0, none⟩)) true ty).run Tryz.prog wr = _ := fun ty => next_at_end wr w2.heap.size mo pos ty hat.out.it hp
      have hdn : Hid (Nat9 wr (.slice pd nd cd) D0) := hiD (by rw [hD0.out, ← hpe]; exact hat.out.nat)
      clear hpe
      go_wp2_with fail
      refine (hrd2 _).out.mono ?_
      rintro e w7 ⟨v7, rfl, hv7, hb7, -⟩
      obtain ⟨p7, n7, c7, rfl⟩ := hv7.slice
      have HR := hiD (hat.out.res.next hb7)
      have hm3 := hmk w7 _ _ hv7 (hdn.out.below hb7)
      clear hv7 hb7
      go_wp2_with fail
      refine hm3.out.mono ?_
      rintro e wM ⟨pr, nr, cr, pq, nq, cq, rfl, hr1, hr2, hbM⟩
      have hrz := hiD (HR.out.next hbM)
      have Hr1 := hiD hr1
      have Hr2 := hiD hr2
      obtain ⟨z0, z1, z2, l0, l1, l2, f0, f1, f2⟩ := hrz.out.slots
      clear hr1 hr2 hbM
      go_wp2_with fail
      have hfin := hiD (hrz.out.fin (Nat.le_refl _) hqs.out Hr1.out Hr2.out)
      refine bodyPost_ret (v := .tuple #[.agg #[.bool sb, .slice pr nr cr, .slice pq nq cq], .bool true]) ?h1 rfl ?h2
      case h1 => simp [results, Tryz.results65, go_sem, l0, l1, l2] <;> omega
      obtain ⟨x, hx, hq, hb⟩ := hfin.out
      cases hx
      exact ⟨_, _, _, _, _, _, _, rfl, hb, fun _ => hq⟩
theorem plain_ng_A (s : ByteArray) (k : Nat) (q : Rat) (_sb : Bool) (_N0 _D0 : Nat) (w : World) (hmax : (s.size : Int) ≤ 100000) (hz : 0 < s.size) (hm : (((s[0]'hz).toNat : Int) == 45) = true) (s1 : ByteArray) (hs1 : s.extract 1 s.size = s1) (_hmax1 : (s1.size : Int) ≤ 100000) (hrun : ∀ W, Hid (Calls Tryz.prog 118 #[.string s1, .int .i64 0] W fun e w' => e = .returned (.int .i64 (k : Int)) ∧ W = w')) (hk : k = 0) : Calls Tryz.prog 65 #[.string s] w (FlagPost q false w) := by
  subst hk
  have hres := hiD (Resa.start w)
  go_enter Tryz.func65, Tryz.ntmps65
  go_wp2_with fail
  refine (hrun _).out.mono ?_
  rintro e w1 ⟨rfl, rfl⟩
  go_wp2_with fail
  refine bodyPost_ret (v := .tuple #[.agg #[.bool false, .slice none 0 0, .slice none 0 0], .bool false]) ?h1 rfl ?h2
  case h1 => simp [results, Tryz.results65, go_sem]
  exact ⟨_, _, _, _, _, _, _, rfl, hres.out.below, fun h => by cases h⟩
theorem plain_ng_B (s : ByteArray) (k : Nat) (q : Rat) (sb : Bool) (N0 D0 : Nat) (w : World) (hmax : (s.size : Int) ≤ 100000) (hz : 0 < s.size) (hm : (((s[0]'hz).toNat : Int) == 45) = true) (s1 : ByteArray) (hs1 : s.extract 1 s.size = s1) (_hmax1 : (s1.size : Int) ≤ 100000) (hrun : ∀ W, Hid (Calls Tryz.prog 118 #[.string s1, .int .i64 0] W fun e w' => e = .returned (.int .i64 (k : Int)) ∧ W = w')) (hk0 : ((k : Int) == 0) = false) (hks : ((k : Int) == s1.size) = true) (hrd : ∀ W, Hid (Calls Tryz.prog 119 #[.string s1] W (Post9 N0 W))) (hone : ∀ W, Hid (Calls Tryz.prog 90 #[] W (Post9 D0 W))) (hqs : Hid (sb = decide (q.num < 0))) (hmk : ∀ W u v, Nat9 W u N0 → Nat9 W v D0 → Hid (Calls Tryz.prog 91 #[.bool true, u, v] W (QPostB q sb W))) : Calls Tryz.prog 65 #[.string s] w (FlagPost q true w) := by
  have hres := hiD (Resa.start w)
  go_enter Tryz.func65, Tryz.ntmps65
  go_wp2_with fail
  refine (hrun _).out.mono ?_
  rintro e w1 ⟨rfl, rfl⟩
  go_wp2_with fail
  refine (hrd _).out.mono ?_
  rintro e w2 ⟨v2, rfl, hv2, hb2, -⟩
  obtain ⟨p2, n2, c2, rfl⟩ := hv2.slice
  have hr2 := hiD (hres.out.next hb2)
  have Hv2 := hiD hv2
  clear hv2 hb2
  go_wp2_with fail
  refine (hone _).out.mono ?_
  rintro e w3 ⟨v3, rfl, hv3, hb3, -⟩
  obtain ⟨p3, n3, c3, rfl⟩ := hv3.slice
  have HR := hiD (hr2.out.next hb3)
  have hm3 := hmk w3 _ _ (Hv2.out.below hb3) hv3
  clear hv3 hb3 hr2
  go_wp2_with fail
  refine hm3.out.mono ?_
  rintro e wM ⟨pr, nr, cr, pq, nq, cq, rfl, hr1, hr2, hbM⟩
  have hrz := hiD (HR.out.next hbM)
  have Hr1 := hiD hr1
  have Hr2 := hiD hr2
  obtain ⟨z0, z1, z2, l0, l1, l2, f0, f1, f2⟩ := hrz.out.slots
  clear hr1 hr2 hbM
  go_wp2_with fail
  have hfin := hiD (hrz.out.fin (Nat.le_refl _) hqs.out Hr1.out Hr2.out)
  refine bodyPost_ret (v := .tuple #[.agg #[.bool sb, .slice pr nr cr, .slice pq nq cq], .bool true]) ?h1 rfl ?h2
  case h1 => simp [results, Tryz.results65, go_sem, l0, l1, l2] <;> omega
  obtain ⟨x, hx, hq, hb⟩ := hfin.out
  cases hx
  exact ⟨_, _, _, _, _, _, _, rfl, hb, fun _ => hq⟩
theorem plain_ng_C1 (s : ByteArray) (k : Nat) (q : Rat) (_sb : Bool) (_N0 _D0 : Nat) (w : World) (hmax : (s.size : Int) ≤ 100000) (hz : 0 < s.size) (hm : (((s[0]'hz).toNat : Int) == 45) = true) (s1 : ByteArray) (hs1 : s.extract 1 s.size = s1) (hmax1 : (s1.size : Int) ≤ 100000) (hrun : ∀ W, Hid (Calls Tryz.prog 118 #[.string s1, .int .i64 0] W fun e w' => e = .returned (.int .i64 (k : Int)) ∧ W = w')) (hk0 : ((k : Int) == 0) = false) (hks : ((k : Int) == s1.size) = false) (hkl : k < s1.size) (ck : Nat) (hck : ((s1[k]'hkl).toNat : Int) = (ck : Int)) (mo hd : ByteArray) (hmo : s1.extract (k + 1) s1.size = mo) (_hhd : s1.extract 0 k = hd) (cm : Nat) (hrun2 : ∀ W, Hid (Calls Tryz.prog 118 #[.string mo, .int .i64 0] W fun e w' => e = .returned (.int .i64 (cm : Int)) ∧ W = w')) (hb : ((cm : Int) != mo.size) = true) : Calls Tryz.prog 65 #[.string s] w (FlagPost q false w) := by
  have hres := hiD (Resa.start w)
  go_enter Tryz.func65, Tryz.ntmps65
  go_wp2_with fail
  refine (hrun _).out.mono ?_
  rintro e w1 ⟨rfl, rfl⟩
  have hkl2 : (k : Int) < s1.size := by omega
  go_wp2_with fail
  go_quiet (fail)
  have hrq := hiD (hres.out.next (below_drewN _ _ nq))
  go_wp2_with fail
  refine (hrun2 _).out.mono ?_
  rintro e w1 ⟨rfl, rfl⟩
  obtain ⟨z0, z1, z2, l0, l1, l2, f0, f1, f2⟩ := hrq.out.slots
  have q3 := hiD (hrq.out.put3 (Nat.le_refl _) false none none 0 0 0 0).below
  go_wp2_with fail
  refine bodyPost_ret (v := .tuple #[.agg #[.bool false, .slice none 0 0, .slice none 0 0], .bool false]) ?h1 rfl ?h2
  case h1 => simp [results, Tryz.results65, go_sem, l0, l1, l2] <;> omega
  exact ⟨_, _, _, _, _, _, _, rfl, q3.out, fun h => by cases h⟩
theorem plain_ng_C1b (s : ByteArray) (k : Nat) (q : Rat) (_sb : Bool) (_N0 _D0 : Nat) (w : World) (hmax : (s.size : Int) ≤ 100000) (hz : 0 < s.size) (hm : (((s[0]'hz).toNat : Int) == 45) = true) (s1 : ByteArray) (hs1 : s.extract 1 s.size = s1) (hmax1 : (s1.size : Int) ≤ 100000) (hrun : ∀ W, Hid (Calls Tryz.prog 118 #[.string s1, .int .i64 0] W fun e w' => e = .returned (.int .i64 (k : Int)) ∧ W = w')) (hk0 : ((k : Int) == 0) = false) (hks : ((k : Int) == s1.size) = false) (hkl : k < s1.size) (ck : Nat) (hck : ((s1[k]'hkl).toNat : Int) = (ck : Int)) (mo hd : ByteArray) (hmo : s1.extract (k + 1) s1.size = mo) (_hhd : s1.extract 0 k = hd) (cm : Nat) (hrun2 : ∀ W, Hid (Calls Tryz.prog 118 #[.string mo, .int .i64 0] W fun e w' => e = .returned (.int .i64 (cm : Int)) ∧ W = w')) (hb : ((cm : Int) != 0) = false) (he : mo = ⟨#[]⟩) : Calls Tryz.prog 65 #[.string s] w (FlagPost q false w) := by
  subst he
  have hres := hiD (Resa.start w)
  go_enter Tryz.func65, Tryz.ntmps65
  go_wp2_with fail
  refine (hrun _).out.mono ?_
  rintro e w1 ⟨rfl, rfl⟩
  have hkl2 : (k : Int) < s1.size := by omega
  go_wp2_with fail
  go_quiet (fail)
  have hrq := hiD (hres.out.next (below_drewN _ _ nq))
  go_wp2_with fail
  refine (hrun2 _).out.mono ?_
  rintro e w1 ⟨rfl, rfl⟩
  obtain ⟨z0, z1, z2, l0, l1, l2, f0, f1, f2⟩ := hrq.out.slots
  have q3 := hiD (hrq.out.put3 (Nat.le_refl _) false none none 0 0 0 0).below
  go_wp2_with fail
  refine bodyPost_ret (v := .tuple #[.agg #[.bool false, .slice none 0 0, .slice none 0 0], .bool false]) ?h1 rfl ?h2
  case h1 => simp [results, Tryz.results65, go_sem, l0, l1, l2] <;> omega
  exact ⟨_, _, _, _, _, _, _, rfl, q3.out, fun h => by cases h⟩
theorem plain_ng_C1c (s : ByteArray) (k : Nat) (q : Rat) (_sb : Bool) (_N0 _D0 : Nat) (w : World) (hmax : (s.size : Int) ≤ 100000) (hz : 0 < s.size) (hm : (((s[0]'hz).toNat : Int) == 45) = true) (s1 : ByteArray) (hs1 : s.extract 1 s.size = s1) (hmax1 : (s1.size : Int) ≤ 100000) (hrun : ∀ W, Hid (Calls Tryz.prog 118 #[.string s1, .int .i64 0] W fun e w' => e = .returned (.int .i64 (k : Int)) ∧ W = w')) (hk0 : ((k : Int) == 0) = false) (hks : ((k : Int) == s1.size) = false) (hkl : k < s1.size) (ck : Nat) (hck : ((s1[k]'hkl).toNat : Int) = (ck : Int)) (mo hd : ByteArray) (hmo : s1.extract (k + 1) s1.size = mo) (_hhd : s1.extract 0 k = hd) (cm : Nat) (hrun2 : ∀ W, Hid (Calls Tryz.prog 118 #[.string mo, .int .i64 0] W fun e w' => e = .returned (.int .i64 (cm : Int)) ∧ W = w')) (hb : ((cm : Int) != mo.size) = false) (he : (mo.toList == []) = false) (_he2 : ¬ mo.toList = []) (_he3 : mo.toList.isEmpty = false) (h46 : ((ck : Int) != 46) = true) (h47 : ((ck : Int) != 47) = true) : Calls Tryz.prog 65 #[.string s] w (FlagPost q false w) := by
  have hres := hiD (Resa.start w)
  go_enter Tryz.func65, Tryz.ntmps65
  go_wp2_with fail
  refine (hrun _).out.mono ?_
  rintro e w1 ⟨rfl, rfl⟩
  have hkl2 : (k : Int) < s1.size := by omega
  go_wp2_with fail
  go_quiet (fail)
  have hrq := hiD (hres.out.next (below_drewN _ _ nq))
  go_wp2_with fail
  refine (hrun2 _).out.mono ?_
  rintro e w1 ⟨rfl, rfl⟩
  obtain ⟨z0, z1, z2, l0, l1, l2, f0, f1, f2⟩ := hrq.out.slots
  have q3 := hiD (hrq.out.put3 (Nat.le_refl _) false none none 0 0 0 0).below
  go_wp2_with fail
  refine bodyPost_ret (v := .tuple #[.agg #[.bool false, .slice none 0 0, .slice none 0 0], .bool false]) ?h1 rfl ?h2
  case h1 => simp [results, Tryz.results65, go_sem, l0, l1, l2] <;> omega
  exact ⟨_, _, _, _, _, _, _, rfl, q3.out, fun h => by cases h⟩
theorem plain_ng_C2y (s : ByteArray) (k : Nat) (q : Rat) (sb : Bool) (N0 D0 : Nat) (w : World) (hmax : (s.size : Int) ≤ 100000) (hz : 0 < s.size) (hm : (((s[0]'hz).toNat : Int) == 45) = true) (s1 : ByteArray) (hs1 : s.extract 1 s.size = s1) (hmax1 : (s1.size : Int) ≤ 100000) (hrun : ∀ W, Hid (Calls Tryz.prog 118 #[.string s1, .int .i64 0] W fun e w' => e = .returned (.int .i64 (k : Int)) ∧ W = w')) (hk0 : ((k : Int) == 0) = false) (hks : ((k : Int) == s1.size) = false) (hkl : k < s1.size) (ck : Nat) (hck : ((s1[k]'hkl).toNat : Int) = (ck : Int)) (mo hd : ByteArray) (hmo : s1.extract (k + 1) s1.size = mo) (hhd : s1.extract 0 k = hd) (cm : Nat) (hrun2 : ∀ W, Hid (Calls Tryz.prog 118 #[.string mo, .int .i64 0] W fun e w' => e = .returned (.int .i64 (cm : Int)) ∧ W = w')) (hb : ((cm : Int) != mo.size) = false) (he : (mo.toList == []) = false) (_he2 : ¬ mo.toList = []) (_he3 : mo.toList.isEmpty = false) (h47 : ck = 47) (hD0 : D0 ≠ 0) (hrd1 : ∀ W, Hid (Calls Tryz.prog 119 #[.string mo] W (Post9 D0 W))) (hrd2 : ∀ W, Hid (Calls Tryz.prog 119 #[.string hd] W (Post9 N0 W))) (hqs : Hid (sb = decide (q.num < 0))) (hmk : ∀ W u v, Nat9 W u N0 → Nat9 W v D0 → Hid (Calls Tryz.prog 91 #[.bool true, u, v] W (QPostB q sb W))) : Calls Tryz.prog 65 #[.string s] w (FlagPost q true w) := by
  subst h47
  have hres := hiD (Resa.start w)
  go_enter Tryz.func65, Tryz.ntmps65
  go_wp2_with fail
  refine (hrun _).out.mono ?_
  rintro e w1 ⟨rfl, rfl⟩
  have hkl2 : (k : Int) < s1.size := by omega
  go_wp2_with fail
  go_quiet (fail)
  have hrq := hiD (hres.out.next (below_drewN _ _ nq))
  go_wp2_with fail
  refine (hrun2 _).out.mono ?_
  rintro e w1 ⟨rfl, rfl⟩
  go_wp2_with fail
  refine (hrd1 _).out.mono ?_
  rintro e w2 ⟨v2, rfl, hv2, hb2, -⟩
  obtain ⟨p2, n2, c2, rfl⟩ := hv2.slice
  have hr2 := hiD (hrq.out.next hb2)
  have Hv2 := hiD hv2
  have hn3 : 0 < n2 := by have h := hv2.zero_iff (n := n2); omega
  have hn2 : (0 : Int) < n2 := by omega
  clear hv2 hb2
  go_wp2_with fail
  refine (hrd2 _).out.mono ?_
  rintro e w3 ⟨v3, rfl, hv3, hb3, -⟩
  obtain ⟨p3, n3, c3, rfl⟩ := hv3.slice
  have HR := hiD (hr2.out.next hb3)
  have hm3 := hmk w3 _ _ hv3 (Hv2.out.below hb3)
  clear hv3 hb3 hr2
  go_wp2_with fail
  refine hm3.out.mono ?_
  rintro e wM ⟨pr, nr, cr, pq, nq, cq, rfl, hr1, hr2, hbM⟩
  have hrz := hiD (HR.out.next hbM)
  have Hr1 := hiD hr1
  have Hr2 := hiD hr2
  obtain ⟨z0, z1, z2, l0, l1, l2, f0, f1, f2⟩ := hrz.out.slots
  clear hr1 hr2 hbM
  go_wp2_with fail
  have hfin := hiD (hrz.out.fin (Nat.le_refl _) hqs.out Hr1.out Hr2.out)
  refine bodyPost_ret (v := .tuple #[.agg #[.bool sb, .slice pr nr cr, .slice pq nq cq], .bool true]) ?h1 rfl ?h2
  case h1 => simp [results, Tryz.results65, go_sem, l0, l1, l2] <;> omega
  obtain ⟨x, hx, hq, hb⟩ := hfin.out
  cases hx
  exact ⟨_, _, _, _, _, _, _, rfl, hb, fun _ => hq⟩
theorem plain_ng_C2n (s : ByteArray) (k : Nat) (q : Rat) (sb : Bool) (N0 D0 : Nat) (w : World) (hmax : (s.size : Int) ≤ 100000) (hz : 0 < s.size) (hm : (((s[0]'hz).toNat : Int) == 45) = true) (s1 : ByteArray) (hs1 : s.extract 1 s.size = s1) (hmax1 : (s1.size : Int) ≤ 100000) (hrun : ∀ W, Hid (Calls Tryz.prog 118 #[.string s1, .int .i64 0] W fun e w' => e = .returned (.int .i64 (k : Int)) ∧ W = w')) (hk0 : ((k : Int) == 0) = false) (hks : ((k : Int) == s1.size) = false) (hkl : k < s1.size) (ck : Nat) (hck : ((s1[k]'hkl).toNat : Int) = (ck : Int)) (mo hd : ByteArray) (hmo : s1.extract (k + 1) s1.size = mo) (hhd : s1.extract 0 k = hd) (cm : Nat) (hrun2 : ∀ W, Hid (Calls Tryz.prog 118 #[.string mo, .int .i64 0] W fun e w' => e = .returned (.int .i64 (cm : Int)) ∧ W = w')) (hb : ((cm : Int) != mo.size) = false) (he : (mo.toList == []) = false) (_he2 : ¬ mo.toList = []) (_he3 : mo.toList.isEmpty = false) (h47 : ck = 47) (hD0 : D0 = 0) (hrd1 : ∀ W, Hid (Calls Tryz.prog 119 #[.string mo] W (Post9 D0 W))) (hrd2 : ∀ W, Hid (Calls Tryz.prog 119 #[.string hd] W (Post9 N0 W))) (hqs : Hid (sb = decide (q.num < 0))) (hmk : ∀ W u v, Nat9 W u N0 → Nat9 W v D0 → Hid (Calls Tryz.prog 91 #[.bool true, u, v] W (QPostB q sb W))) : Calls Tryz.prog 65 #[.string s] w (FlagPost q false w) := by
  subst h47
  have hres := hiD (Resa.start w)
  go_enter Tryz.func65, Tryz.ntmps65
  go_wp2_with fail
  refine (hrun _).out.mono ?_
  rintro e w1 ⟨rfl, rfl⟩
  have hkl2 : (k : Int) < s1.size := by omega
  go_wp2_with fail
  go_quiet (fail)
  have hrq := hiD (hres.out.next (below_drewN _ _ nq))
  go_wp2_with fail
  refine (hrun2 _).out.mono ?_
  rintro e w1 ⟨rfl, rfl⟩
  go_wp2_with fail
  refine (hrd1 _).out.mono ?_
  rintro e w2 ⟨v2, rfl, hv2, hb2, -⟩
  obtain ⟨p2, n2, c2, rfl⟩ := hv2.slice
  have hr2 := hiD (hrq.out.next hb2)
  have Hv2 := hiD hv2
  have hn3 : n2 = 0 := by have h := hv2.zero_iff (n := n2); omega
  subst hn3
  clear hv2 hb2
  go_wp2_with fail
  refine (hrd2 _).out.mono ?_
  rintro e w3 ⟨v3, rfl, hv3, hb3, -⟩
  obtain ⟨p3, n3, c3, rfl⟩ := hv3.slice
  have HR := hiD (hr2.out.next hb3)
  have hm3 := hmk w3 _ _ hv3 (Hv2.out.below hb3)
  clear hv3 hb3 hr2
  go_wp2_with fail
  refine hm3.out.mono ?_
  rintro e wM ⟨pr, nr, cr, pq, nq, cq, rfl, hr1, hr2, hbM⟩
  have hrz := hiD (HR.out.next hbM)
  have Hr1 := hiD hr1
  have Hr2 := hiD hr2
  obtain ⟨z0, z1, z2, l0, l1, l2, f0, f1, f2⟩ := hrz.out.slots
  clear hr1 hr2 hbM
  go_wp2_with fail
  have hfin := hiD (hrz.out.fin (Nat.le_refl _) hqs.out Hr1.out Hr2.out)
  refine bodyPost_ret (v := .tuple #[.agg #[.bool sb, .slice pr nr cr, .slice pq nq cq], .bool false]) ?h1 rfl ?h2
  case h1 => simp [results, Tryz.results65, go_sem, l0, l1, l2] <;> omega
  obtain ⟨x, hx, hq, hb⟩ := hfin.out
  cases hx
  exact ⟨_, _, _, _, _, _, _, rfl, hb, fun _ => hq⟩
theorem plain_ng_C3 (s : ByteArray) (k : Nat) (q : Rat) (sb : Bool) (N0 D0 : Nat) (w : World) (hmax : (s.size : Int) ≤ 100000) (hz : 0 < s.size) (hm : (((s[0]'hz).toNat : Int) == 45) = true) (s1 : ByteArray) (hs1 : s.extract 1 s.size = s1) (hmax1 : (s1.size : Int) ≤ 100000) (hrun : ∀ W, Hid (Calls Tryz.prog 118 #[.string s1, .int .i64 0] W fun e w' => e = .returned (.int .i64 (k : Int)) ∧ W = w')) (hk0 : ((k : Int) == 0) = false) (hks : ((k : Int) == s1.size) = false) (hkl : k < s1.size) (ck : Nat) (hck : ((s1[k]'hkl).toNat : Int) = (ck : Int)) (mo hd : ByteArray) (hmo : s1.extract (k + 1) s1.size = mo) (hhd : s1.extract 0 k = hd) (cm : Nat) (hrun2 : ∀ W, Hid (Calls Tryz.prog 118 #[.string mo, .int .i64 0] W fun e w' => e = .returned (.int .i64 (cm : Int)) ∧ W = w')) (hb : ((cm : Int) != mo.size) = false) (he : (mo.toList == []) = false) (_he2 : ¬ mo.toList = []) (_he3 : mo.toList.isEmpty = false) (h46 : ck = 46) (hall : Hid (mo.data.toList.all isDig = true)) (hsz : (mo.size : Int) ≤ 100000) (hszh : (hd.size : Int) ≤ 100000) (hD0 : Hid (D0 = 10 ^ mo.size)) (hrd2 : ∀ W, Hid (Calls Tryz.prog 119 #[.string (hd ++ mo)] W (Post9 N0 W))) (hqs : Hid (sb = decide (q.num < 0))) (hmk : ∀ W u v, Nat9 W u N0 → Nat9 W v D0 → Hid (Calls Tryz.prog 91 #[.bool true, u, v] W (QPostB q sb W))) : Calls Tryz.prog 65 #[.string s] w (FlagPost q true w) := by
  subst h46
  have hone : ∀ W, Hid (Calls Tryz.prog 90 #[] W (Post9 1 W)) := fun W => hiD (one_any W)
  have hten : ∀ W, Hid (Calls Tryz.prog 70 #[.int .u64 10] W (Post9 10 W)) := fun W => hiD (natOf_any 10 W (by omega))
  have hres := hiD (Resa.start w)
  go_enter Tryz.func65, Tryz.ntmps65
  go_wp2_with fail
  refine (hrun _).out.mono ?_
  rintro e w1 ⟨rfl, rfl⟩
  have hkl2 : (k : Int) < s1.size := by omega
  go_wp2_with fail
  go_quiet (fail)
  have hrq := hiD (hres.out.next (below_drewN _ _ nq))
  go_wp2_with fail
  refine (hrun2 _).out.mono ?_
  rintro e w1 ⟨rfl, rfl⟩
  go_wp2_with fail
  refine (hone _).out.mono ?_
  rintro e w2 ⟨v2, rfl, hv2, hb2, -⟩
  obtain ⟨p2, n2, c2, rfl⟩ := hv2.slice
  have hr2 := hrq.out.next hb2
  have hst : Hid (DotAt w (w2.iter mo 0) w2.heap.size mo 0 (.slice p2 n2 c2)) := hiD ⟨by rw [Nat.pow_zero]; exact hv2.below (below_alloc9 _ _), World.iter_heap _ _ _, hr2.next (below_alloc9 _ _), by have := hr2.size; omega, Nat.zero_le _⟩
  clear hv2 hb2 hr2
  go_wp2_with fail
  go_loopw [9] (fun dv w3 => ∃ (pos : Nat) (pd : Option Addr) (nd cd : Nat), dv = .slice pd nd cd ∧ Hid (DotAt w w3 w2.heap.size mo pos dv)) (fun _ w3 => mo.size - w3.iterPos w2.heap.size)
  case atStart => exact ⟨0, _, _, _, rfl, hst⟩
  case round =>
    obtain ⟨pos, pd, nd, cd, rfl, hat⟩ := hrel
    by_cases hp : pos < mo.size
    · have hasc : (mo[pos]'hp).toNat < 128 := by
        have h1 : isDig (mo[pos]'hp) = true := List.all_eq_true.1 hall.out _ (List.getElem_mem (by simpa using hp) : mo.data.toList[pos]'(by simpa using hp) ∈ _)
        simp [isDig] at h1; omega
      have hnx : ∀ ty, (Instr.next (.pointer (some ⟨w2.heap.size, 0, none⟩)) true ty).run Tryz.prog wr = _ := fun ty => next_at wr w2.heap.size mo pos ty hat.out.it hp hasc
      have hd1 := hiD (hat.out.nat.iter hat.out.it (pos + 1))
      have hps : Hid (pos ≤ 100000) := hiD (by omega)
      clear hasc
      go_wp2_with fail
      refine (hten _).out.mono ?_
      rintro e w5 ⟨v5, rfl, hv5, hb5, -⟩
      obtain ⟨p5, n5, c5, rfl⟩ := hv5.slice
      have hm5 : Hid (Calls Tryz.prog 92 #[.slice pd nd cd, .slice p5 n5 c5] w5 (Post9 (10 ^ pos * 10) w5)) := hiD (natMul_nat _ _ _ _ (pos + 1) 1 w5 (by have := hps.out; unfold most; omega) (by unfold most; omega) (pow10_lt pos) (by rw [Nat.pow_one, B9_eq]; omega) (hd1.out.below hb5) hv5)
      have Hb5 := hiD hb5
      clear hv5 hb5
      go_wp2_with fail
      refine hm5.out.mono ?_
      rintro e w6 ⟨v6, rfl, hv6, hb6, -⟩
      obtain ⟨p6, n6, c6, rfl⟩ := hv6.slice
      have hnext : Hid (DotAt w w6 w2.heap.size mo (pos + 1) (.slice p6 n6 c6)) := hiD (hat.out.step hp (Hb5.out.trans (hb6.mono Hb5.out.size)) (by rw [Nat.pow_succ]; exact hv6))
      have hmeas : Hid (mo.size - w6.iterPos w2.heap.size < mo.size - wr.iterPos w2.heap.size) := hiD (by
        have h1 := hnext.out.it
        have h2 := hat.out.it
        simp only [World.iterPos, h1, h2]; omega)
      clear hv6 hb6
      go_wp2_with fail
      go_roundw
      case rel => exact ⟨pos + 1, _, _, _, rfl, hnext⟩
      case measure => exact hmeas.out
    · have hpe : pos = mo.size := by have := hat.out.le; omega
      have hnx : ∀ ty, (Instr.next (.pointer (some ⟨w2.heap.size, 0, none⟩)) true ty).run Tryz.prog wr = _ := fun ty => next_at_end wr w2.heap.size mo pos ty hat.out.it hp
      have hdn : Hid (Nat9 wr (.slice pd nd cd) D0) := hiD (by rw [hD0.out, ← hpe]; exact hat.out.nat)
      clear hpe
      go_wp2_with fail
      refine (hrd2 _).out.mono ?_
      rintro e w7 ⟨v7, rfl, hv7, hb7, -⟩
      obtain ⟨p7, n7, c7, rfl⟩ := hv7.slice
      have HR := hiD (hat.out.res.next hb7)
      have hm3 := hmk w7 _ _ hv7 (hdn.out.below hb7)
      clear hv7 hb7
      go_wp2_with fail
      refine hm3.out.mono ?_
      rintro e wM ⟨pr, nr, cr, pq, nq, cq, rfl, hr1, hr2, hbM⟩
      have hrz := hiD (HR.out.next hbM)
      have Hr1 := hiD hr1
      have Hr2 := hiD hr2
      obtain ⟨z0, z1, z2, l0, l1, l2, f0, f1, f2⟩ := hrz.out.slots
      clear hr1 hr2 hbM
      go_wp2_with fail
      have hfin := hiD (hrz.out.fin (Nat.le_refl _) hqs.out Hr1.out Hr2.out)
      refine bodyPost_ret (v := .tuple #[.agg #[.bool sb, .slice pr nr cr, .slice pq nq cq], .bool true]) ?h1 rfl ?h2
      case h1 => simp [results, Tryz.results65, go_sem, l0, l1, l2] <;> omega
      obtain ⟨x, hx, hq, hb⟩ := hfin.out
      cases hx
      exact ⟨_, _, _, _, _, _, _, rfl, hb, fun _ => hq⟩
end Go.Proofs.YtoegbjmoecbjdaaGreatDoor
