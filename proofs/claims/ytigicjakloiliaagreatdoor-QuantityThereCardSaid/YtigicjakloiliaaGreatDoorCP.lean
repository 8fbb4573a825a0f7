/- QuantityUnits: all the cases of the law's walk. -/
import Derived.Test.YtigicjakloiliaaGreatDoorCO
namespace Go.Proofs.YtigicjakloiliaaGreatDoor
open Go.RowKit Go.Lib Big

theorem tU_of {r : UnitT} (h : r.ps.length = 7) : ∃ (f o : ByteArray) (p0 p1 p2 p3 p4 p5 p6 : Int), tU f o p0 p1 p2 p3 p4 p5 p6 = r := by
  obtain ⟨f, o, ps⟩ := r
  dsimp only at h
  match ps, h with
  | [p0, p1, p2, p3, p4, p5, p6], _ => exact ⟨⟨f.toArray⟩, ⟨o.toArray⟩, p0, p1, p2, p3, p4, p5, p6, rfl⟩
theorem mkT_len {q : Rat} {ps : List Int} (h : ps.length = 7) : (mkT q ps).1.ps.length = 7 := by
  unfold mkT
  split
  · rfl
  · exact h
theorem combT_len {u v : UnitT} (n : Int) (hu : u.ps.length = 7) (hv : v.ps.length = 7) : (combT u v n).1.ps.length = 7 := by
  unfold combT
  split
  · exact mkT_len (by simp [hu, hv])
  · rfl
theorem powT_len {u : UnitT} (n : Int) (hu : u.ps.length = 7) : (powT u n).1.ps.length = 7 := by
  unfold powT
  split
  · split
    · exact mkT_len (by simp [hu])
    · rfl
  · rfl
theorem bytes_ext {a b : ByteArray} (h : a.data.toList = b.data.toList) : a = b := by
  cases a; cases b; congr 1; exact Array.toList_inj.1 h
theorem unitPost_to (fa oa : ByteArray) (a0 a1 a2 a3 a4 a5 a6 : Int) {r : UnitT × Int} {x : Int} {W W' : World} {E : Ending} (h1 : (tU fa oa a0 a1 a2 a3 a4 a5 a6) = r.1) (h2 : x = r.2) (h : UnitPost r W E W') : E = .returned (.tuple #[.agg #[.string fa, .string oa, .int .i64 a0, .int .i64 a1, .int .i64 a2, .int .i64 a3, .int .i64 a4, .int .i64 a5, .int .i64 a6], .int .i64 x]) ∧ Below W.heap.size W W' := by
  obtain ⟨f, o, q0, q1, q2, q3, q4, q5, q6, rfl, ht, hb⟩ := h
  rw [← h1] at ht
  unfold tU at ht
  simp only [UnitT.mk.injEq, List.cons.injEq, and_true] at ht
  obtain ⟨e1, e2, rfl, rfl, rfl, rfl, rfl, rfl, rfl⟩ := ht
  rw [bytes_ext e1, bytes_ext e2, h2]
  exact ⟨rfl, hb⟩

set_option maxRecDepth 100000 in
theorem units_any (fu ou : ByteArray) (u0 u1 u2 u3 u4 u5 u6 : Int) (fv ov : ByteArray) (v0 v1 v2 v3 v4 v5 v6 : Int) (m n : Int) (w : World) (htab : Tab w) : Calls Tryz.prog 16 #[.agg #[.string fu, .string ou, .int .i64 u0, .int .i64 u1, .int .i64 u2, .int .i64 u3, .int .i64 u4, .int .i64 u5, .int .i64 u6], .agg #[.string fv, .string ov, .int .i64 v0, .int .i64 v1, .int .i64 v2, .int .i64 v3, .int .i64 v4, .int .i64 v5, .int .i64 v6], .int .i64 m, .int .i64 n] w (OrdPost w) := by
  have hw := Lib.hid (show AwakeIs w from fun W hb => awake_any W (htab.below hb))
  obtain ⟨fa, oa, a0, a1, a2, a3, a4, a5, a6, hA⟩ := tU_of (combT_len (u := (tU fu ou u0 u1 u2 u3 u4 u5 u6)) (v := (tU fv ov v0 v1 v2 v3 v4 v5 v6)) 1 rfl rfl)
  obtain ⟨e1, he1⟩ : ∃ e, e = (combT (tU fu ou u0 u1 u2 u3 u4 u5 u6) (tU fv ov v0 v1 v2 v3 v4 v5 v6) 1).2 := ⟨_, rfl⟩
  have h1 := fun W (hb : Below w.heap.size w W) => (times_any fu ou u0 u1 u2 u3 u4 u5 u6 fv ov v0 v1 v2 v3 v4 v5 v6 W (htab.below hb)).mono fun E W' h => unitPost_to fa oa a0 a1 a2 a3 a4 a5 a6 hA he1 h
  have h2 := fun W (hb : Below w.heap.size w W) => (times_any fv ov v0 v1 v2 v3 v4 v5 v6 fu ou u0 u1 u2 u3 u4 u5 u6 W (htab.below hb)).mono fun E W' h => unitPost_to fa oa a0 a1 a2 a3 a4 a5 a6 (hA.trans (by rw [combT_comm])) (he1.trans (by rw [combT_comm])) h
  have hpow : ¬ m < -12 → ¬ 12 < m → ¬ n < -12 → ¬ 12 < n → IntKind.i64.wrap (m + n) = m + n := fun _ _ _ _ => IntWalk.i64_in _ (by omega)
  obtain ⟨fb, ob, b0, b1, b2, b3, b4, b5, b6, hB⟩ := tU_of (powT_len (u := (tU fu ou u0 u1 u2 u3 u4 u5 u6)) m rfl)
  obtain ⟨e2, he2⟩ : ∃ e, e = (powT (tU fu ou u0 u1 u2 u3 u4 u5 u6) m).2 := ⟨_, rfl⟩
  have gb := fun W (hb : Below w.heap.size w W) => (powerU_any fu ou u0 u1 u2 u3 u4 u5 u6 m W (htab.below hb)).mono fun E W' h => unitPost_to fb ob b0 b1 b2 b3 b4 b5 b6 hB he2 h
  obtain ⟨fc, oc, c0, c1, c2, c3, c4, c5, c6, hC⟩ := tU_of (powT_len (u := (tU fu ou u0 u1 u2 u3 u4 u5 u6)) n rfl)
  obtain ⟨e3, he3⟩ : ∃ e, e = (powT (tU fu ou u0 u1 u2 u3 u4 u5 u6) n).2 := ⟨_, rfl⟩
  have gc := fun W (hb : Below w.heap.size w W) => (powerU_any fu ou u0 u1 u2 u3 u4 u5 u6 n W (htab.below hb)).mono fun E W' h => unitPost_to fc oc c0 c1 c2 c3 c4 c5 c6 hC he3 h
  obtain ⟨fd, od, d0, d1, d2, d3, d4, d5, d6, hD⟩ := tU_of (powT_len (u := (tU fu ou u0 u1 u2 u3 u4 u5 u6)) (m + n) rfl)
  obtain ⟨e4, he4⟩ : ∃ e, e = (powT (tU fu ou u0 u1 u2 u3 u4 u5 u6) (m + n)).2 := ⟨_, rfl⟩
  have gd := fun W (hb : Below w.heap.size w W) => (powerU_any fu ou u0 u1 u2 u3 u4 u5 u6 (m + n) W (htab.below hb)).mono fun E W' h => unitPost_to fd od d0 d1 d2 d3 d4 d5 d6 hD he4 h
  by_cases he : e1 = 0
  · subst he
    have hov := over_times (u := (tU fu ou u0 u1 u2 u3 u4 u5 u6)) (v := (tU fv ov v0 v1 v2 v3 v4 v5 v6)) rfl he1.symm
    have h3 := fun W (hb : Below w.heap.size w W) => (over_any fa oa a0 a1 a2 a3 a4 a5 a6 fv ov v0 v1 v2 v3 v4 v5 v6 W (htab.below hb)).mono fun E W' h => unitPost_to fu ou u0 u1 u2 u3 u4 u5 u6 (x := 0) (by rw [hA, hov]) (by rw [hA, hov]) h
    by_cases hm : m < -12
    · exact units_00 fu ou u0 u1 u2 u3 u4 u5 u6 fv ov v0 v1 v2 v3 v4 v5 v6 fa oa a0 a1 a2 a3 a4 a5 a6 m n w (Lib.hid h1) (Lib.hid h2) (Lib.hid h3) hm hw
    by_cases hm2 : 12 < m
    · exact units_01 fu ou u0 u1 u2 u3 u4 u5 u6 fv ov v0 v1 v2 v3 v4 v5 v6 fa oa a0 a1 a2 a3 a4 a5 a6 m n w (Lib.hid h1) (Lib.hid h2) (Lib.hid h3) hm hm2 hw
    by_cases hn : n < -12
    · exact units_02 fu ou u0 u1 u2 u3 u4 u5 u6 fv ov v0 v1 v2 v3 v4 v5 v6 fa oa a0 a1 a2 a3 a4 a5 a6 m n w (Lib.hid h1) (Lib.hid h2) (Lib.hid h3) hm hm2 hn hw
    by_cases hn2 : 12 < n
    · exact units_03 fu ou u0 u1 u2 u3 u4 u5 u6 fv ov v0 v1 v2 v3 v4 v5 v6 fa oa a0 a1 a2 a3 a4 a5 a6 m n w (Lib.hid h1) (Lib.hid h2) (Lib.hid h3) hm hm2 hn hn2 hw
    by_cases x2 : e2 = 0
    · subst x2
      by_cases x3 : e3 = 0
      · subst x3
        by_cases x4 : e4 = 0
        · subst x4
          have hadd := powT_add he2.symm he3.symm he4.symm
          have g7 := fun W (hb : Below w.heap.size w W) => (times_any fb ob b0 b1 b2 b3 b4 b5 b6 fc oc c0 c1 c2 c3 c4 c5 c6 W (htab.below hb)).mono fun E W' h => unitPost_to fd od d0 d1 d2 d3 d4 d5 d6 (x := 0) (by rw [hB, hC, hadd]; exact hD) (by rw [hB, hC, hadd]; exact he4) h
          exact units_07 fu ou u0 u1 u2 u3 u4 u5 u6 fv ov v0 v1 v2 v3 v4 v5 v6 fa oa a0 a1 a2 a3 a4 a5 a6 fb ob b0 b1 b2 b3 b4 b5 b6 fc oc c0 c1 c2 c3 c4 c5 c6 fd od d0 d1 d2 d3 d4 d5 d6 m n w (Lib.hid h1) (Lib.hid h2) (Lib.hid h3) hm hm2 hn hn2 (hpow hm hm2 hn hn2) (Lib.hid gb) (Lib.hid gc) (Lib.hid gd) (Lib.hid g7) hw
        · exact units_06 fu ou u0 u1 u2 u3 u4 u5 u6 fv ov v0 v1 v2 v3 v4 v5 v6 fa oa a0 a1 a2 a3 a4 a5 a6 fb ob b0 b1 b2 b3 b4 b5 b6 fc oc c0 c1 c2 c3 c4 c5 c6 fd od d0 d1 d2 d3 d4 d5 d6 e4 m n w (Lib.hid h1) (Lib.hid h2) (Lib.hid h3) hm hm2 hn hn2 (hpow hm hm2 hn hn2) (Lib.hid gb) (Lib.hid gc) (Lib.hid gd) x4 hw
      · exact units_05 fu ou u0 u1 u2 u3 u4 u5 u6 fv ov v0 v1 v2 v3 v4 v5 v6 fa oa a0 a1 a2 a3 a4 a5 a6 fb ob b0 b1 b2 b3 b4 b5 b6 fc oc c0 c1 c2 c3 c4 c5 c6 fd od d0 d1 d2 d3 d4 d5 d6 e3 e4 m n w (Lib.hid h1) (Lib.hid h2) (Lib.hid h3) hm hm2 hn hn2 (hpow hm hm2 hn hn2) (Lib.hid gb) (Lib.hid gc) (Lib.hid gd) x3 hw
    · exact units_04 fu ou u0 u1 u2 u3 u4 u5 u6 fv ov v0 v1 v2 v3 v4 v5 v6 fa oa a0 a1 a2 a3 a4 a5 a6 fb ob b0 b1 b2 b3 b4 b5 b6 fc oc c0 c1 c2 c3 c4 c5 c6 fd od d0 d1 d2 d3 d4 d5 d6 e2 e3 e4 m n w (Lib.hid h1) (Lib.hid h2) (Lib.hid h3) hm hm2 hn hn2 (hpow hm hm2 hn hn2) (Lib.hid gb) (Lib.hid gc) (Lib.hid gd) x2 hw
  · skip
    by_cases hm : m < -12
    · exact units_10 fu ou u0 u1 u2 u3 u4 u5 u6 fv ov v0 v1 v2 v3 v4 v5 v6 fa oa a0 a1 a2 a3 a4 a5 a6 e1 m n w (Lib.hid h1) (Lib.hid h2) he hm hw
    by_cases hm2 : 12 < m
    · exact units_11 fu ou u0 u1 u2 u3 u4 u5 u6 fv ov v0 v1 v2 v3 v4 v5 v6 fa oa a0 a1 a2 a3 a4 a5 a6 e1 m n w (Lib.hid h1) (Lib.hid h2) he hm hm2 hw
    by_cases hn : n < -12
    · exact units_12 fu ou u0 u1 u2 u3 u4 u5 u6 fv ov v0 v1 v2 v3 v4 v5 v6 fa oa a0 a1 a2 a3 a4 a5 a6 e1 m n w (Lib.hid h1) (Lib.hid h2) he hm hm2 hn hw
    by_cases hn2 : 12 < n
    · exact units_13 fu ou u0 u1 u2 u3 u4 u5 u6 fv ov v0 v1 v2 v3 v4 v5 v6 fa oa a0 a1 a2 a3 a4 a5 a6 e1 m n w (Lib.hid h1) (Lib.hid h2) he hm hm2 hn hn2 hw
    by_cases x2 : e2 = 0
    · subst x2
      by_cases x3 : e3 = 0
      · subst x3
        by_cases x4 : e4 = 0
        · subst x4
          have hadd := powT_add he2.symm he3.symm he4.symm
          have g7 := fun W (hb : Below w.heap.size w W) => (times_any fb ob b0 b1 b2 b3 b4 b5 b6 fc oc c0 c1 c2 c3 c4 c5 c6 W (htab.below hb)).mono fun E W' h => unitPost_to fd od d0 d1 d2 d3 d4 d5 d6 (x := 0) (by rw [hB, hC, hadd]; exact hD) (by rw [hB, hC, hadd]; exact he4) h
          exact units_17 fu ou u0 u1 u2 u3 u4 u5 u6 fv ov v0 v1 v2 v3 v4 v5 v6 fa oa a0 a1 a2 a3 a4 a5 a6 fb ob b0 b1 b2 b3 b4 b5 b6 fc oc c0 c1 c2 c3 c4 c5 c6 fd od d0 d1 d2 d3 d4 d5 d6 e1 m n w (Lib.hid h1) (Lib.hid h2) he hm hm2 hn hn2 (hpow hm hm2 hn hn2) (Lib.hid gb) (Lib.hid gc) (Lib.hid gd) (Lib.hid g7) hw
        · exact units_16 fu ou u0 u1 u2 u3 u4 u5 u6 fv ov v0 v1 v2 v3 v4 v5 v6 fa oa a0 a1 a2 a3 a4 a5 a6 fb ob b0 b1 b2 b3 b4 b5 b6 fc oc c0 c1 c2 c3 c4 c5 c6 fd od d0 d1 d2 d3 d4 d5 d6 e1 e4 m n w (Lib.hid h1) (Lib.hid h2) he hm hm2 hn hn2 (hpow hm hm2 hn hn2) (Lib.hid gb) (Lib.hid gc) (Lib.hid gd) x4 hw
      · exact units_15 fu ou u0 u1 u2 u3 u4 u5 u6 fv ov v0 v1 v2 v3 v4 v5 v6 fa oa a0 a1 a2 a3 a4 a5 a6 fb ob b0 b1 b2 b3 b4 b5 b6 fc oc c0 c1 c2 c3 c4 c5 c6 fd od d0 d1 d2 d3 d4 d5 d6 e1 e3 e4 m n w (Lib.hid h1) (Lib.hid h2) he hm hm2 hn hn2 (hpow hm hm2 hn hn2) (Lib.hid gb) (Lib.hid gc) (Lib.hid gd) x3 hw
    · exact units_14 fu ou u0 u1 u2 u3 u4 u5 u6 fv ov v0 v1 v2 v3 v4 v5 v6 fa oa a0 a1 a2 a3 a4 a5 a6 fb ob b0 b1 b2 b3 b4 b5 b6 fc oc c0 c1 c2 c3 c4 c5 c6 fd od d0 d1 d2 d3 d4 d5 d6 e1 e2 e3 e4 m n w (Lib.hid h1) (Lib.hid h2) he hm hm2 hn hn2 (hpow hm hm2 hn hn2) (Lib.hid gb) (Lib.hid gc) (Lib.hid gd) x2 hw
end Go.Proofs.YtigicjakloiliaaGreatDoor
