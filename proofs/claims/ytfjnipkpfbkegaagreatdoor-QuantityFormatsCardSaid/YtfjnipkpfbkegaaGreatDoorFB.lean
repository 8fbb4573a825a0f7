/- FormatUnit of the program. -/
import Derived.Test.YtfjnipkpfbkegaaGreatDoorFA
import Derived.Test.YtfjnipkpfbkegaaGreatDoorXUR
import Derived.Test.YtfjnipkpfbkegaaGreatDoorXShelfB
import Derived.Maps.AppendAt
set_option maxHeartbeats 2000000
set_option maxRecDepth 100000
namespace Go.Proofs.YtfjnipkpfbkegaaGreatDoor
open Go.RowKit Big
open Go.Lib
theorem infoS9 : (Tryz.prog.info? 9).map (fun i => (i.zero, i.size, i.bytes)) = some (some (.string ⟨#[]⟩), 1, 16) := by kernel_rfl
def strs (l : List (List UInt8)) : List Value := l.map (fun x => Value.string ⟨List.toArray x⟩)
theorem wpList_append_1s {w : World} {ops : Array Oper} {rest : List Oper} {o : Oper} {a : Act} {Q : Exit → Act → World → Prop} (hgd : o.guard = none) (s x : Operand)
    (ho : o.op = .call { callee := .builtin .append, args := #[s, x], argTypes := #[56, 56] })
    (B : Nat) (pv : Option Addr) (cv n : Nat) (X : List (List UInt8)) (hs : a.eval s = .slice pv n cv) (hown : w.ownsRow B 9 1 (.slice pv n cv) n (strs X))
    (g : Nat) (y : List UInt8) (hx : a.eval x = .slice (some ⟨g, 0, none⟩) 1 1) (hc : w.cell? ⟨g, 0, none⟩ = some (.string ⟨List.toArray y⟩)) (hlen : n ≤ 100000) (hB : B ≤ w.heap.size)
    (h : ∀ gv cv' w', w'.ownsRow B 9 1 (.slice (some ⟨gv, 0, none⟩) (n + 1) cv') (n + 1) (strs (X ++ [y])) → w.grownBy w' (Value.slice pv n cv).ownBlock → wpList Tryz.prog ops Q rest (a.put o.dst (.slice (some ⟨gv, 0, none⟩) (n + 1) cv')) w') : wpList Tryz.prog ops Q (o :: rest) a w := by
  obtain ⟨i0, hi, hz0, hz1, hz2⟩ := info_parts infoS9
  refine wpList_append_own_at _ hgd s x 56 ho B 9 i0 (.string ⟨#[]⟩) 1 16 Tryz.underlying56 hi hz0 hz1 hz2 rfl (by decide) _ _ _ hs hown ⟨g, 0, none⟩ 1 1 [.string ⟨List.toArray y⟩] hx rfl ?_ ?_ (by unfold maxLen; omega) (by omega) hB ?_
  · intro j u hj
    cases j with
    | zero => simp at hj; subst hj; exact hc
    | succ j => simp at hj
  · intro u hu
    obtain rfl := List.mem_singleton.1 hu
    rfl
  · intro v' w' h1 h2 _ _
    obtain ⟨gv, cv', rfl⟩ : ∃ g c, v' = .slice (some ⟨g, 0, none⟩) (n + 1) c := by
      obtain ⟨-, ⟨-, e⟩ | ⟨g, cap, _, e, -⟩⟩ := id h1
      · omega
      · exact ⟨g, cap, e⟩
    refine h gv cv' w' ?_ h2
    rw [strs, List.map_append]
    exact h1
theorem strs_cells {W : World} {B n cv : Nat} {pv : Option Addr} {X : List (List UInt8)} (h : W.ownsRow B 9 1 (.slice pv n cv) n (strs X)) (hx : X.length = n) (hn : 0 < n) : ∃ g, pv = some ⟨g, 0, none⟩ ∧ g < W.heap.size ∧ n ≤ cv ∧ ∀ (j : Nat) x, (X.map (fun l => (⟨l.toArray⟩ : ByteArray)))[j]? = some x → W.cell? ⟨g, 0 + j, none⟩ = some (.string x) := by
  obtain ⟨-, ⟨e, e2⟩ | ⟨g, cap, cur, e, hg, hh, h5, h6, h7⟩⟩ := id h
  · omega
  · injection e with e e1 e3
    subst e e3
    refine ⟨g, rfl, (Array.getElem?_eq_some_iff.1 hh).1, by omega, fun j x hj => ?_⟩
    rw [List.getElem?_map, Option.map_eq_some_iff] at hj
    obtain ⟨y, hy, rfl⟩ := hj
    have hjl : j < X.length := by
      rcases Nat.lt_or_ge j X.length with h | h
      · exact h
      · rw [List.getElem?_eq_none h] at hy; cases hy
    rw [Nat.zero_add, h.cellAt j (by omega)]
    unfold strs
    rw [List.getElem?_map, hy]; rfl
theorem powers_eq10 (p0 p1 p2 p3 p4 p5 p6 r0 r1 r2 r3 r4 r5 r6 : Int) (W : World) : (Op.equalIn 10000 22 (.agg #[.int .i64 p0, .int .i64 p1, .int .i64 p2, .int .i64 p3, .int .i64 p4, .int .i64 p5, .int .i64 p6]) (.agg #[.int .i64 r0, .int .i64 r1, .int .i64 r2, .int .i64 r3, .int .i64 r4, .int .i64 r5, .int .i64 r6])).run Tryz.prog W = .ok (decide ([p0, p1, p2, p3, p4, p5, p6] = [r0, r1, r2, r3, r4, r5, r6])) W := by
  obtain ⟨i, hi⟩ := Option.isSome_iff_exists.1 (by kernel_rfl : (Tryz.prog.info? 3).isSome = true)
  have u3 := Tryz.underlying3
  rw [show (10000 : Nat) = 9999 + 1 from rfl, run_equalIn_array W 9999 _ _ Tryz.underlying22 hi]
  simp only [show List.range 7 = [0, 1, 2, 3, 4, 5, 6] from rfl]
  have hc : Tryz.prog.cellsOf 3 = 1 := by kernel_rfl
  simp only [Op.eqItems, hc]
  go_simp
  by_cases h0 : p0 = r0
  · by_cases h1 : p1 = r1
    · by_cases h2 : p2 = r2
      · by_cases h3 : p3 = r3
        · by_cases h4 : p4 = r4
          · by_cases h5 : p5 = r5
            · by_cases h6 : p6 = r6
              · simp [h0, h1, h2, h3, h4, h5, h6]
              · simp [h0, h1, h2, h3, h4, h5, h6]
            · simp [h0, h1, h2, h3, h4, h5]
          · simp [h0, h1, h2, h3, h4]
        · simp [h0, h1, h2, h3]
      · simp [h0, h1, h2]
    · simp [h0, h1]
  · simp [h0]
theorem itoa_any (n : Int) (h0 : -9223372036854775808 ≤ n) (h1 : n ≤ 9223372036854775807) (w : World) (htab : Tab w) : Calls Tryz.prog 24 #[.int .i64 n] w fun e w' => e = .returned (.string ⟨(itoa n).toArray⟩) ∧ Below w.heap.size w w' :=
  (Tryz.strconv_Itoa n h0 h1 w htab).mono fun e w' ⟨h1, k, os, h2⟩ => ⟨h1, by rw [h2]; exact Lib.below_grow _ _ (Nat.le_refl _) _ _⟩
def FmtPost (r : List UInt8 × Int) (w : World) (e : Ending) (w' : World) : Prop := e = .returned (.tuple #[.string ⟨r.1.toArray⟩, .int .i64 r.2]) ∧ Below w.heap.size w w'
theorem format_no (f o : ByteArray) (p0 p1 p2 p3 p4 p5 p6 : Int) (w : World) (h : Hid (∀ W, Below w.heap.size w W → Calls Tryz.prog 23 #[.agg #[.string f, .string o, .int .i64 p0, .int .i64 p1, .int .i64 p2, .int .i64 p3, .int .i64 p4, .int .i64 p5, .int .i64 p6]] W fun e w' => e = .returned (.bool false) ∧ Below W.heap.size W w')) : Calls Tryz.prog 9 #[.agg #[.string f, .string o, .int .i64 p0, .int .i64 p1, .int .i64 p2, .int .i64 p3, .int .i64 p4, .int .i64 p5, .int .i64 p6]] w (FmtPost ([], 10) w) := by
  have HB0 := hiD (bea w (.cells #[.string f, .string o, .int .i64 p0, .int .i64 p1, .int .i64 p2, .int .i64 p3, .int .i64 p4, .int .i64 p5, .int .i64 p6] 24))
  unfold FmtPost
  go_enter Tryz.func9, Tryz.ntmps9
  go_wp2_with fail
  refine (h.out _ HB0.out).mono ?_
  rintro e w1 ⟨rfl, hb1⟩
  have HB := hiD (HB0.out.trans (hb1.mono HB0.out.size))
  clear hb1
  go_wp2_with fail
  go_ret2
  exact ⟨rfl, HB.out⟩
end Go.Proofs.YtfjnipkpfbkegaaGreatDoor
