/- An append within the row. -/
import Derived.Test.YtoegbjmoecbjdaaGreatDoorVD
namespace Go.Proofs.YtoegbjmoecbjdaaGreatDoor
open Go.RowKit Big
open Go.Lib Go.Shelf
theorem row_put {cur : List Value} {m cap : Nat} {x : C7} (hs : cur.length = cap * 3) (hm : m < cap) : (cur.take (m * 3) ++ encC x ++ cur.drop (m * 3 + 3)).length = cap * 3 ∧ (∀ c, c < 3 → (cur.take (m * 3) ++ encC x ++ cur.drop (m * 3 + 3))[m * 3 + c]? = (encC x)[c]?) ∧ ∀ k, (k < m * 3 ∨ m * 3 + 3 ≤ k) → (cur.take (m * 3) ++ encC x ++ cur.drop (m * 3 + 3))[k]? = cur[k]? := by
  have h3 := encC_len x
  have ht : (cur.take (m * 3)).length = m * 3 := by rw [List.length_take]; omega
  refine ⟨by rw [List.length_append, List.length_append, ht, h3, List.length_drop]; omega, fun c hc => ?_, fun k hk => ?_⟩
  · rw [List.getElem?_append_left (by rw [List.length_append, ht, h3]; omega), List.getElem?_append_right (by omega), ht]
    congr 1; omega
  · rcases hk with hk | hk
    · rw [List.getElem?_append_left (by rw [List.length_append, ht, h3]; omega), List.getElem?_append_left (by omega), List.getElem?_take_of_lt hk]
    · rw [List.getElem?_append_right (by rw [List.length_append, ht, h3]; omega), List.getElem?_drop, List.length_append, ht, h3]
      congr 1; omega
theorem run_append_in (w : World) (ty : TypeId) (V m cap g : Nat) (x : C7) (hrow : SRow w V cap) (hm : m < cap) (hg : ∀ c, c < 3 → w.cell? ⟨g, c, none⟩ = (encC x)[c]?) : ∃ w', (Builtin.append_ #[91, 91] ty #[.slice (some ⟨V, 0, none⟩) m cap, .slice (some ⟨g, 0, none⟩) 1 1]).run Tryz.prog w = .ok (.slice (some ⟨V, 0, none⟩) (m + 1) cap) w' ∧ SRow w' V cap ∧ AtC w' V m x ∧ w.grownBy w' (some V) ∧ ∀ j y, j ≠ m → AtC w V j y → AtC w' V j y := by
  obtain ⟨i0, hi, -, hz1, -⟩ := info_parts6 info66
  have hrow2 := hrow
  obtain ⟨cur, hV, hs, hN⟩ := hrow
  have hsl : cur.toList.length = cap * 3 := by rw [Array.length_toList]; exact hs
  obtain ⟨hl, hin, hout⟩ := row_put (x := x) hsl hm
  have hr := run_append_room (P := Tryz.prog) w 91 ty 66 i0 Tryz.underlying91 hi V m cap cur hV ⟨g, 0, none⟩ 1 1 (encC x) (by rw [hz1]; rfl) (fun j u hj => by
    have hj3 : j < 3 := by have := (List.getElem?_eq_some_iff.1 hj).1; rwa [encC_len] at this
    rw [Addr.add_mid, Nat.zero_add, hg j hj3, hj]) (encC_one x) (by omega) (by rw [hz1, encC_len]; omega)
  rw [hz1, encC_len] at hr
  have hh := setRow_heap w V cur (cur.toList.take (m * 3) ++ encC x ++ cur.toList.drop (m * 3 + 3)).toArray 66 (0, 0) hV
  have hsr : SRow (w.setRow V (cur.toList.take (m * 3) ++ encC x ++ cur.toList.drop (m * 3 + 3)).toArray) V cap := by
    refine ⟨_, hh, by rw [List.size_toArray]; exact hl, fun u hu => ?_⟩
    simp only [List.mem_append] at hu
    rcases hu with (hu | hu) | hu
    · exact hN u (List.mem_of_mem_take hu)
    · exact encC_noU x u hu
    · exact hN u (List.mem_of_mem_drop hu)
  refine ⟨_, hr, hsr, AtC.of hsr fun c hc => ?_, ⟨rfl, rfl, rfl, by simp, fun k _ hk => setRow_other w V k _ (fun e => hk (by simp [e]))⟩, fun j y hj hy => AtC.of hsr fun c hc => ?_⟩
  · rw [ceh hh, List.getElem?_toArray]; exact hin c hc
  · rw [ceh hh, List.getElem?_toArray, hout _ (by omega), Array.getElem?_toList, ← ceh hV]
    exact (hy c hc).1
theorem wpList_append_in {w : World} {ops : Array Oper} {rest : List Oper} {o : Oper} {a : Act} {Q : Exit → Act → World → Prop} (hgd : o.guard = none) (s z : Operand)
    (ho : o.op = .call { callee := .builtin .append, args := #[s, z], argTypes := #[91, 91] }) (V m cap g : Nat) (x : C7) (hs : a.eval s = .slice (some ⟨V, 0, none⟩) m cap) (hz : a.eval z = .slice (some ⟨g, 0, none⟩) 1 1) (hrow : SRow w V cap) (hm : m < cap) (hg : ∀ c, c < 3 → w.cell? ⟨g, c, none⟩ = (encC x)[c]?)
    (h : ∀ w', SRow w' V cap → AtC w' V m x → w.grownBy w' (some V) → (∀ j y, j ≠ m → AtC w V j y → AtC w' V j y) → wpList Tryz.prog ops Q rest (a.put o.dst (.slice (some ⟨V, 0, none⟩) (m + 1) cap)) w') : wpList Tryz.prog ops Q (o :: rest) a w :=
  wpList_plain hgd fun K hK => by
    obtain ⟨w', hr, h2, h3, h4, h5⟩ := run_append_in w o.type V m cap g x hrow hm hg
    unfold Oper.wp execOp
    simp only [ho, resolve, invoke, builtin, Sem.run_bind, Sem.run_pure, Result.andThen_ok, List.map_toArray, List.map_cons, List.map_nil, hs, hz, hr]
    exact hK _ _ (h w' h2 h3 h4 h5)
def PartAt (W : World) (x : Value) (q : Rat) (m : Nat) : Prop := ∃ s a d, RatAt W x s a d ∧ ratv s a d = q ∧ 0 < d ∧ a < m * B64 ^ 20 ∧ d < B64 ^ 20
theorem PartAt.first {W : World} {x : Value} {q : Rat} {m : Nat} (h : RatIs W x q 20) (hm : 1 ≤ m) : PartAt W x q m := by
  obtain ⟨s, a, d, h1, h2, h3, h4, h5⟩ := h
  refine ⟨s, a, d, h1, h2, h3, ?_, h5⟩
  have : 1 * B64 ^ 20 ≤ m * B64 ^ 20 := Nat.mul_le_mul_right _ hm
  omega
theorem PartAt.more {W : World} {x : Value} {q : Rat} {m k : Nat} (h : PartAt W x q m) (hm : m ≤ k) : PartAt W x q k := by
  obtain ⟨s, a, d, h1, h2, h3, h4, h5⟩ := h
  have : m * B64 ^ 20 ≤ k * B64 ^ 20 := Nat.mul_le_mul_right _ hm
  exact ⟨s, a, d, h1, h2, h3, by omega, h5⟩
theorem PartAt.below {W W' : World} {x : Value} {q : Rat} {m : Nat} (h : PartAt W x q m) (hb : Below W.heap.size W W') : PartAt W' x q m := by
  obtain ⟨s, a, d, h1, h2⟩ := h
  exact ⟨s, a, d, h1.below hb, h2⟩
theorem PartAt.row {W W' : World} {V cap : Nat} {x : Value} {q : Rat} {m : Nat} (h : PartAt W x q m) (hr : SRow W V cap) (hg : W.grownBy W' (some V)) : PartAt W' x q m := by
  obtain ⟨s, a, d, h1, h2⟩ := h
  exact ⟨s, a, d, ratAt_row hr hg h1, h2⟩
theorem PartAt.is {W : World} {x : Value} {q : Rat} {m : Nat} (h : PartAt W x q m) (hm : m ≤ 1000) : RatIs W x q 21 := by
  obtain ⟨s, a, d, h1, h2, h3, h4, h5⟩ := h
  have e : B64 ^ 21 = B64 * B64 ^ 20 := by rw [Nat.pow_succ, Nat.mul_comm]
  have h6 : m * B64 ^ 20 ≤ B64 * B64 ^ 20 := Nat.mul_le_mul_right _ (by rw [B64_eq]; omega)
  have h7 : 1 * B64 ^ 20 ≤ B64 * B64 ^ 20 := Nat.mul_le_mul_right _ (by rw [B64_eq]; omega)
  exact ⟨s, a, d, h1, h2, h3, by rw [e]; omega, by rw [e]; omega⟩
end Go.Proofs.YtoegbjmoecbjdaaGreatDoor
namespace Go.Proofs.YtoegbjmoecbjdaaGreatDoor
open Go.RowKit Big
open Go.Lib Go.Shelf
theorem sumQ_set : ∀ (l : List Rat) (k : Nat) (q : Rat), k < l.length → sumQ (l.set k (l.getD k 0 + q)) = sumQ l + q := by
  intro l
  induction l with
  | nil => intro k q h; simp at h
  | cons a l ih =>
    intro k q h
    cases k with
    | zero => simp only [List.set_cons_zero, sumQ, List.getD_cons_zero]; rw [Rat.add_assoc, Rat.add_comm q, ← Rat.add_assoc]
    | succ k => simp only [List.set_cons_succ, sumQ, List.getD_cons_succ]; rw [ih k q (by simpa using h), Rat.add_assoc]
theorem sumQ_take {l : List Rat} {i : Nat} (h : i < l.length) : sumQ (l.take (i + 1)) = sumQ (l.take i) + l.getD i 0 := by
  rw [List.take_succ_eq_append_getElem h, sumQ_append, List.getD_eq_getElem?_getD, List.getElem?_eq_getElem h]
  simp [sumQ, Rat.add_zero]
theorem SRow.lt {W : World} {V cap : Nat} (h : SRow W V cap) : V < W.heap.size := by
  obtain ⟨cur, hV, -⟩ := h
  exact (Array.getElem?_eq_some_iff.1 hV).1
theorem SRow.below {W W' : World} {V cap : Nat} (h : SRow W V cap) (hb : Below W.heap.size W W') : SRow W' V cap := by
  have hl := h.lt
  obtain ⟨cur, hV, h2⟩ := h
  exact ⟨cur, (hb.block V hl).trans hV, h2⟩
theorem AtC.below {W W' : World} {V i cap : Nat} {x : C7} (h : AtC W V i x) (hr : SRow W V cap) (hb : Below W.heap.size W W') : AtC W' V i x :=
  AtC.of (hr.below hb) fun c hc => (hb.cell (p := ⟨V, i * 3 + c, none⟩) hr.lt).trans (h c hc).1
structure TI (W1 : World) (V cap n i m : Nat) (h : Fin n → C7) (qs : List Rat) (W : World) : Prop where
  below : Below W1.heap.size W1 W
  row : SRow W V cap
  rest : ∀ j : Fin n, i ≤ j.1 → AtC W V j.1 (h j)
  parts : ∃ (ps : Nat → C7) (rs : List Rat), rs.length = m ∧ sumQ rs = sumQ (qs.take i) ∧ ∀ k, k < m → AtC W V k (ps k) ∧ PartAt W (valC (ps k)) (rs.getD k 0) i
theorem TI.next {W1 W W' : World} {V cap n i m : Nat} {h : Fin n → C7} {qs : List Rat} (H : TI W1 V cap n i m h qs W) (hb : Below W.heap.size W W') : TI W1 V cap n i m h qs W' := by
  obtain ⟨ps, rs, h1, h2, h3⟩ := H.parts
  exact ⟨H.below.trans (hb.mono H.below.size), H.row.below hb, fun j hj => (H.rest j hj).below H.row hb, ps, rs, h1, h2, fun k hk => ⟨(h3 k hk).1.below H.row hb, (h3 k hk).2.below hb⟩⟩
theorem TI.append {W1 W W' : World} {V cap n i m : Nat} {h : Fin n → C7} {qs : List Rat} (H : TI W1 V cap n i m h qs W) (hV : W1.heap.size ≤ V) (hm : m ≤ i) (hi : i < n) (hl : qs.length = n) (hq : RatIs W (valC (h ⟨i, hi⟩)) (qs.getD i 0) 20)
    (hr : SRow W' V cap) (ha : AtC W' V m (h ⟨i, hi⟩)) (hg : W.grownBy W' (some V)) (ho : ∀ j y, j ≠ m → AtC W V j y → AtC W' V j y) : TI W1 V cap n (i + 1) (m + 1) h qs W' := by
  obtain ⟨ps, rs, h1, h2, h3⟩ := H.parts
  refine ⟨H.below.grown hg H.below.size (fun k hk => by injection hk with hk; omega), hr, fun j hj => ho _ _ (by omega) (H.rest j (by omega)), fun k => if k = m then h ⟨i, hi⟩ else ps k, rs ++ [qs.getD i 0], by rw [List.length_append, h1]; rfl, ?_, fun k hk => ?_⟩
  · rw [sumQ_append, h2, sumQ_take (by omega)]; simp [sumQ, Rat.add_zero]
  · by_cases hkm : k = m
    · subst hkm
      dsimp only
      rw [if_pos rfl, List.getD_eq_getElem?_getD, List.getElem?_append_right (by omega), h1, Nat.sub_self]
      exact ⟨ha, (PartAt.first (rat_row H.row hg hq) (by omega))⟩
    · dsimp only
      rw [if_neg hkm, List.getD_eq_getElem?_getD, List.getElem?_append_left (by omega), ← List.getD_eq_getElem?_getD]
      have := h3 k (by omega)
      exact ⟨ho _ _ hkm this.1, (this.2.row H.row hg).more (by omega)⟩
theorem TI.merge {W1 W W' : World} {V cap n i k : Nat} {h : Fin n → C7} {qs : List Rat} {y : C7} {r : Rat} (H : TI W1 V cap n i (k + 1) h qs W) (hV : W1.heap.size ≤ V) (hm : k + 1 ≤ i) (hi : i < n) (hl : qs.length = n)
    (rs : List Rat) (ps : Nat → C7) (h1 : rs.length = k + 1) (h2 : sumQ rs = sumQ (qs.take i)) (h3 : ∀ j, j < k + 1 → AtC W V j (ps j) ∧ PartAt W (valC (ps j)) (rs.getD j 0) i) (hr' : r = rs.getD k 0)
    (hy : PartAt W (valC y) (r + qs.getD i 0) (i + 1)) (hr : SRow W' V cap) (ha : AtC W' V k y) (hg : W.grownBy W' (some V)) (ho : ∀ j y, j ≠ k → AtC W V j y → AtC W' V j y) : TI W1 V cap n (i + 1) (k + 1) h qs W' := by
  subst hr'
  refine ⟨H.below.grown hg H.below.size (fun k hk => by injection hk with hk; omega), hr, fun j hj => ho _ _ (by omega) (H.rest j (by omega)), fun j => if j = k then y else ps j, rs.set k (rs.getD k 0 + qs.getD i 0), by rw [List.length_set, h1], ?_, fun j hj => ?_⟩
  · rw [sumQ_set _ _ _ (by omega), h2, sumQ_take (by omega)]
  · by_cases hjk : j = k
    · subst hjk
      dsimp only
      rw [if_pos rfl, show (rs.set j (rs.getD j 0 + qs.getD i 0)).getD j 0 = rs.getD j 0 + qs.getD i 0 from by rw [List.getD_eq_getElem?_getD, List.getElem?_set_self (by omega)]; rfl]
      exact ⟨ha, hy.row H.row hg⟩
    · dsimp only
      rw [if_neg hjk, List.getD_eq_getElem?_getD, List.getElem?_set_ne (fun e => hjk e.symm), ← List.getD_eq_getElem?_getD]
      have := h3 j hj
      exact ⟨ho _ _ hjk this.1, (this.2.row H.row hg).more (by omega)⟩
theorem PartAt.sum {q r : Rat} {i a d c : Nat} {s t : Bool} (hq : ratv s a d = q) (ha : a < i * B64 ^ 20) (hdl : d < B64 ^ 20) (hc : c < B64 ^ 20)  (hr : ratv t c d = r) {W' : World} {z : Value} {u : Bool} {n' m' : Nat} (hz : RatAt W' z u n' m') (hm0 : 0 < m') (hv : ratv u n' m' = ratv s a d + ratv t c d) (hn : n' ≤ (addB a d c d).1) (hm : m' = (addB a d c d).2) : PartAt W' z (q + r) (i + 1) := by
  unfold addB at hn hm
  rw [if_pos rfl] at hn hm
  refine ⟨u, n', m', hz, by rw [hv, hq, hr], hm0, ?_, by rw [hm]; exact hdl⟩
  rw [Nat.add_mul, Nat.one_mul]
  simp only at hn
  omega
end Go.Proofs.YtoegbjmoecbjdaaGreatDoor
