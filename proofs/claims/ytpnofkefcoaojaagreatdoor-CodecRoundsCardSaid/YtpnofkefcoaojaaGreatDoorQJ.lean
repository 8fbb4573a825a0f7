/- Texts of units: scanExponent. Texts of units: scanExponent at every text. Texts of units: scanSymbol. Texts of units: scanSymbol at every text; Parse. -/
import Derived.Test.YtpnofkefcoaojaaGreatDoorQH
set_option maxHeartbeats 1600000
set_option maxRecDepth 100000
namespace Go.Proofs.YtpnofkefcoaojaaGreatDoor
open Go.RowKit Go.Lib Big
theorem satT_snoc (l : List UInt8) (c : UInt8) : satT (l ++ [c]) = if satT l ≤ 12 then satT l * 10 + ((c.toNat : Int) - 48) else satT l := by
  unfold satT; rw [List.foldl_append]; rfl
theorem sat_bd (l : List UInt8) (h : l.all isDig = true) : 0 ≤ satT l ∧ satT l ≤ 129 := by
  suffices ∀ (n : Nat) (l : List UInt8), l.length = n → l.all isDig = true → 0 ≤ satT l ∧ satT l ≤ 129 from this l.length l rfl h
  intro n
  induction n with
  | zero => intro l hl _; rw [List.eq_nil_of_length_eq_zero hl]; exact ⟨by decide, by decide⟩
  | succ n ih =>
    intro l hl hd
    obtain ⟨m, c, rfl⟩ : ∃ m c, l = m ++ [c] := ⟨l.dropLast, l.getLast (by intro h; rw [h] at hl; simp at hl), (List.dropLast_concat_getLast _).symm⟩
    rw [List.all_append, Bool.and_eq_true] at hd
    obtain ⟨h1, h2⟩ := ih m (by simpa using hl) hd.1
    have hc : isDig c = true := by simpa using hd.2
    unfold isDig at hc
    simp at hc
    rw [satT_snoc]
    split <;> omega
theorem tw_take (p : UInt8 → Bool) (l : List UInt8) (j : Nat) (hj : j ≤ (l.takeWhile p).length) : (l.take j).all p = true := by
  induction l generalizing j with
  | nil => simp
  | cons x l ih =>
    cases j with
    | zero => simp
    | succ j =>
      rw [List.takeWhile_cons] at hj
      by_cases hx : p x = true
      · rw [if_pos hx, List.length_cons] at hj
        rw [List.take_succ_cons, List.all_cons, hx, ih j (by omega)]; rfl
      · rw [if_neg hx] at hj; simp at hj
structure ExpoAt (s : ByteArray) (st D : Nat) : Prop where
  size : st + D ≤ s.size
  cnt : cntD (s.data.toList.drop st) = D
theorem ExpoAt.step {s : ByteArray} {st D k : Nat} (h : ExpoAt s st D) (h1 : st ≤ k) (h2 : k < st + D) : 48 ≤ (s[k]'(by have := h.size; omega)).toNat ∧ (s[k]'(by have := h.size; omega)).toNat ≤ 57 ∧
    satT ((s.data.toList.drop st).take (k + 1 - st)) = if satT ((s.data.toList.drop st).take (k - st)) ≤ 12 then satT ((s.data.toList.drop st).take (k - st)) * 10 + (((s[k]'(by have := h.size; omega)).toNat : Int) - 48) else satT ((s.data.toList.drop st).take (k - st)) := by
  have hs := h.size
  have hk : k - st < (s.data.toList.drop st).length := by simp; omega
  have hc := h.cnt
  have hall := tw_take isDig (s.data.toList.drop st) (k - st + 1) (by unfold cntD at hc; omega)
  rw [List.take_succ_eq_append_getElem hk, List.all_append, Bool.and_eq_true] at hall
  have hd : isDig ((s.data.toList.drop st)[k - st]) = true := by simpa using hall.2
  have he : (s.data.toList.drop st)[k - st] = s[k]'(by omega) := by
    rw [List.getElem_drop]
    have : st + (k - st) = k := by omega
    simp only [this]
    rfl
  rw [he] at hd
  unfold isDig at hd
  simp at hd
  refine ⟨hd.1, hd.2, ?_⟩
  rw [show k + 1 - st = k - st + 1 from by omega, List.take_succ_eq_append_getElem hk, satT_snoc, he]
theorem ExpoAt.bd {s : ByteArray} {st D k : Nat} (h : ExpoAt s st D) (h2 : k ≤ st + D) : 0 ≤ satT ((s.data.toList.drop st).take (k - st)) ∧ satT ((s.data.toList.drop st).take (k - st)) ≤ 129 := by
  apply sat_bd
  have hc := h.cnt
  exact tw_take isDig _ _ (by unfold cntD at hc; omega)
end Go.Proofs.YtpnofkefcoaojaaGreatDoor
set_option maxHeartbeats 1600000
set_option maxRecDepth 100000
namespace Go.Proofs.YtpnofkefcoaojaaGreatDoor
open Go.RowKit Go.Lib Big
def NRow (w : World) (base : Nat) (e : TypeId) (size : Nat) (v : Value) (n : Nat) (xs : List Value) : Prop :=
  w.ownsRow base e size v n xs ∧ ∀ g k cap, v = .slice (some ⟨g, 0, none⟩) k cap → ∀ cur t f, w.heap[g]? = some (.cells cur t f) → ∀ u ∈ cur.toList, NoU u
theorem NRow.nil (w : World) (base : Nat) (e : TypeId) (size : Nat) : NRow w base e size (.slice none 0 0) 0 [] :=
  ⟨World.ownsRow_nil w base e size, fun g k cap h => by cases h⟩
section
variable {P : Program}
end
def FacC (W : World) (cs : List Value) (f : FacT) : Prop := ∃ b p n c q m d p0 p1 p2 p3 p4 p5 p6, cs = [.bool b, .slice p n c, .slice q m d, .int .i64 p0, .int .i64 p1, .int .i64 p2, .int .i64 p3, .int .i64 p4, .int .i64 p5, .int .i64 p6, .int .i64 f.e] ∧ RatIs W (.agg #[.bool b, .slice p n c, .slice q m d]) f.v 40 ∧ [p0, p1, p2, p3, p4, p5, p6] = f.ps
structure FacsIn (W : World) (base : Nat) (v : Value) (css : List (List Value)) (fs : List FacT) : Prop where
  row : NRow W base 246 11 v fs.length css.flatten
  len : css.length = fs.length
  each : ∀ j (h : j < css.length) (h' : j < fs.length), FacC W css[j] fs[j]
theorem NRow.below {W W' : World} {base : Nat} {e : TypeId} {size : Nat} {v : Value} {n : Nat} {xs : List Value} (h : NRow W base e size v n xs) (hb : Below W.heap.size W W') : NRow W' base e size v n xs := by
  obtain ⟨⟨h1, h2⟩, h3⟩ := h
  rcases h2 with h2 | ⟨g, cap, cur, rfl, hbg, hg, hr⟩
  · refine ⟨⟨h1, .inl h2⟩, ?_⟩
    intro g k cap hv
    rw [h2.1] at hv; cases hv
  · have hlt := (Array.getElem?_eq_some_iff.1 hg).1
    have hg' := (hb.block g hlt).trans hg
    refine ⟨⟨h1, .inr ⟨g, cap, cur, rfl, hbg, hg', hr⟩⟩, ?_⟩
    intro g' k cap' hv cur' t f hh u hu
    cases hv
    rw [hg'] at hh; cases hh
    exact h3 _ _ _ rfl _ _ _ hg u hu
theorem nat_grown {W W' : World} {base : Nat} {e : TypeId} {size : Nat} {v : Value} {n : Nat} {xs : List Value} (h : NRow W base e size v n xs) (hg : W.grownBy W' v.ownBlock) {x : Value} {k : Nat} (hx : NatAt W x k) : NatAt W' x k := by
  obtain ⟨p, m, c', l, h1, h2, hr, h4⟩ := hx
  refine ⟨p, m, c', l, h1, h2, ⟨hr.len, ?_⟩, h4⟩
  rcases hr.cell with h0 | ⟨b, off, hp, hlt, hcl⟩
  · exact .inl h0
  · by_cases hm : m = 0
    · exact .inl hm
    refine .inr ⟨b, off, hp, Nat.lt_of_lt_of_le hlt hg.size, fun j hj => ?_⟩
    have hne : some b ≠ v.ownBlock := by
      intro hb
      obtain ⟨⟨-, h5⟩, h6⟩ := h
      rcases h5 with ⟨rfl, -⟩ | ⟨g, cap, cur, rfl, -, hgg, -⟩
      · cases hb
      · simp only [Value.ownBlock, Option.some.injEq] at hb
        subst hb
        have h7 := hcl 0 (by omega)
        rw [ceh hgg] at h7
        have : Value.int .u64 ((l.getD 0 0 : Nat) : Int) ∈ cur.toList := by
          obtain ⟨hi, he⟩ := Array.getElem?_eq_some_iff.1 h7
          rw [← he]; simp
        exact h6 _ _ _ rfl _ _ _ hgg _ this _ rfl
    rw [← hcl j hj]
    exact World.cell?_of_block (w := W) (hg.block b hlt hne)
theorem rat_grown {W W' : World} {base : Nat} {e : TypeId} {size : Nat} {v : Value} {n : Nat} {xs : List Value} (h : NRow W base e size v n xs) (hg : W.grownBy W' v.ownBlock) {x : Value} {q : Rat} {K : Nat} (hx : RatIs W x q K) : RatIs W' x q K := by
  obtain ⟨s, m, n, ⟨u, v, rfl, hu, hv, hs⟩, hr⟩ := hx
  exact ⟨s, m, n, ⟨u, v, rfl, nat_grown h hg hu, nat_grown h hg hv, hs⟩, hr⟩
theorem FacC.below {W W' : World} {cs : List Value} {f : FacT} (h : FacC W cs f) (hb : Below W.heap.size W W') : FacC W' cs f := by
  obtain ⟨b, p, n, c, q, m, d, p0, p1, p2, p3, p4, p5, p6, h1, h2, h3⟩ := h
  exact ⟨b, p, n, c, q, m, d, p0, p1, p2, p3, p4, p5, p6, h1, h2.below hb, h3⟩
theorem FacsIn.below {W W' : World} {base : Nat} {v : Value} {css : List (List Value)} {fs : List FacT} (h : FacsIn W base v css fs) (hb : Below W.heap.size W W') : FacsIn W' base v css fs :=
  ⟨h.row.below hb, h.len, fun j h1 h2 => (h.each j h1 h2).below hb⟩
theorem FacsIn.nil (W : World) (base : Nat) : FacsIn W base (.slice none 0 0) [] [] := ⟨NRow.nil W base 246 11, rfl, fun j h => by simp at h⟩
theorem FacsIn.more {W W' : World} {base : Nat} {v v' : Value} {css : List (List Value)} {fs : List FacT} {cs : List Value} {f : FacT} (h : FacsIn W base v css fs) (hc : FacC W cs f) (hr : NRow W' base 246 11 v' (fs.length + 1) (css.flatten ++ cs)) (hg : W.grownBy W' v.ownBlock) : FacsIn W' base v' (css ++ [cs]) (fs ++ [f]) := by
  have keep : ∀ {cs f}, FacC W cs f → FacC W' cs f := by
    rintro cs f ⟨b, p, n, c, q, m, d, p0, p1, p2, p3, p4, p5, p6, h1, h2, h3⟩
    exact ⟨b, p, n, c, q, m, d, p0, p1, p2, p3, p4, p5, p6, h1, rat_grown h.row hg h2, h3⟩
  refine ⟨?_, by simp [h.len], ?_⟩
  · rw [List.flatten_append, List.length_append]
    simpa using hr
  · intro j h1 h2
    by_cases hj : j < css.length
    · have hj' : j < fs.length := by rw [← h.len]; exact hj
      rw [List.getElem_append_left hj, List.getElem_append_left hj']
      exact keep (h.each j hj hj')
    · have e1 : j = css.length := by simp at h1; omega
      subst e1
      have : (fs ++ [f])[css.length] = f := by simp [h.len]
      rw [this]
      simp only [List.getElem_concat_length]
      exact keep hc
end Go.Proofs.YtpnofkefcoaojaaGreatDoor
