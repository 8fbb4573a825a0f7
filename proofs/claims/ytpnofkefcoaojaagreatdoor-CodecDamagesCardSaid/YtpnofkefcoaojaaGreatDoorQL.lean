/- Texts of units: scanExponent. Texts of units: scanExponent at every text. Texts of units: scanSymbol. Texts of units: scanSymbol at every text; Parse. -/
import Derived.Test.YtpnofkefcoaojaaGreatDoorQH
set_option maxHeartbeats 1600000
set_option maxRecDepth 100000
namespace Go.Proofs.YtpnofkefcoaojaaGreatDoor
open Go.RowKit Go.Lib Big
theorem satT_snoc (l : List UInt8) (c : UInt8) : satT (l ++ [c]) = if satT l ≤ 12 then satT l * 10 + ((c.toNat : Int) - 48) else satT l := by
  unfold satT; rw [List.foldl_append]; rfl
theorem tw_take (p : UInt8 → Bool) (l : List UInt8) (j : Nat) (hj : j ≤ (l.takeWhile p).length) : (l.take j).all p = true := by
  induction l generalizing j with
  | nil => simp
  | cons x l ih =>
    cases j with
    | zero => simp
    | succ j =>
      rw [List.takeWhile_cons] at hj
      by_cases hx : p x = true
      · rw [if_pos hx, List.length_cons] at hj
        rw [List.take_succ_cons, List.all_cons, hx, ih j (by omega)]; rfl
      · rw [if_neg hx] at hj; simp at hj
structure ExpoAt (s : ByteArray) (st D : Nat) : Prop where
  size : st + D ≤ s.size
  cnt : cntD (s.data.toList.drop st) = D
theorem ExpoAt.step {s : ByteArray} {st D k : Nat} (h : ExpoAt s st D) (h1 : st ≤ k) (h2 : k < st + D) : 48 ≤ (s[k]'(by have := h.size; omega)).toNat ∧ (s[k]'(by have := h.size; omega)).toNat ≤ 57 ∧
    satT ((s.data.toList.drop st).take (k + 1 - st)) = if satT ((s.data.toList.drop st).take (k - st)) ≤ 12 then satT ((s.data.toList.drop st).take (k - st)) * 10 + (((s[k]'(by have := h.size; omega)).toNat : Int) - 48) else satT ((s.data.toList.drop st).take (k - st)) := by
  have hs := h.size
  have hk : k - st < (s.data.toList.drop st).length := by simp; omega
  have hc := h.cnt
  have hall := tw_take isDig (s.data.toList.drop st) (k - st + 1) (by unfold cntD at hc; omega)
  rw [List.take_succ_eq_append_getElem hk, List.all_append, Bool.and_eq_true] at hall
  have hd : isDig ((s.data.toList.drop st)[k - st]) = true := by simpa using hall.2
  have he : (s.data.toList.drop st)[k - st] = s[k]'(by omega) := by
    rw [List.getElem_drop]
    have : st + (k - st) = k := by omega
    simp only [this]
    rfl
  rw [he] at hd
  unfold isDig at hd
  simp at hd
  refine ⟨hd.1, hd.2, ?_⟩
  rw [show k + 1 - st = k - st + 1 from by omega, List.take_succ_eq_append_getElem hk, satT_snoc, he]
end Go.Proofs.YtpnofkefcoaojaaGreatDoor
set_option maxHeartbeats 1600000
set_option maxRecDepth 100000
namespace Go.Proofs.YtpnofkefcoaojaaGreatDoor
open Go.RowKit Go.Lib Big
def NRow (w : World) (base : Nat) (e : TypeId) (size : Nat) (v : Value) (n : Nat) (xs : List Value) : Prop :=
  w.ownsRow base e size v n xs ∧ ∀ g k cap, v = .slice (some ⟨g, 0, none⟩) k cap → ∀ cur t f, w.heap[g]? = some (.cells cur t f) → ∀ u ∈ cur.toList, NoU u
theorem NRow.nil (w : World) (base : Nat) (e : TypeId) (size : Nat) : NRow w base e size (.slice none 0 0) 0 [] :=
  ⟨World.ownsRow_nil w base e size, fun g k cap h => by cases h⟩
section
variable {P : Program}
end
def FacC (W : World) (cs : List Value) (f : FacT) : Prop := ∃ b p n c q m d p0 p1 p2 p3 p4 p5 p6, cs = [.bool b, .slice p n c, .slice q m d, .int .i64 p0, .int .i64 p1, .int .i64 p2, .int .i64 p3, .int .i64 p4, .int .i64 p5, .int .i64 p6, .int .i64 f.e] ∧ RatIs W (.agg #[.bool b, .slice p n c, .slice q m d]) f.v 40 ∧ [p0, p1, p2, p3, p4, p5, p6] = f.ps
structure FacsIn (W : World) (base : Nat) (v : Value) (css : List (List Value)) (fs : List FacT) : Prop where
  row : NRow W base 246 11 v fs.length css.flatten
  len : css.length = fs.length
  each : ∀ j (h : j < css.length) (h' : j < fs.length), FacC W css[j] fs[j]
theorem NRow.below {W W' : World} {base : Nat} {e : TypeId} {size : Nat} {v : Value} {n : Nat} {xs : List Value} (h : NRow W base e size v n xs) (hb : Below W.heap.size W W') : NRow W' base e size v n xs := by
  obtain ⟨⟨h1, h2⟩, h3⟩ := h
  rcases h2 with h2 | ⟨g, cap, cur, rfl, hbg, hg, hr⟩
  · refine ⟨⟨h1, .inl h2⟩, ?_⟩
    intro g k cap hv
    rw [h2.1] at hv; cases hv
  · have hlt := (Array.getElem?_eq_some_iff.1 hg).1
    have hg' := (hb.block g hlt).trans hg
    refine ⟨⟨h1, .inr ⟨g, cap, cur, rfl, hbg, hg', hr⟩⟩, ?_⟩
    intro g' k cap' hv cur' t f hh u hu
    cases hv
    rw [hg'] at hh; cases hh
    exact h3 _ _ _ rfl _ _ _ hg u hu
theorem nat_grown {W W' : World} {base : Nat} {e : TypeId} {size : Nat} {v : Value} {n : Nat} {xs : List Value} (h : NRow W base e size v n xs) (hg : W.grownBy W' v.ownBlock) {x : Value} {k : Nat} (hx : NatAt W x k) : NatAt W' x k := by
  obtain ⟨p, m, c', l, h1, h2, hr, h4⟩ := hx
  refine ⟨p, m, c', l, h1, h2, ⟨hr.len, ?_⟩, h4⟩
  rcases hr.cell with h0 | ⟨b, off, hp, hlt, hcl⟩
  · exact .inl h0
  · by_cases hm : m = 0
    · exact .inl hm
    refine .inr ⟨b, off, hp, Nat.lt_of_lt_of_le hlt hg.size, fun j hj => ?_⟩
    have hne : some b ≠ v.ownBlock := by
      intro hb
      obtain ⟨⟨-, h5⟩, h6⟩ := h
      rcases h5 with ⟨rfl, -⟩ | ⟨g, cap, cur, rfl, -, hgg, -⟩
      · cases hb
      · simp only [Value.ownBlock, Option.some.injEq] at hb
        subst hb
        have h7 := hcl 0 (by omega)
        rw [ceh hgg] at h7
        have : Value.int .u64 ((l.getD 0 0 : Nat) : Int) ∈ cur.toList := by
          obtain ⟨hi, he⟩ := Array.getElem?_eq_some_iff.1 h7
          rw [← he]; simp
        exact h6 _ _ _ rfl _ _ _ hgg _ this _ rfl
    rw [← hcl j hj]
    exact World.cell?_of_block (w := W) (hg.block b hlt hne)
theorem rat_grown {W W' : World} {base : Nat} {e : TypeId} {size : Nat} {v : Value} {n : Nat} {xs : List Value} (h : NRow W base e size v n xs) (hg : W.grownBy W' v.ownBlock) {x : Value} {q : Rat} {K : Nat} (hx : RatIs W x q K) : RatIs W' x q K := by
  obtain ⟨s, m, n, ⟨u, v, rfl, hu, hv, hs⟩, hr⟩ := hx
  exact ⟨s, m, n, ⟨u, v, rfl, nat_grown h hg hu, nat_grown h hg hv, hs⟩, hr⟩
theorem FacC.below {W W' : World} {cs : List Value} {f : FacT} (h : FacC W cs f) (hb : Below W.heap.size W W') : FacC W' cs f := by
  obtain ⟨b, p, n, c, q, m, d, p0, p1, p2, p3, p4, p5, p6, h1, h2, h3⟩ := h
  exact ⟨b, p, n, c, q, m, d, p0, p1, p2, p3, p4, p5, p6, h1, h2.below hb, h3⟩
theorem FacsIn.below {W W' : World} {base : Nat} {v : Value} {css : List (List Value)} {fs : List FacT} (h : FacsIn W base v css fs) (hb : Below W.heap.size W W') : FacsIn W' base v css fs :=
  ⟨h.row.below hb, h.len, fun j h1 h2 => (h.each j h1 h2).below hb⟩
theorem FacsIn.nil (W : World) (base : Nat) : FacsIn W base (.slice none 0 0) [] [] := ⟨NRow.nil W base 246 11, rfl, fun j h => by simp at h⟩
theorem FacsIn.more {W W' : World} {base : Nat} {v v' : Value} {css : List (List Value)} {fs : List FacT} {cs : List Value} {f : FacT} (h : FacsIn W base v css fs) (hc : FacC W cs f) (hr : NRow W' base 246 11 v' (fs.length + 1) (css.flatten ++ cs)) (hg : W.grownBy W' v.ownBlock) : FacsIn W' base v' (css ++ [cs]) (fs ++ [f]) := by
  have keep : ∀ {cs f}, FacC W cs f → FacC W' cs f := by
    rintro cs f ⟨b, p, n, c, q, m, d, p0, p1, p2, p3, p4, p5, p6, h1, h2, h3⟩
    exact ⟨b, p, n, c, q, m, d, p0, p1, p2, p3, p4, p5, p6, h1, rat_grown h.row hg h2, h3⟩
  refine ⟨?_, by simp [h.len], ?_⟩
  · rw [List.flatten_append, List.length_append]
    simpa using hr
  · intro j h1 h2
    by_cases hj : j < css.length
    · have hj' : j < fs.length := by rw [← h.len]; exact hj
      rw [List.getElem_append_left hj, List.getElem_append_left hj']
      exact keep (h.each j hj hj')
    · have e1 : j = css.length := by simp at h1; omega
      subst e1
      have : (fs ++ [f])[css.length] = f := by simp [h.len]
      rw [this]
      simp only [List.getElem_concat_length]
      exact keep hc
end Go.Proofs.YtpnofkefcoaojaaGreatDoor
set_option maxHeartbeats 3200000
set_option maxRecDepth 100000
namespace Go.Proofs.YtpnofkefcoaojaaGreatDoor
open Go.RowKit Big
open Go.Lib
structure ReadInv (l : List UInt8) (e : Nat) (z : Int) (L : List Nat) : Prop where
  le : e ≤ l.length
  at_ : (z = e ∧ 9 * L.length + e = l.length) ∨ (z < 0 ∧ e = 0)
  dig : Dig B9 L
  eq : val B9 L = dval (l.drop e)
  len : L.length ≤ l.length
theorem chunk_lt (l : List UInt8) (st i : Nat) (ha : l.all isDig = true) : dval ((l.drop st).take (i - st)) < 10 ^ (i - st) := by
  have h1 : ((l.drop st).take (i - st)).all isDig = true := by
    rw [List.all_eq_true] at ha ⊢
    exact fun x hx => ha x (List.mem_of_mem_drop (List.mem_of_mem_take hx))
  have h2 := dval_lt _ h1
  have h3 : 10 ^ ((l.drop st).take (i - st)).length ≤ 10 ^ (i - st) := Nat.pow_le_pow_right (by omega) (by rw [List.length_take]; omega)
  omega
theorem ReadInv.next {l : List UInt8} {e st : Nat} {z : Int} {L : List Nat} (h : ReadInv l e z L) (ha : l.all isDig = true) (he : 0 < e) (hst : st = e - 9) :
    ReadInv l st (z - 9) (L ++ [dval ((l.drop st).take (e - st))]) := by
  have hle := h.le
  have hat : z = e ∧ 9 * L.length + e = l.length := h.at_.resolve_right fun h => by omega
  have hc := chunk_lt l st e ha
  have h9 : (10 : Nat) ^ (e - st) ≤ 10 ^ 9 := Nat.pow_le_pow_right (by omega) (by omega)
  have e9 := B9_eq
  refine ⟨by omega, ?_, h.dig.append (Dig.one (by omega)), ?_, by rw [List.length_append]; simp; omega⟩
  · by_cases h10 : 9 ≤ e
    · exact .inl ⟨by omega, by rw [List.length_append]; simp; omega⟩
    · exact .inr ⟨by omega, by omega⟩
  · have e1 : l.drop st = (l.drop st).take (e - st) ++ l.drop e := by
      conv => lhs; rw [← List.take_append_drop (e - st) (l.drop st)]
      rw [List.drop_drop, show st + (e - st) = e from by omega]
    rw [val_snoc, h.eq]
    conv => rhs; rw [e1]
    rw [dval_append, List.length_drop, B9_pow, show 9 * L.length = l.length - e from by omega, Nat.mul_comm, Nat.add_comm]
structure Bx (B : Nat) (c : Array Value) (w0 W : World) : Prop where
  size : B + 1 ≤ W.heap.size
  below : Below w0.heap.size w0 W
  x : W.heap[B]? = some (.cells c 59 (0, 0))
theorem Bx.start (w : World) (c : Array Value) : Bx w.heap.size c w (w.alloc (.cells c 59)) := ⟨by simp, below_alloc9 _ _, heap_new _ _⟩
theorem Bx.next {B : Nat} {c : Array Value} {w0 W W' : World} (h : Bx B c w0 W) (hb : Below W.heap.size W W') : Bx B c w0 W' := ⟨Nat.le_trans h.size hb.size, h.below.trans (hb.mono h.below.size), (hb.block _ (by have := h.size; omega)).trans h.x⟩
theorem Bx.drew {B : Nat} {c : Array Value} {w0 W : World} (h : Bx B c w0 W) : Bx B c w0 W.drew := ⟨h.size, h.below.drew, h.x⟩
theorem Bx.all {B : Nat} {a b c : Value} {w0 W : World} (h : Bx B #[a, b, c] w0 W) : Bx B #[a, b, c] w0 W ∧ W.cell? ⟨B, 0, none⟩ = some a ∧ W.cell? ⟨B, 1, none⟩ = some b ∧ W.cell? ⟨B, 2, none⟩ = some c :=
  ⟨h, ceh h.x 0, ceh h.x 1, ceh h.x 2⟩
end Go.Proofs.YtpnofkefcoaojaaGreatDoor
set_option maxHeartbeats 3200000
set_option maxRecDepth 100000
namespace Go.Proofs.YtpnofkefcoaojaaGreatDoor
open Go.RowKit Big
open Go.Lib
def iterAt (W : World) (g : Nat) (s : ByteArray) (pos : Nat) : World := { W with heap := W.heap.setIfInBounds g (.stringIter s pos) }
theorem iterAt_below (W : World) (g : Nat) (s : ByteArray) (pos : Nat) {B : Nat} (hB : B ≤ g) : Below B W (iterAt W g s pos) :=
  ⟨rfl, rfl, rfl, by simp [iterAt], fun k hk => by simp only [iterAt]; rw [Array.getElem?_setIfInBounds_ne (by omega)]⟩
theorem iterAt_new (W : World) (g : Nat) (s : ByteArray) (pos : Nat) (h : g < W.heap.size) : (iterAt W g s pos).heap[g]? = some (.stringIter s pos) := by
  simp [iterAt, h]
structure DotAt (w wr : World) (g : Nat) (mo : ByteArray) (pos : Nat) (dv : Value) : Prop where
  nat : Nat9 wr dv (10 ^ pos)
  it : wr.heap[g]? = some (.stringIter mo pos)
  res : Resa w.heap.size w wr
  gt : w.heap.size < g
  le : pos ≤ mo.size
theorem DotAt.step {w wr w5 : World} {g pos : Nat} {mo : ByteArray} {dv d2 : Value} (h : DotAt w wr g mo pos dv) (hlt : pos < mo.size) (hb : Below (iterAt wr g mo (pos + 1)).heap.size (iterAt wr g mo (pos + 1)) w5) (h2 : Nat9 w5 d2 (10 ^ (pos + 1))) : DotAt w w5 g mo (pos + 1) d2 := by
  have hg := (Array.getElem?_eq_some_iff.1 h.it).1
  have hs : (iterAt wr g mo (pos + 1)).heap.size = wr.heap.size := by simp [iterAt]
  have hr : Resa w.heap.size w (iterAt wr g mo (pos + 1)) := by
    refine ⟨by rw [hs]; exact h.res.size, h.res.below.trans (iterAt_below _ _ _ _ (Nat.le_of_lt h.gt)), ?_⟩
    obtain ⟨z0, z1, z2, hz, hn⟩ := h.res.z
    refine ⟨z0, z1, z2, ?_, hn⟩
    rw [← hz]; simp only [iterAt]; rw [Array.getElem?_setIfInBounds_ne (by have := h.gt; omega)]
  refine ⟨h2, ?_, hr.next hb, h.gt, hlt⟩
  rw [hb.block g (by rw [hs]; exact hg)]
  exact iterAt_new _ _ _ _ hg
end Go.Proofs.YtpnofkefcoaojaaGreatDoor
set_option maxHeartbeats 3200000
set_option maxRecDepth 100000
namespace Go.Proofs.YtpnofkefcoaojaaGreatDoor
open Go.RowKit Big
open Go.Lib
def QPostC (q : Rat) (w : World) (e : Ending) (w' : World) : Prop := ∃ sb p n c p2 n2 c2, e = .returned (.agg #[.bool sb, .slice p n c, .slice p2 n2 c2]) ∧ QAt w' (.agg #[.bool sb, .slice p n c, .slice p2 n2 c2]) q ∧ Below w.heap.size w w'
theorem QPost.c {q : Rat} {w w' : World} {e : Ending} (h : QPost q w e w') : QPostC q w e w' := by
  obtain ⟨x, rfl, hx, hb⟩ := h
  obtain ⟨p, n, c, p2, n2, c2, rfl, h1, h2⟩ := hx.slices
  exact ⟨_, p, n, c, p2, n2, c2, rfl, hx, hb⟩
theorem Keep.put3 {w0 W : World} {L : List Blk} {g : Nat} {z0 z1 z2 : Value} {T : TypeId} (h : Keep w0 W ((g, #[z0, z1, z2], T) :: L)) (hg : w0.heap.size ≤ g) (hne : ∀ x ∈ L, x.1 ≠ g) (a b c : Value) :
    Keep w0 (((W.setCell ⟨g, 0, none⟩ a).setCell ⟨g, 1, none⟩ b).setCell ⟨g, 2, none⟩ c) ((g, #[a, b, c], T) :: L) :=
  ((h.put hg hne 0 a).put hg hne 1 b).put hg hne 2 c
end Go.Proofs.YtpnofkefcoaojaaGreatDoor
namespace Go.Proofs.YtpnofkefcoaojaaGreatDoor
open Go.RowKit Big
open Go.Lib
theorem QAt.put3 {B : Nat} {w0 W : World} {x : Value} {r : Rat} (hq : QAt W x r) (h : Resa B w0 W) (hB : w0.heap.size ≤ B) (a : Bool) (p q : Option Addr) (n c m d : Nat) : QAt (((W.setCell ⟨B, 0, none⟩ (.bool a)).setCell ⟨B, 1, none⟩ (.slice p n c)).setCell ⟨B, 2, none⟩ (.slice q m d)) x r := by
  obtain ⟨u, v, rfl, hu, hv⟩ := hq
  exact ⟨u, v, rfl, h.nat3 hB hu a p q n c m d, hv.imp (fun h2 => h.nat3 hB h2 a p q n c m d) fun h2 => ⟨h.nat3 hB h2.1 a p q n c m d, h2.2⟩⟩
end Go.Proofs.YtpnofkefcoaojaaGreatDoor
namespace Go.Proofs.YtpnofkefcoaojaaGreatDoor
open Go.RowKit Big
open Go.Lib
theorem lt_of_ratv {K : Nat} {q : Rat} {s : Bool} {a b : Nat} (h : ratv s a b = q) (ha : a < B9 ^ K) (hb : b < B9 ^ K) (hb0 : 0 < b) : QLt K q := by
  rw [← h, ← ratv_drop]
  exact ratv_lt _ ha hb hb0 (by intro h; simp at h; omega)
theorem plus_num (a b : Rat) : ∃ (s : Bool) (n : Nat), ratv s n (a.den * b.den) = a + b ∧ n ≤ a.num.natAbs * b.den + b.num.natAbs * a.den := by
  have e1 : ratv (decide (a.num < 0)) (a.num.natAbs * b.den) (a.den * b.den) = a := by rw [ratv_scale a.den_pos b.den_pos, ratv_self]
  have e2 : ratv (decide (b.num < 0)) (b.num.natAbs * a.den) (a.den * b.den) = b := by rw [Nat.mul_comm a.den b.den, ratv_scale b.den_pos a.den_pos, ratv_self]
  by_cases h : decide (a.num < 0) = decide (b.num < 0)
  · rw [← h] at e2
    exact ⟨_, _, by rw [ratv_plus, e1, e2], Nat.le_refl _⟩
  · by_cases hle : b.num.natAbs * a.den ≤ a.num.natAbs * b.den
    · exact ⟨_, _, by rw [ratv_minus h hle, e1, e2], by omega⟩
    · exact ⟨_, _, by rw [ratv_minus (fun e => h e.symm) (Nat.le_of_lt (Nat.lt_of_not_le hle)), e1, e2, Rat.add_comm], by omega⟩
theorem QLt.add {K L : Nat} {a b : Rat} (ha : QLt K a) (hb : QLt L b) : QLt (K + L + 1) (a + b) := by
  obtain ⟨s, n, h1, h2⟩ := plus_num a b
  have h3 := pow9_mul ha.1 hb.2
  have h4 := pow9_mul hb.1 ha.2
  rw [Nat.add_comm L K] at h4
  have h5 : B9 ^ (K + L + 1) = B9 ^ (K + L) * 1000000000 := by rw [Nat.pow_succ, B9_eq]
  exact lt_of_ratv h1 (by omega) (pow9_mono (pow9_mul ha.2 hb.2) (by omega)) (Nat.mul_pos a.den_pos b.den_pos)
end Go.Proofs.YtpnofkefcoaojaaGreatDoor
