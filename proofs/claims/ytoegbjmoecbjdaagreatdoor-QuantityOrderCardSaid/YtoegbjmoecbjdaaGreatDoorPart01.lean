/- Plain arithmetic of numbers written as lists of digits to a base, the least significant one first. Slices of uint64 in memory, read as lists of digits. -/
import Derived.Test.YtoegbjmoecbjdaaGreatDoorProg
import Derived.WalkKit
import Derived.WalkSpells
import Derived.WalkLawsBesides
import Derived.Lib.Hide
import Derived.Test.YtoegbjmoecbjdaaGreatDoorShelf
import Derived.Laws.Externs
import Derived.Shelf.Spec.BitsCarry
import Derived.Laws.CopyOwn
set_option maxRecDepth 100000
set_option maxHeartbeats 800000
namespace Go.Proofs.YtoegbjmoecbjdaaGreatDoor
theorem hiD {p : Prop} (h : p) : RowKit.Hid p := h
end Go.Proofs.YtoegbjmoecbjdaaGreatDoor
namespace Big
def val (B : Nat) : List Nat → Nat
  | [] => 0
  | x :: l => x + B * val B l
def Dig (B : Nat) (l : List Nat) : Prop := ∀ x, x ∈ l → x < B
def Canon (B : Nat) (l : List Nat) : Prop := Dig B l ∧ l.getLast? ≠ some 0
theorem val_nil (B : Nat) : val B [] = 0 := rfl
theorem val_cons (B x : Nat) (l : List Nat) : val B (x :: l) = x + B * val B l := rfl
theorem val_append (B : Nat) (a b : List Nat) : val B (a ++ b) = val B a + B ^ a.length * val B b := by
  induction a with
  | nil => simp [val]
  | cons x l ih => simp only [List.cons_append, val_cons, ih, List.length_cons, Nat.pow_succ]; grind
theorem val_snoc (B x : Nat) (a : List Nat) : val B (a ++ [x]) = val B a + B ^ a.length * x := by
  rw [val_append]; simp [val]
theorem val_zeros (B k : Nat) : val B (List.replicate k 0) = 0 := by
  induction k with
  | zero => rfl
  | succ k ih => simp [List.replicate_succ, val_cons, ih]
theorem Dig.nil (B : Nat) : Dig B [] := by intro x h; simp at h
theorem Dig.append {B : Nat} {a b : List Nat} (ha : Dig B a) (hb : Dig B b) : Dig B (a ++ b) := by
  intro x h; rcases List.mem_append.1 h with h | h
  · exact ha x h
  · exact hb x h
theorem Dig.left {B : Nat} {a b : List Nat} (h : Dig B (a ++ b)) : Dig B a := fun x hx => h x (by simp [hx])
theorem Dig.right {B : Nat} {a b : List Nat} (h : Dig B (a ++ b)) : Dig B b := fun x hx => h x (by simp [hx])
theorem Dig.take {B : Nat} {l : List Nat} (h : Dig B l) (k : Nat) : Dig B (l.take k) := fun x hx => h x (List.mem_of_mem_take hx)
theorem Dig.drop {B : Nat} {l : List Nat} (h : Dig B l) (k : Nat) : Dig B (l.drop k) := fun x hx => h x (List.mem_of_mem_drop hx)
theorem Dig.get {B : Nat} {l : List Nat} (h : Dig B l) (k : Nat) (hk : k < l.length) : l[k] < B := h _ (List.getElem_mem hk)
theorem Dig.getD {B : Nat} {l : List Nat} (h : Dig B l) (hB : 0 < B) (k : Nat) : l.getD k 0 < B := by
  by_cases hk : k < l.length
  · rw [List.getD_eq_getElem?_getD, List.getElem?_eq_getElem hk]; exact h.get k hk
  · rw [List.getD_eq_getElem?_getD, List.getElem?_eq_none (by omega)]; exact hB
theorem Dig.one {B x : Nat} (h : x < B) : Dig B [x] := by intro y hy; simp at hy; omega
theorem Dig.zeros {B : Nat} (hB : 0 < B) (k : Nat) : Dig B (List.replicate k 0) := by intro y hy; simp at hy; omega
theorem Dig.set {B : Nat} {l : List Nat} (h : Dig B l) (k x : Nat) (hx : x < B) : Dig B (l.set k x) := by
  intro y hy; rcases List.mem_or_eq_of_mem_set hy with h1 | h1
  · exact h y h1
  · omega
theorem val_lt {B : Nat} (l : List Nat) (h : Dig B l) : val B l < B ^ l.length := by
  induction l with
  | nil => simp [val]
  | cons x l ih =>
    have h1 := ih (fun y hy => h y (by simp [hy]))
    have h2 := h x (by simp)
    rw [val_cons, List.length_cons, Nat.pow_succ, Nat.mul_comm _ B]
    have h3 : B * (val B l + 1) ≤ B * B ^ l.length := Nat.mul_le_mul_left B h1
    rw [Nat.mul_add] at h3; omega
theorem val_take_succ (B : Nat) (l : List Nat) (k : Nat) (hk : k < l.length) : val B (l.take (k + 1)) = val B (l.take k) + B ^ k * l[k] := by
  rw [List.take_succ_eq_append_getElem hk, val_snoc]; simp [List.length_take, Nat.min_eq_left (Nat.le_of_lt hk)]
theorem val_split (B : Nat) (l : List Nat) (k : Nat) (hk : k ≤ l.length) : val B l = val B (l.take k) + B ^ k * val B (l.drop k) := by
  conv => lhs; rw [← List.take_append_drop k l]
  rw [val_append]; simp [List.length_take, Nat.min_eq_left hk]
theorem val_inj {B : Nat} (hB : 0 < B) : ∀ (a b : List Nat), Dig B a → Dig B b → a.length = b.length → val B a = val B b → a = b
  | [], [], _, _, _, _ => rfl
  | [], _ :: _, _, _, h, _ => by simp at h
  | _ :: _, [], _, _, h, _ => by simp at h
  | x :: a, y :: b, ha, hb, hl, hv => by
    rw [val_cons, val_cons] at hv
    have hx := ha x (by simp)
    have hy := hb y (by simp)
    have h1 : (x + B * val B a) % B = x := by rw [Nat.add_mul_mod_self_left, Nat.mod_eq_of_lt hx]
    have h2 : (y + B * val B b) % B = y := by rw [Nat.add_mul_mod_self_left, Nat.mod_eq_of_lt hy]
    have h3 : (x + B * val B a) / B = val B a := by rw [Nat.add_mul_div_left _ _ hB, Nat.div_eq_of_lt hx]; omega
    have h4 : (y + B * val B b) / B = val B b := by rw [Nat.add_mul_div_left _ _ hB, Nat.div_eq_of_lt hy]; omega
    rw [hv] at h1 h3
    have e1 : x = y := h1.symm.trans h2
    have e2 : a = b := val_inj hB a b (fun z hz => ha z (by simp [hz])) (fun z hz => hb z (by simp [hz])) (by simpa using hl) (h3.symm.trans h4)
    rw [e1, e2]
theorem Canon.nil (B : Nat) : Canon B [] := ⟨Dig.nil B, by simp⟩
theorem Canon.pow_le {B : Nat} {l : List Nat} (h : Canon B l) (k : Nat) (hk : l.length = k + 1) : B ^ k ≤ val B l := by
  have hlt : k < l.length := by omega
  have h1 := val_take_succ B l k hlt
  rw [List.take_of_length_le (by omega)] at h1
  have h2 : l[k] ≠ 0 := by
    intro e; apply h.2; rw [List.getLast?_eq_getElem?, hk, Nat.add_sub_cancel, List.getElem?_eq_getElem hlt, e]
  have h3 : B ^ k * 1 ≤ B ^ k * l[k] := Nat.mul_le_mul_left _ (by omega)
  omega
theorem Canon.lt_of_length {B : Nat} {a b : List Nat} (ha : Dig B a) (hb : Canon B b) (h : a.length < b.length) : val B a < val B b := by
  obtain ⟨k, hk⟩ : ∃ k, b.length = k + 1 := ⟨b.length - 1, by omega⟩
  have h1 := val_lt a ha
  have h2 := hb.pow_le k hk
  by_cases hB : B = 0
  · subst hB
    cases b with
    | nil => simp at hk
    | cons x t => have := hb.1 x (by simp); omega
  · have h3 : B ^ a.length ≤ B ^ k := Nat.pow_le_pow_right (by omega) (by omega)
    omega
theorem Canon.length_le {B : Nat} {a b : List Nat} (ha : Canon B a) (hb : Dig B b) (h : val B a ≤ val B b) : a.length ≤ b.length := by
  apply Nat.le_of_not_lt; intro h1
  have := Canon.lt_of_length hb ha h1; omega
theorem Canon.inj {B : Nat} (hB : 0 < B) {a b : List Nat} (ha : Canon B a) (hb : Canon B b) (h : val B a = val B b) : a = b :=
  val_inj hB a b ha.1 hb.1 (Nat.le_antisymm (ha.length_le hb.1 (by omega)) (hb.length_le ha.1 (by omega))) h
theorem val_lt_of_digit {B : Nat} (a b : List Nat) (k : Nat) (ha : Dig B a) (hka : k < a.length) (hkb : k < b.length) (h : a[k] < b[k]) : val B (a.take (k + 1)) < val B (b.take (k + 1)) := by
  rw [val_take_succ B a k hka, val_take_succ B b k hkb]
  have h1 := val_lt (a.take k) (ha.take k)
  rw [List.length_take, Nat.min_eq_left (by omega)] at h1
  have h2 : B ^ k * (a[k] + 1) ≤ B ^ k * b[k] := Nat.mul_le_mul_left _ h
  rw [Nat.mul_add] at h2; omega
theorem add_step {B p c c' a b s x y z : Nat} (h : z + p * c = x + y) (hs : s + B * c' = a + b + c) : (z + p * s) + (p * B) * c' = (x + p * a) + (y + p * b) := by
  have : p * s + p * B * c' = p * (s + B * c') := by grind
  rw [Nat.add_assoc, this, hs]; grind
theorem sub_step {B p c c' a b s x y z : Nat} (h : z + y = x + p * c) (hs : s + b + c = a + B * c') : (z + p * s) + (y + p * b) = (x + p * a) + (p * B) * c' := by
  have h1 : p * (s + b + c) = p * (a + B * c') := by rw [hs]
  have h2 : p * (s + b + c) = p * s + p * b + p * c := by grind
  have h3 : p * (a + B * c') = p * a + p * B * c' := by grind
  omega
theorem addmul_step {B p c c' v w s z0 x y z : Nat} (h : z + p * c = x + y * w) (hs : s + B * c' = z0 + v * w + c) : (z + p * s) + (p * B) * c' = (x + p * z0) + (y + p * v) * w := by
  have h1 : p * (s + B * c') = p * (z0 + v * w + c) := by rw [hs]
  grind
theorem submul_step {B p c c' v w s z0 x y z : Nat} (h : z + y * w = x + p * c) (hs : s + v * w + c = z0 + B * c') : (z + p * s) + (y + p * v) * w = (x + p * z0) + (p * B) * c' := by
  have h1 : p * (s + v * w + c) = p * (z0 + B * c') := by rw [hs]
  grind
theorem guess_ge {q D R d top P low : Nat} (hd : 0 < d) (hq : q * D ≤ R) (hD : d * P ≤ D) (hR : R = top * P + low) (hlow : low < P) : q ≤ top / d := by
  rw [Nat.le_div_iff_mul_le hd]
  apply Nat.le_of_lt_succ
  have h1 : q * (d * P) ≤ q * D := Nat.mul_le_mul_left q hD
  have h2 : q * d * P < (top + 1) * P := by
    have : q * d * P = q * (d * P) := by grind
    rw [this]
    have : (top + 1) * P = top * P + P := by grind
    omega
  exact Nat.lt_of_mul_lt_mul_right h2
theorem frac_step {X a b x y q r : Nat} (h : X = a * x + b * y) (hx : x = q * y + r) : X = (q * a + b) * y + a * r := by
  subst hx; grind
theorem val_take_succD (B : Nat) (l : List Nat) (k : Nat) : val B (l.take (k + 1)) = val B (l.take k) + B ^ k * l.getD k 0 := by
  by_cases hk : k < l.length
  · rw [val_take_succ B l k hk, List.getD_eq_getElem?_getD, List.getElem?_eq_getElem hk]; rfl
  · rw [List.take_of_length_le (by omega), List.take_of_length_le (by omega), List.getD_eq_getElem?_getD, List.getElem?_eq_none (by omega)]; simp
def seg (L : List Nat) (off n : Nat) : List Nat := (L.drop off).take n
structure Put (L : List Nat) (off n : Nat) (L' : List Nat) : Prop where
  length : L'.length = L.length
  before : L'.take off = L.take off
  behind : L'.drop (off + n) = L.drop (off + n)
theorem seg_length (L : List Nat) (off n : Nat) (h : off + n ≤ L.length) : (seg L off n).length = n := by simp [seg]; omega
theorem seg_zero (L : List Nat) (off : Nat) : seg L off 0 = [] := by simp [seg]
theorem seg_succ (L : List Nat) (off n : Nat) (h : off + n < L.length) : seg L off (n + 1) = seg L off n ++ [L.getD (off + n) 0] := by
  unfold seg
  rw [List.take_succ_eq_append_getElem (by simp; omega)]
  simp [List.getD_eq_getElem?_getD, List.getElem?_eq_getElem h]
theorem seg_getD (L : List Nat) (off n j : Nat) (hj : j < n) : (seg L off n).getD j 0 = L.getD (off + j) 0 := by
  simp [seg, List.getD_eq_getElem?_getD, List.getElem?_take_of_lt hj]
theorem seg_take (L : List Nat) (off n k : Nat) (h : k ≤ n) : (seg L off n).take k = seg L off k := by
  simp [seg, List.take_take, Nat.min_eq_left h]
theorem seg_all (L : List Nat) (n : Nat) (h : n = L.length) : seg L 0 n = L := by subst h; simp [seg]
theorem Put.refl (L : List Nat) (off : Nat) : Put L off 0 L := ⟨rfl, rfl, rfl⟩
theorem Put.getD {L L' : List Nat} {off n : Nat} (h : Put L off n L') (j : Nat) (hj : off + n ≤ j) : L'.getD j 0 = L.getD j 0 := by
  have e : ∀ M : List Nat, M.getD j 0 = (M.drop (off + n)).getD (j - (off + n)) 0 := by
    intro M; rw [List.getD_eq_getElem?_getD, List.getD_eq_getElem?_getD, List.getElem?_drop]; congr 2; omega
  rw [e L', e L, h.behind]
theorem Put.set {L L' : List Nat} {off n : Nat} (h : Put L off n L') (x : Nat) : Put L off (n + 1) (L'.set (off + n) x) := by
  refine ⟨by simp [h.length], ?_, ?_⟩
  · rw [List.take_set_of_le (by omega)]; exact h.before
  · rw [List.drop_set_of_lt (by omega)]
    have := congrArg (List.drop 1) h.behind
    simpa [List.drop_drop, Nat.add_assoc, Nat.add_comm, Nat.add_left_comm] using this
theorem Put.seg_set {L L' : List Nat} {off n : Nat} (h : Put L off n L') (hn : off + n < L.length) (x : Nat) : seg (L'.set (off + n) x) off (n + 1) = seg L' off n ++ [x] := by
  rw [seg_succ _ _ _ (by simp [h.length]; exact hn)]
  congr 1
  · unfold seg
    apply List.ext_getElem?
    intro i
    by_cases hi : i < n
    · rw [List.getElem?_take_of_lt hi, List.getElem?_take_of_lt hi, List.getElem?_drop, List.getElem?_drop, List.getElem?_set_ne (by omega)]
    · rw [List.getElem?_take, List.getElem?_take, if_neg hi, if_neg hi]
  · simp [List.getD_eq_getElem?_getD, h.length, hn]
theorem Put.behind_seg {L L' : List Nat} {off n : Nat} (h : Put L off n L') (o k : Nat) (ho : off + n ≤ o) : seg L' o k = seg L o k := by
  have e : ∀ M : List Nat, seg M o k = ((M.drop (off + n)).drop (o - (off + n))).take k := by
    intro M; rw [List.drop_drop]; unfold seg; congr 2; omega
  rw [e L', e L, h.behind]
theorem Put.before_seg {L L' : List Nat} {off n : Nat} (h : Put L off n L') (o k : Nat) (ho : o + k ≤ off) : seg L' o k = seg L o k := by
  have e : ∀ M : List Nat, seg M o k = ((M.take off).drop o).take k := by
    intro M; rw [List.drop_take, List.take_take]; unfold seg; congr 1; omega
  rw [e L', e L, h.before]
theorem Put.trans {L L' L'' : List Nat} {off n : Nat} (h : Put L off n L') (k : Put L' off n L'') : Put L off n L'' :=
  ⟨k.length.trans h.length, k.before.trans h.before, k.behind.trans h.behind⟩
theorem Put.mono {L L' : List Nat} {off n m : Nat} (h : Put L off n L') (hm : n ≤ m) : Put L off m L' := by
  refine ⟨h.length, h.before, ?_⟩
  have := congrArg (List.drop (m - n)) h.behind
  rw [List.drop_drop, List.drop_drop] at this
  rwa [show off + n + (m - n) = off + m from by omega] at this
theorem Put.all {L L' : List Nat} (h : L'.length = L.length) (n : Nat) (hn : n = L.length) : Put L 0 n L' := by
  subst hn; exact ⟨h, by simp, by rw [List.drop_eq_nil_of_le (by omega), List.drop_eq_nil_of_le (by omega)]⟩
end Big
namespace Go.Proofs.YtoegbjmoecbjdaaGreatDoor
open Go.RowKit
theorem ret_bool {a b : Bool} (h : a = b) : Ending.returned (.bool a) = .returned (.bool b) := by rw [h]
structure Rd (w : World) (p : Option Addr) (n : Nat) (l : List Nat) : Prop where
  len : l.length = n
  cell : n = 0 ∨ ∃ b off, p = some ⟨b, off, none⟩ ∧ b < w.heap.size ∧ ∀ j, j < n → w.cell? ⟨b, off + j, none⟩ = some (.int .u64 ((l.getD j 0 : Nat) : Int))
theorem Rd.nil (w : World) (p : Option Addr) : Rd w p 0 [] := ⟨rfl, .inl rfl⟩
theorem Rd.below {w w' : World} {p : Option Addr} {n : Nat} {l : List Nat} (h : Rd w p n l) (hb : Below w.heap.size w w') : Rd w' p n l := by
  refine ⟨h.len, ?_⟩
  rcases h.cell with h0 | ⟨b, off, hp, hlt, hc⟩
  · exact .inl h0
  · exact .inr ⟨b, off, hp, Nat.lt_of_lt_of_le hlt hb.size, fun j hj => (hb.cell (p := ⟨b, off + j, none⟩) hlt).trans (hc j hj)⟩
theorem Rd.opened {w : World} {p : Option Addr} {n : Nat} {l : List Nat} (h : Rd w p n l) (hn : 0 < n) : ∃ b off, p = some ⟨b, off, none⟩ ∧ b < w.heap.size ∧ ∀ j, j < n → w.cell? ⟨b, off + j, none⟩ = some (.int .u64 ((l.getD j 0 : Nat) : Int)) := by
  rcases h.cell with h0 | h0
  · omega
  · exact h0
theorem Rd.at {w : World} {p : Option Addr} {n : Nat} {l : List Nat} (h : Rd w p n l) {k : Nat} (hk : k < n) : ∃ b off d, p = some ⟨b, off, none⟩ ∧ b < w.heap.size ∧ w.cell? ⟨b, off + k, none⟩ = some (.int .u64 ((d : Nat) : Int)) ∧ Hid (l.getD k 0 = d) := by
  obtain ⟨b, off, h1, h2, h3⟩ := h.opened (by omega)
  exact ⟨b, off, _, h1, h2, h3 k hk, rfl⟩
theorem Rd.take {w : World} {p : Option Addr} {n : Nat} {l : List Nat} (h : Rd w p n l) (k : Nat) (hk : k ≤ n) : Rd w p k (l.take k) := by
  refine ⟨by simp [List.length_take, h.len, Nat.min_eq_left hk], ?_⟩
  by_cases h0 : k = 0
  · exact .inl h0
  · obtain ⟨b, off, h1, h2, h3⟩ := h.opened (by omega)
    refine .inr ⟨b, off, h1, h2, fun j hj => ?_⟩
    rw [h3 j (by omega), List.getD_eq_getElem?_getD, List.getD_eq_getElem?_getD, List.getElem?_take_of_lt hj]
def u64s (L : List Nat) : List Value := L.map fun d => Value.int .u64 ((d : Nat) : Int)
def Row (w : World) (g : Nat) (t : TypeId) (L : List Nat) : Prop := w.heap[g]? = some (.cells (u64s L).toArray t (0, 0))
theorem Row.lt {w : World} {g : Nat} {t : TypeId} {L : List Nat} (h : Row w g t L) : g < w.heap.size := (Array.getElem?_eq_some_iff.1 h).1
theorem Row.cell {w : World} {g : Nat} {t : TypeId} {L : List Nat} (h : Row w g t L) (k : Nat) (hk : k < L.length) : w.cell? ⟨g, k, none⟩ = some (.int .u64 ((L.getD k 0 : Nat) : Int)) := by
  unfold Row at h
  simp [World.cell?, h, u64s, hk]
theorem Row.free {w : World} {g : Nat} {t : TypeId} {L : List Nat} (h : Row w g t L) (k : Nat) : w.frozen? ⟨g, k, none⟩ = false := by
  unfold Row at h
  simp [World.frozen?, h]
theorem Row.set {w : World} {g : Nat} {t : TypeId} {L : List Nat} (h : Row w g t L) (k d : Nat) : Row (w.setCell ⟨g, k, none⟩ (.int .u64 ((d : Nat) : Int))) g t (L.set k d) := by
  have hlt := h.lt
  have hv : w.heap[g] = .cells (u64s L).toArray t (0, 0) := (Array.getElem?_eq_some_iff.1 h).2
  unfold Row World.setCell
  rw [Array.getElem?_eq_getElem (by simpa using hlt), Array.getElem_modify]
  simp [hv, u64s, List.map_set]
theorem Row.drew {w : World} {g : Nat} {t : TypeId} {L : List Nat} (h : Row w g t L) : Row w.drew g t L := h
theorem Row.rd {w : World} {g : Nat} {t : TypeId} {L : List Nat} (h : Row w g t L) (off n : Nat) (hn : off + n ≤ L.length) : Rd w (some ⟨g, off, none⟩) n ((L.drop off).take n) := by
  refine ⟨by simp; omega, .inr ⟨g, off, rfl, h.lt, fun j hj => ?_⟩⟩
  rw [h.cell (off + j) (by omega)]
  simp [List.getD_eq_getElem?_getD, List.getElem?_take_of_lt hj]
theorem Row.rd0 {w : World} {g : Nat} {t : TypeId} {L : List Nat} (h : Row w g t L) (n : Nat) (hn : n = L.length) : Rd w (some ⟨g, 0, none⟩) n L := by
  have := h.rd 0 n (by omega)
  rwa [List.drop_zero, List.take_of_length_le (by omega)] at this
structure Only (g : Nat) (w w' : World) : Prop where
  os : w'.os = w.os
  tape : w'.tape = w.tape
  output : w'.output = w.output
  size : w'.heap.size = w.heap.size
  block : ∀ k, k ≠ g → w'.heap[k]? = w.heap[k]?
theorem Only.refl (g : Nat) (w : World) : Only g w w := ⟨rfl, rfl, rfl, rfl, fun _ _ => rfl⟩
theorem Only.trans {g : Nat} {a b c : World} (h : Only g a b) (k : Only g b c) : Only g a c :=
  ⟨k.os.trans h.os, k.tape.trans h.tape, k.output.trans h.output, k.size.trans h.size, fun i hi => (k.block i hi).trans (h.block i hi)⟩
theorem Only.drew {g : Nat} {a w : World} (h : Only g a w) : Only g a w.drew := ⟨h.os, h.tape, h.output, h.size, h.block⟩
theorem Only.setCell {g : Nat} {a w : World} (h : Only g a w) (k : Nat) (u : Value) : Only g a (w.setCell ⟨g, k, none⟩ u) :=
  h.trans ⟨rfl, rfl, rfl, by simp [World.setCell], fun i hi => Below.heap_setCell _ _ _ _ hi⟩
theorem Only.below {g B : Nat} {a w w' : World} (h : Below B a w) (ho : Only g w w') (hB : B ≤ g) : Below B a w' :=
  h.trans ⟨ho.os, ho.tape, ho.output, by rw [ho.size]; exact Nat.le_refl _, fun k hk => ho.block k (by omega)⟩
theorem Only.rd {g : Nat} {w w' : World} {p : Option Addr} {n : Nat} {l : List Nat} (ho : Only g w w') (h : Rd w p n l) (hg : n = 0 ∨ ∀ b off, p = some ⟨b, off, none⟩ → b ≠ g) : Rd w' p n l := by
  refine ⟨h.len, ?_⟩
  rcases h.cell with h0 | ⟨b, off, hp, hlt, hc⟩
  · exact .inl h0
  · rcases hg with h0 | hg
    · exact .inl h0
    · refine .inr ⟨b, off, hp, by rw [ho.size]; exact hlt, fun j hj => ?_⟩
      rw [← hc j hj]
      exact World.cell?_of_block (w := w) (ho.block b (hg b off hp))
theorem Only.row {g g' : Nat} {t : TypeId} {L : List Nat} {w w' : World} (ho : Only g w w') (h : Row w g' t L) (hne : g' ≠ g) : Row w' g' t L := (ho.block g' hne).trans h
theorem Below.row {B g : Nat} {t : TypeId} {L : List Nat} {w w' : World} (hb : Below B w w') (h : Row w g t L) (hg : g < B) : Row w' g t L := (hb.block g hg).trans h
theorem row_of_made {w : World} {base g n : Nat} {e : TypeId} (h : w.ownsRow base e 1 (.slice (some ⟨g, 0, none⟩) n n) n (madeCells #[Value.int .u64 0] n).toList) : Row w g e (List.replicate n 0) := by
  obtain ⟨h1, h2⟩ := h
  rcases h2 with ⟨h2, _⟩ | ⟨g', cap, cur, hv, hg, hh, hn, hm, hs, hc⟩
  · cases h2
  · simp only [Value.slice.injEq, Option.some.injEq, Addr.mk.injEq] at hv
    obtain ⟨⟨rfl, -, -⟩, -, rfl⟩ := hv
    unfold Row
    rw [hh]
    have e1 : cur = (madeCells #[Value.int .u64 0] n) := by
      apply Array.ext'
      rw [← hc, List.take_of_length_le (by simp; omega)]
    have e2 : madeCells #[Value.int .u64 0] n = (u64s (List.replicate n 0)).toArray := by
      apply Array.ext
      · simp [madeCells, u64s]
      · intro i h1 h2
        simp [madeCells, u64s, Nat.mod_one]
    rw [e1, e2]
theorem isZero_any (p : Option Addr) (n c : Nat) (w : World) :
    Calls Tryz.prog 116 #[.slice p n c] w fun e w' => e = .returned (.bool ((n : Int) == 0)) ∧ w = w' := by
  go_enter Tryz.func116, Tryz.ntmps116
  go_wp2
  go_ret
  exact ⟨rfl, rfl⟩
def Trim (p : Option Addr) (n c : Nat) (l : List Nat) (w : World) (e : Ending) (w' : World) : Prop :=
  ∃ k, k ≤ n ∧ e = .returned (.slice p k c) ∧ w = w' ∧ (∀ j, k ≤ j → j < n → l.getD j 0 = 0) ∧ (k = 0 ∨ l.getD (k - 1) 0 ≠ 0)
theorem trimmed_any (p : Option Addr) (n c : Nat) (l : List Nat) (w : World) (hn : n ≤ maxLen) (hnc : n ≤ c) (hl : Rd w p n l) :
    Calls Tryz.prog 134 #[.slice p n c] w (Trim p n c l w) := by
  unfold maxLen at hn
  go_enter Tryz.func134, Tryz.ntmps134
  go_wp2
  go_loop [3] (fun i => ∃ k : Nat, k ≤ n ∧ i = .int .i64 k ∧ ∀ j, k ≤ j → j < n → l.getD j 0 = 0) (fun i => (intOf i).toNat)
  case atStart => exact ⟨n, Nat.le_refl _, rfl, fun j h1 h2 => by omega⟩
  case round =>
    obtain ⟨k, hk, rfl, hz⟩ := hrel
    have Hz := hiD hz
    clear hz
    by_cases h0 : k = 0
    · subst h0
      go_wp2
      go_ret
      exact ⟨0, by omega, rfl, rfl, Hz.out, .inl rfl⟩
    · obtain ⟨b, off, d, rfl, hb, hc, hd⟩ := hl.at (k := k - 1) (by omega)
      by_cases hz : d = 0
      · subst hz
        go_wp2
        go_round
        case rel => exact ⟨k - 1, by omega, by go_num, fun j h1 h2 => by
          by_cases e : j = k - 1
          · rw [e]; exact hd.out
          · exact Hz.out j (by omega) h2⟩
        case measure => simp [intOf]; omega
      · have hz' : ((d : Int) == 0) = false := by simpa using hz
        go_wp2
        go_ret
        exact ⟨k, hk, rfl, rfl, Hz.out, .inr (by rw [hd.out]; exact hz)⟩
end Go.Proofs.YtoegbjmoecbjdaaGreatDoor
namespace Go.Proofs.YtoegbjmoecbjdaaGreatDoor
open Go.RowKit Big
def B64 : Nat := 18446744073709551616
theorem B64_eq : B64 = 18446744073709551616 := rfl
theorem B64_pos : 0 < B64 := by rw [B64_eq]; omega
theorem lt64 {x : Nat} (h : x < B64) : (x : Int) ≤ 18446744073709551615 := by rw [B64_eq] at h; omega
theorem add64 (x y c : Nat) (hc : c ≤ 1) (hx : x < B64) (hy : y < B64) : ∃ s c' : Nat, Hid (s + B64 * c' = x + y + c) ∧ s < B64 ∧ c' ≤ 1 ∧
    ∀ w : World, (callFunc 184 #[.int .u64 x, .int .u64 y, .int .u64 c]).run Tryz.prog w = .ok (.value (.tuple #[.int .u64 (s : Int), .int .u64 (c' : Int)])) w := by
  refine ⟨(x + y + c) % B64, (x + y + c) / B64, Nat.mod_add_div _ _, Nat.mod_lt _ B64_pos, ?_, fun w => ?_⟩
  · have : (x + y + c) / B64 < 2 := by
      rw [Nat.div_lt_iff_lt_mul B64_pos]; omega
    omega
  · rw [run_callFunc_extern Tryz.func184 (by kernel_rfl) (by kernel_rfl) (by kernel_rfl) (e := add64Entry) (by kernel_rfl), run_add64 x y c (by omega) (by omega) (by omega) (by omega)]
    simp only [Result.andThen, B64_eq]
    congr 5 <;> omega
theorem sub64 (x y c : Nat) (hc : c ≤ 1) (hx : x < B64) (hy : y < B64) : ∃ s c' : Nat, Hid (s + y + c = x + B64 * c') ∧ s < B64 ∧ c' ≤ 1 ∧
    ∀ w : World, (callFunc 203 #[.int .u64 x, .int .u64 y, .int .u64 c]).run Tryz.prog w = .ok (.value (.tuple #[.int .u64 (s : Int), .int .u64 (c' : Int)])) w := by
  refine ⟨(x + B64 - y - c) % B64, if x < y + c then 1 else 0, ?_, Nat.mod_lt _ B64_pos, by split <;> omega, fun w => ?_⟩
  · show _ = _
    rw [B64_eq] at *
    split <;> omega
  · rw [run_callFunc_extern Tryz.func203 (by kernel_rfl) (by kernel_rfl) (by kernel_rfl) (e := Go.Proofs.sub64Entry) (by kernel_rfl), Go.Proofs.run_sub64 x y c hc]
    simp only [Result.andThen, B64_eq]
theorem mul64 (x y : Nat) (hx : x < B64) (hy : y < B64) : ∃ hi lo : Nat, Hid (lo + B64 * hi = x * y) ∧ lo < B64 ∧ hi + 2 ≤ B64 ∧
    ∀ w : World, Calls Tryz.prog 180 #[.int .u64 x, .int .u64 y] w fun e w' => e = .returned (.tuple #[.int .u64 (hi : Int), .int .u64 (lo : Int)]) ∧ w = w' := by
  refine ⟨x * y / B64, x * y % B64, Nat.mod_add_div _ _, Nat.mod_lt _ B64_pos, ?_, fun w => (Go.Proofs.Tryz.bits_Mul64 x y hx hy w).mono fun e w' ⟨he, hw⟩ => ⟨he, hw.symm⟩⟩
  have h1 : x * y ≤ (B64 - 1) * (B64 - 1) := Nat.mul_le_mul (by omega) (by omega)
  have h2 : (B64 - 1) * (B64 - 1) < (B64 - 1) * B64 := by rw [B64_eq]; omega
  have h3 : x * y / B64 < B64 - 1 := by
    rw [Nat.div_lt_iff_lt_mul B64_pos]; omega
  omega
def addPost (L : List Nat) (g off n : Nat) (t : TypeId) (y : List Nat) (w : World) (e : Ending) (w' : World) : Prop :=
  ∃ L' c, Put L off n L' ∧ Dig B64 (seg L' off n) ∧ c ≤ 1 ∧ val B64 (seg L' off n) + B64 ^ n * c = val B64 (seg L off n) + val B64 y ∧
    e = .returned (.bool ((c : Int) == 1)) ∧ Only g w w' ∧ Row w' g t L'
theorem addInto_any (g off n cap : Nat) (t : TypeId) (L : List Nat) (q : Option Addr) (m c : Nat) (y : List Nat) (w : World) (hn : n ≤ maxLen) (hL : off + n ≤ L.length) (hm : m ≤ n)
    (hz : Row w g t L) (hy : Rd w q m y) (hq : m = 0 ∨ ∀ b o, q = some ⟨b, o, none⟩ → b ≠ g) (dL : Dig B64 (seg L off n)) (dy : Dig B64 y) :
    Calls Tryz.prog 167 #[.slice (some ⟨g, off, none⟩) n cap, .slice q m c] w (addPost L g off n t y w) := by
  unfold maxLen at hn
  go_enter Tryz.func167, Tryz.ntmps167
  go_wp2
  go_loopw [5, 10] (fun cy i wr => ∃ (k : Nat) (L' : List Nat) (d : Nat), k ≤ n ∧ i = .int .i64 k ∧ cy = .int .u64 d ∧ d ≤ 1 ∧ Put L off k L' ∧ Dig B64 (seg L' off k) ∧
      val B64 (seg L' off k) + B64 ^ k * d = val B64 (seg L off k) + val B64 (y.take k) ∧ Only g w wr ∧ Row wr g t L') (fun _ i _ => n - (intOf i).toNat)
  case atStart => exact ⟨0, L, 0, Nat.zero_le _, rfl, rfl, by omega, Put.refl _ _, by rw [seg_zero]; exact Dig.nil _, by simp [seg_zero, val], Only.refl _ _, hz⟩
  case round =>
    obtain ⟨k, L', d, hk, rfl, rfl, hd, hput, hdig, hval, ho, hr⟩ := hrel
    have Hval := hiD hval
    clear hval
    by_cases hlt : k < n
    · have hc := hr.cell (off + k) (by rw [hput.length]; omega)
      rw [hput.getD _ (by omega)] at hc
      have hf := hr.free (off + k)
      have dk : L.getD (off + k) 0 < B64 := by rw [← seg_getD L off n k hlt]; exact dL.getD B64_pos k
      obtain ⟨a, ha⟩ : ∃ a, Hid (L.getD (off + k) 0 = a) := ⟨_, rfl⟩
      have hw : ∃ b : Nat, Hid (y.getD k 0 = b) ∧ b < B64 := ⟨_, rfl, dy.getD B64_pos k⟩
      obtain ⟨b, hb, hb64⟩ := hw
      rw [ha.out] at hc dk
      obtain ⟨s, c', hs, hs1, hs2, hrun⟩ := add64 a b d hd dk hb64
      have hrelk : ∀ wr', Only g w wr' → Row wr' g t (L'.set (off + k) s) → ∃ (k' : Nat) (L'' : List Nat) (d' : Nat), k' ≤ n ∧ Value.int .i64 ((k : Int) + 1) = .int .i64 k' ∧ Value.int .u64 (c' : Int) = .int .u64 d' ∧ d' ≤ 1 ∧ Put L off k' L'' ∧ Dig B64 (seg L'' off k') ∧
          val B64 (seg L'' off k') + B64 ^ k' * d' = val B64 (seg L off k') + val B64 (y.take k') ∧ Only g w wr' ∧ Row wr' g t L'' := by
        intro wr' h1 h2
        refine ⟨k + 1, L'.set (off + k) s, c', by omega, by go_num, rfl, hs2, hput.set s, ?_, ?_, h1, h2⟩
        · rw [hput.seg_set (by omega)]; exact hdig.append (Dig.one hs1)
        · rw [hput.seg_set (by omega), seg_succ L off k (by omega), val_snoc, val_snoc, val_take_succD, seg_length _ _ _ (by rw [hput.length]; omega), seg_length _ _ _ (by omega), ha.out, hb.out, Nat.pow_succ]
          exact add_step Hval.out hs.out
      have Hrel := hiD hrelk
      clear hrelk
      by_cases hkm : k < m
      · obtain ⟨b0, o0, d0, rfl, hb0, hc0, hd0⟩ := hy.at hkm
        have e0 : d0 = b := by rw [← hd0.out]; exact hb.out
        subst e0
        have hcy : wr.cell? ⟨b0, o0 + k, none⟩ = some (.int .u64 (d0 : Int)) := by
          rw [← hc0]
          exact World.cell?_of_block (w := w) (ho.block b0 ((hq.resolve_left (by omega)) b0 o0 rfl))
        go_wp2
        go_roundw
        case rel => exact Hrel.out _ (ho.setCell _ _) (hr.set _ _)
        case measure => simp [intOf]; omega
      · have e0 : b = 0 := by
          rw [← hb.out, List.getD_eq_getElem?_getD, List.getElem?_eq_none (by rw [hy.len]; omega)]; rfl
        subst e0
        rw [show ((0 : Nat) : Int) = 0 from rfl] at hrun
        clear hb64 hb
        go_wp2
        go_roundw
        case rel => exact Hrel.out _ (ho.setCell _ _) (hr.set _ _)
        case measure => simp [intOf]; omega
    · obtain rfl : k = n := by omega
      have hval := Hval.out
      rw [List.take_of_length_le (by rw [hy.len]; exact hm)] at hval
      have Hv := hiD hval
      clear hval
      go_wp2
      go_ret
      exact ⟨L', d, hput, hdig, hd, Hv.out, rfl, ho, hr⟩
def subPost (L : List Nat) (g off n : Nat) (t : TypeId) (y : List Nat) (w : World) (e : Ending) (w' : World) : Prop :=
  ∃ L' c, Put L off n L' ∧ Dig B64 (seg L' off n) ∧ c ≤ 1 ∧ val B64 (seg L' off n) + val B64 y = val B64 (seg L off n) + B64 ^ n * c ∧
    e = .returned (.tuple #[]) ∧ Only g w w' ∧ Row w' g t L'
theorem subtractFrom_any (g off n cap : Nat) (t : TypeId) (L : List Nat) (q : Option Addr) (m c : Nat) (y : List Nat) (w : World) (hn : n ≤ maxLen) (hL : off + n ≤ L.length) (hm : m ≤ n)
    (hz : Row w g t L) (hy : Rd w q m y) (hq : m = 0 ∨ ∀ b o, q = some ⟨b, o, none⟩ → b ≠ g) (dL : Dig B64 (seg L off n)) (dy : Dig B64 y) :
    Calls Tryz.prog 168 #[.slice (some ⟨g, off, none⟩) n cap, .slice q m c] w (subPost L g off n t y w) := by
  unfold maxLen at hn
  go_enter Tryz.func168, Tryz.ntmps168
  go_wp2
  go_loopw [4, 9] (fun cy i wr => ∃ (k : Nat) (L' : List Nat) (d : Nat), k ≤ n ∧ i = .int .i64 k ∧ cy = .int .u64 d ∧ d ≤ 1 ∧ Put L off k L' ∧ Dig B64 (seg L' off k) ∧
      val B64 (seg L' off k) + val B64 (y.take k) = val B64 (seg L off k) + B64 ^ k * d ∧ Only g w wr ∧ Row wr g t L') (fun _ i _ => n - (intOf i).toNat)
  case atStart => exact ⟨0, L, 0, Nat.zero_le _, rfl, rfl, by omega, Put.refl _ _, by rw [seg_zero]; exact Dig.nil _, by simp [val], Only.refl _ _, hz⟩
  case round =>
    obtain ⟨k, L', d, hk, rfl, rfl, hd, hput, hdig, hval, ho, hr⟩ := hrel
    have Hval := hiD hval
    clear hval
    by_cases hlt : k < n
    · have hc := hr.cell (off + k) (by rw [hput.length]; omega)
      rw [hput.getD _ (by omega)] at hc
      have hf := hr.free (off + k)
      have dk : L.getD (off + k) 0 < B64 := by rw [← seg_getD L off n k hlt]; exact dL.getD B64_pos k
      obtain ⟨a, ha⟩ : ∃ a, Hid (L.getD (off + k) 0 = a) := ⟨_, rfl⟩
      have hw : ∃ b : Nat, Hid (y.getD k 0 = b) ∧ b < B64 := ⟨_, rfl, dy.getD B64_pos k⟩
      obtain ⟨b, hb, hb64⟩ := hw
      rw [ha.out] at hc dk
      obtain ⟨s, c', hs, hs1, hs2, hrun⟩ := sub64 a b d hd dk hb64
      have hrelk : ∀ wr', Only g w wr' → Row wr' g t (L'.set (off + k) s) → ∃ (k' : Nat) (L'' : List Nat) (d' : Nat), k' ≤ n ∧ Value.int .i64 ((k : Int) + 1) = .int .i64 k' ∧ Value.int .u64 (c' : Int) = .int .u64 d' ∧ d' ≤ 1 ∧ Put L off k' L'' ∧ Dig B64 (seg L'' off k') ∧
          val B64 (seg L'' off k') + val B64 (y.take k') = val B64 (seg L off k') + B64 ^ k' * d' ∧ Only g w wr' ∧ Row wr' g t L'' := by
        intro wr' h1 h2
        refine ⟨k + 1, L'.set (off + k) s, c', by omega, by go_num, rfl, hs2, hput.set s, ?_, ?_, h1, h2⟩
        · rw [hput.seg_set (by omega)]; exact hdig.append (Dig.one hs1)
        · rw [hput.seg_set (by omega), seg_succ L off k (by omega), val_snoc, val_snoc, val_take_succD, seg_length _ _ _ (by rw [hput.length]; omega), seg_length _ _ _ (by omega), ha.out, hb.out, Nat.pow_succ]
          exact sub_step Hval.out hs.out
      have Hrel := hiD hrelk
      clear hrelk
      by_cases hkm : k < m
      · obtain ⟨b0, o0, d0, rfl, hb0, hc0, hd0⟩ := hy.at hkm
        have e0 : d0 = b := by rw [← hd0.out]; exact hb.out
        subst e0
        have hcy : wr.cell? ⟨b0, o0 + k, none⟩ = some (.int .u64 (d0 : Int)) := by
          rw [← hc0]
          exact World.cell?_of_block (w := w) (ho.block b0 ((hq.resolve_left (by omega)) b0 o0 rfl))
        go_wp2
        go_roundw
        case rel => exact Hrel.out _ (ho.setCell _ _) (hr.set _ _)
        case measure => simp [intOf]; omega
      · have e0 : b = 0 := by
          rw [← hb.out, List.getD_eq_getElem?_getD, List.getElem?_eq_none (by rw [hy.len]; omega)]; rfl
        subst e0
        rw [show ((0 : Nat) : Int) = 0 from rfl] at hrun
        clear hb64 hb
        go_wp2
        go_roundw
        case rel => exact Hrel.out _ (ho.setCell _ _) (hr.set _ _)
        case measure => simp [intOf]; omega
    · obtain rfl : k = n := by omega
      have hval := Hval.out
      rw [List.take_of_length_le (by rw [hy.len]; exact hm)] at hval
      have Hv := hiD hval
      clear hval
      go_wp2
      go_end0
      exact ⟨L', d, hput, hdig, hd, Hv.out, rfl, ho, hr⟩
def addTimesPost (L : List Nat) (g off n : Nat) (t : TypeId) (y : List Nat) (f : Nat) (w : World) (e : Ending) (w' : World) : Prop :=
  ∃ L' c : _, Put L off n L' ∧ Dig B64 (seg L' off n) ∧ c < B64 ∧ val B64 (seg L' off n) + B64 ^ n * c = val B64 (seg L off n) + val B64 y * f ∧
    e = .returned (.int .u64 ((c : Nat) : Int)) ∧ Only g w w' ∧ Row w' g t L'
theorem digit_step {a v f lo hi c lo2 c1 s c2 B : Nat} (hm : lo + B * hi = v * f) (h1 : lo2 + B * c1 = lo + c + 0) (h2 : s + B * c2 = a + lo2 + 0) : s + B * (hi + c1 + c2) = a + v * f + c := by
  rw [← hm]
  have : B * (hi + c1 + c2) = B * hi + B * c1 + B * c2 := by grind
  omega
theorem digit_lt {a v f c t s B : Nat} (h : s + B * t = a + v * f + c) (ha : a < B) (hv : v < B) (hf : f < B) (hc : c < B) : t < B := by
  obtain ⟨n, rfl⟩ : ∃ n, B = n + 1 := ⟨B - 1, by omega⟩
  have h1 : v * f ≤ n * n := Nat.mul_le_mul (by omega) (by omega)
  apply Nat.lt_of_mul_lt_mul_left (a := n + 1)
  have h2 : (n + 1) * (n + 1) = n * n + 2 * n + 1 := by grind
  omega
theorem addTimes_any (g off n cap : Nat) (t : TypeId) (L : List Nat) (q : Option Addr) (c : Nat) (y : List Nat) (f : Nat) (w : World) (hn : n ≤ maxLen) (hL : off + n ≤ L.length)
    (hz : Row w g t L) (hy : Rd w q n y) (hq : n = 0 ∨ ∀ b o, q = some ⟨b, o, none⟩ → b ≠ g) (dL : Dig B64 (seg L off n)) (dy : Dig B64 y) (df : f < B64) :
    Calls Tryz.prog 202 #[.slice (some ⟨g, off, none⟩) n cap, .slice q n c, .int .u64 f] w (addTimesPost L g off n t y f w) := by
  unfold maxLen at hn
  go_enter Tryz.func202, Tryz.ntmps202
  go_wp2
  go_loopw [7, 15] (fun cy i wr => ∃ (k : Nat) (L' : List Nat) (d : Nat), k ≤ n ∧ i = .int .i64 k ∧ cy = .int .u64 d ∧ d < B64 ∧ Put L off k L' ∧ Dig B64 (seg L' off k) ∧
      val B64 (seg L' off k) + B64 ^ k * d = val B64 (seg L off k) + val B64 (y.take k) * f ∧ Only g w wr ∧ Row wr g t L') (fun _ i _ => n - (intOf i).toNat)
  case atStart => exact ⟨0, L, 0, Nat.zero_le _, rfl, rfl, B64_pos, Put.refl _ _, by rw [seg_zero]; exact Dig.nil _, by simp [val], Only.refl _ _, hz⟩
  case round =>
    obtain ⟨k, L', d, hk, rfl, rfl, hd, hput, hdig, hval, ho, hr⟩ := hrel
    have Hval := hiD hval
    clear hval
    by_cases hlt : k < n
    · have hc := hr.cell (off + k) (by rw [hput.length]; omega)
      rw [hput.getD _ (by omega)] at hc
      have hf := hr.free (off + k)
      have dk : L.getD (off + k) 0 < B64 := by rw [← seg_getD L off n k hlt]; exact dL.getD B64_pos k
      obtain ⟨a, ha⟩ : ∃ a, Hid (L.getD (off + k) 0 = a) := ⟨_, rfl⟩
      rw [ha.out] at hc dk
      obtain ⟨b0, o0, v, rfl, hb0, hc0, hv⟩ := hy.at hlt
      have dv : v < B64 := by rw [← hv.out]; exact dy.getD B64_pos k
      have hcy : wr.cell? ⟨b0, o0 + k, none⟩ = some (.int .u64 (v : Int)) := by
        rw [← hc0]
        exact World.cell?_of_block (w := w) (ho.block b0 ((hq.resolve_left (by omega)) b0 o0 rfl))
      obtain ⟨hi, lo, hmul, hlo, hhi, hcall⟩ := mul64 v f dv df
      obtain ⟨lo2, c1, h1, hlo2, hc1, hrun1⟩ := add64 lo d 0 (by omega) hlo hd
      obtain ⟨s, c2, h2, hs, hc2, hrun2⟩ := add64 a lo2 0 (by omega) dk hlo2
      have hds := digit_step hmul.out h1.out h2.out
      have hdl := digit_lt hds dk dv df hd
      have Hds := hiD hds
      clear hds
      have Hcall := hiD hcall
      clear hcall
      rw [show ((0 : Nat) : Int) = 0 from rfl] at hrun1 hrun2
      have b1 : (hi : Int) + c1 ≤ 18446744073709551615 := by rw [B64_eq] at hhi; omega
      have b2 : (hi : Int) + c1 + c2 ≤ 18446744073709551615 := by rw [B64_eq] at hdl; omega
      have hrelk : ∀ wr', Only g w wr' → Row wr' g t (L'.set (off + k) s) → ∃ (k' : Nat) (L'' : List Nat) (d' : Nat), k' ≤ n ∧ Value.int .i64 ((k : Int) + 1) = .int .i64 k' ∧ Value.int .u64 ((hi : Int) + c1 + c2) = .int .u64 d' ∧ d' < B64 ∧ Put L off k' L'' ∧ Dig B64 (seg L'' off k') ∧
          val B64 (seg L'' off k') + B64 ^ k' * d' = val B64 (seg L off k') + val B64 (y.take k') * f ∧ Only g w wr' ∧ Row wr' g t L'' := by
        intro wr' g1 g2
        refine ⟨k + 1, L'.set (off + k) s, hi + c1 + c2, by omega, by go_num, by go_num, hdl, hput.set s, ?_, ?_, g1, g2⟩
        · rw [hput.seg_set (by omega)]; exact hdig.append (Dig.one hs)
        · rw [hput.seg_set (by omega), seg_succ L off k (by omega), val_snoc, val_snoc, val_take_succD, seg_length _ _ _ (by rw [hput.length]; omega), seg_length _ _ _ (by omega), ha.out, hv.out, Nat.pow_succ]
          exact addmul_step Hval.out Hds.out
      have Hrel := hiD hrelk
      clear hrelk
      go_wp2_with (go_at_call 180; refine (Hcall.out _).mono ?_; rintro e w' ⟨rfl, rfl⟩)
      go_roundw
      case rel => exact Hrel.out _ (ho.setCell _ _) (hr.set _ _)
      case measure => simp [intOf]; omega
    · obtain rfl : k = n := by omega
      have hval := Hval.out
      rw [List.take_of_length_le (by rw [hy.len]; omega)] at hval
      have Hv := hiD hval
      clear hval
      go_wp2
      go_ret
      exact ⟨L', d, hput, hdig, hd, Hv.out, rfl, ho, hr⟩
def subTimesPost (L : List Nat) (g off n : Nat) (t : TypeId) (y : List Nat) (f : Nat) (w : World) (e : Ending) (w' : World) : Prop :=
  ∃ L' c : _, Put L off n L' ∧ Dig B64 (seg L' off n) ∧ c ≤ 1 ∧ val B64 (seg L' off n) + val B64 y * f = val B64 (seg L off n) + B64 ^ n * c ∧
    e = .returned (.bool (((c : Nat) : Int) == 1)) ∧ Only g w w' ∧ Row w' g t L'
theorem digit_step_sub {z v f lo hi d lo2 c1 s c2 B : Nat} (hm : lo + B * hi = v * f) (h1 : lo2 + B * c1 = lo + d + 0) (h2 : s + lo2 + 0 = z + B * c2) : s + v * f + d = z + B * (hi + c1 + c2) := by
  rw [← hm]
  have : B * (hi + c1 + c2) = B * hi + B * c1 + B * c2 := by grind
  omega
theorem digit_lt_sub {z v f d t s B : Nat} (h : s + v * f + d = z + B * t) (hs : s < B) (hv : v < B) (hf : f < B) (hd : d < B) : t < B := by
  obtain ⟨n, rfl⟩ : ∃ n, B = n + 1 := ⟨B - 1, by omega⟩
  have h1 : v * f ≤ n * n := Nat.mul_le_mul (by omega) (by omega)
  apply Nat.lt_of_mul_lt_mul_left (a := n + 1)
  have h2 : (n + 1) * (n + 1) = n * n + 2 * n + 1 := by grind
  omega
theorem subtractTimes_any (g off n cap : Nat) (t : TypeId) (L : List Nat) (q : Option Addr) (c : Nat) (y : List Nat) (f : Nat) (w : World) (hn : n + 1 ≤ maxLen) (hL : off + (n + 1) ≤ L.length)
    (hz : Row w g t L) (hy : Rd w q n y) (hq : n = 0 ∨ ∀ b o, q = some ⟨b, o, none⟩ → b ≠ g) (dL : Dig B64 (seg L off (n + 1))) (dy : Dig B64 y) (df : f < B64) :
    Calls Tryz.prog 206 #[.slice (some ⟨g, off, none⟩) (n + 1) cap, .slice q n c, .int .u64 f] w (subTimesPost L g off (n + 1) t y f w) := by
  unfold maxLen at hn
  go_enter Tryz.func206, Tryz.ntmps206
  go_wp2
  go_loopw [7, 15] (fun cy i wr => ∃ (k : Nat) (L' : List Nat) (d : Nat), k ≤ n ∧ i = .int .i64 k ∧ cy = .int .u64 d ∧ d < B64 ∧ Put L off k L' ∧ Dig B64 (seg L' off k) ∧
      val B64 (seg L' off k) + val B64 (y.take k) * f = val B64 (seg L off k) + B64 ^ k * d ∧ Only g w wr ∧ Row wr g t L') (fun _ i _ => n - (intOf i).toNat)
  case atStart => exact ⟨0, L, 0, Nat.zero_le _, rfl, rfl, B64_pos, Put.refl _ _, by rw [seg_zero]; exact Dig.nil _, by simp [val], Only.refl _ _, hz⟩
  case round =>
    obtain ⟨k, L', d, hk, rfl, rfl, hd, hput, hdig, hval, ho, hr⟩ := hrel
    have Hval := hiD hval
    clear hval
    have hc := hr.cell (off + k) (by rw [hput.length]; omega)
    rw [hput.getD _ (by omega)] at hc
    have hf := hr.free (off + k)
    have dk : L.getD (off + k) 0 < B64 := by rw [← seg_getD L off (n + 1) k (by omega)]; exact dL.getD B64_pos k
    obtain ⟨a, ha⟩ : ∃ a, Hid (L.getD (off + k) 0 = a) := ⟨_, rfl⟩
    rw [ha.out] at hc dk
    by_cases hlt : k < n
    · obtain ⟨b0, o0, v, rfl, hb0, hc0, hv⟩ := hy.at hlt
      have dv : v < B64 := by rw [← hv.out]; exact dy.getD B64_pos k
      have hcy : wr.cell? ⟨b0, o0 + k, none⟩ = some (.int .u64 (v : Int)) := by
        rw [← hc0]
        exact World.cell?_of_block (w := w) (ho.block b0 ((hq.resolve_left (by omega)) b0 o0 rfl))
      obtain ⟨hi, lo, hmul, hlo, hhi, hcall⟩ := mul64 v f dv df
      obtain ⟨lo2, c1, h1, hlo2, hc1, hrun1⟩ := add64 lo d 0 (by omega) hlo hd
      obtain ⟨s, c2, h2, hs, hc2, hrun2⟩ := sub64 a lo2 0 (by omega) dk hlo2
      have hds := digit_step_sub hmul.out h1.out h2.out
      have hdl := digit_lt_sub hds hs dv df hd
      have Hds := hiD hds
      clear hds
      have Hcall := hiD hcall
      clear hcall
      rw [show ((0 : Nat) : Int) = 0 from rfl] at hrun1 hrun2
      have b1 : (hi : Int) + c1 ≤ 18446744073709551615 := by rw [B64_eq] at hhi; omega
      have b2 : (hi : Int) + c1 + c2 ≤ 18446744073709551615 := by rw [B64_eq] at hdl; omega
      have hrelk : ∀ wr', Only g w wr' → Row wr' g t (L'.set (off + k) s) → ∃ (k' : Nat) (L'' : List Nat) (d' : Nat), k' ≤ n ∧ Value.int .i64 ((k : Int) + 1) = .int .i64 k' ∧ Value.int .u64 ((hi : Int) + c1 + c2) = .int .u64 d' ∧ d' < B64 ∧ Put L off k' L'' ∧ Dig B64 (seg L'' off k') ∧
          val B64 (seg L'' off k') + val B64 (y.take k') * f = val B64 (seg L off k') + B64 ^ k' * d' ∧ Only g w wr' ∧ Row wr' g t L'' := by
        intro wr' g1 g2
        refine ⟨k + 1, L'.set (off + k) s, hi + c1 + c2, by omega, by go_num, by go_num, hdl, hput.set s, ?_, ?_, g1, g2⟩
        · rw [hput.seg_set (by omega)]; exact hdig.append (Dig.one hs)
        · rw [hput.seg_set (by omega), seg_succ L off k (by omega), val_snoc, val_snoc, val_take_succD, seg_length _ _ _ (by rw [hput.length]; omega), seg_length _ _ _ (by omega), ha.out, hv.out, Nat.pow_succ]
          exact submul_step Hval.out Hds.out
      have Hrel := hiD hrelk
      clear hrelk
      go_wp2_with (go_at_call 180; refine (Hcall.out _).mono ?_; rintro e w' ⟨rfl, rfl⟩)
      go_roundw
      case rel => exact Hrel.out _ (ho.setCell _ _) (hr.set _ _)
      case measure => simp [intOf]; omega
    · obtain rfl : k = n := by omega
      obtain ⟨s, c2, h2, hs, hc2, hrun2⟩ := sub64 a d 0 (by omega) dk hd
      rw [show ((0 : Nat) : Int) = 0 from rfl] at hrun2
      have hfin : ∀ wr', Only g w wr' → Row wr' g t (L'.set (off + k) s) → subTimesPost L g off (k + 1) t y f w (.returned (.bool ((c2 : Int) == 1))) wr' := by
        intro wr' g1 g2
        refine ⟨L'.set (off + k) s, c2, hput.set s, ?_, hc2, ?_, rfl, g1, g2⟩
        · rw [hput.seg_set (by omega)]; exact hdig.append (Dig.one hs)
        · have hval := Hval.out
          rw [List.take_of_length_le (by rw [hy.len]; omega)] at hval
          rw [hput.seg_set (by omega), seg_succ L off k (by omega), val_snoc, val_snoc, seg_length _ _ _ (by rw [hput.length]; omega), seg_length _ _ _ (by omega), ha.out, Nat.pow_succ]
          have := sub_step (y := val B64 y * f) (b := 0) hval (show s + 0 + d = a + B64 * c2 by have := h2.out; omega)
          simpa using this
      have Hfin := hiD hfin
      clear hfin
      go_wp2
      go_ret
      exact Hfin.out _ (ho.setCell _ _) (hr.set _ _)
def NatAt (w : World) (v : Value) (x : Nat) : Prop := ∃ p n c l, v = .slice p n c ∧ n ≤ c ∧ Rd w p n l ∧ Canon B64 l ∧ val B64 l = x
theorem NatAt.below {w w' : World} {v : Value} {x : Nat} (h : NatAt w v x) (hb : Below w.heap.size w w') : NatAt w' v x := by
  obtain ⟨p, n, c, l, h1, h2, h3, h4⟩ := h
  exact ⟨p, n, c, l, h1, h2, h3.below hb, h4⟩
theorem NatAt.zero (w : World) : NatAt w (.slice none 0 0) 0 := ⟨none, 0, 0, [], rfl, Nat.le_refl _, Rd.nil _ _, Canon.nil _, rfl⟩
theorem limbs_le {l : List Nat} {x K : Nat} (h : Canon B64 l) (hx : val B64 l = x) (hK : x < B64 ^ K) : l.length ≤ K := by
  apply Nat.le_of_not_lt; intro h1
  obtain ⟨k, hk⟩ : ∃ k, l.length = k + 1 := ⟨l.length - 1, by omega⟩
  have h2 := h.pow_le k hk
  have h3 : B64 ^ K ≤ B64 ^ k := Nat.pow_le_pow_right B64_pos (by omega)
  omega
def NatPost (x : Nat) (w : World) (e : Ending) (w' : World) : Prop := ∃ v, e = .returned v ∧ NatAt w' v x ∧ Below w.heap.size w w'
theorem val_drop_zero (L : List Nat) (k : Nat) (h : ∀ j, k ≤ j → j < L.length → L.getD j 0 = 0) : val B64 (L.drop k) = 0 := by
  have : L.drop k = List.replicate (L.length - k) 0 := by
    apply List.ext_getElem
    · simp
    · intro i h1 h2
      have := h (k + i) (by omega) (by simp at h1; omega)
      rw [List.getD_eq_getElem?_getD, List.getElem?_eq_getElem (by simp at h1; omega)] at this
      simpa using this
  rw [this, val_zeros]
theorem trim_nat {p : Option Addr} {n c : Nat} {l : List Nat} {w0 w w' : World} {e : Ending} (hnc : n ≤ c) (hl : Rd w p n l) (hd : Dig B64 l) (hb : Below w0.heap.size w0 w) (h : Trim p n c l w e w') : NatPost (val B64 l) w0 e w' := by
  obtain ⟨k, hk, rfl, rfl, hz, h0⟩ := h
  refine ⟨_, rfl, ⟨p, k, c, l.take k, rfl, by omega, hl.take k hk, ⟨hd.take k, ?_⟩, ?_⟩, hb⟩
  · rcases h0 with rfl | h0
    · simp
    · obtain ⟨j, rfl⟩ : ∃ j, k = j + 1 := ⟨k - 1, by
        have : k ≠ 0 := by
          rintro rfl
          by_cases h1 : 0 < n
          · exact h0 (hz 0 (by omega) h1)
          · apply h0; rw [List.getD_eq_getElem?_getD, List.getElem?_eq_none (by rw [hl.len]; omega)]; rfl
        omega⟩
      rw [List.getLast?_eq_getElem?, List.length_take, Nat.min_eq_left (by rw [hl.len]; exact hk), Nat.add_sub_cancel, List.getElem?_take_of_lt (by omega)]
      rw [Nat.add_sub_cancel, List.getD_eq_getElem?_getD] at h0
      intro e1; rw [e1] at h0; exact h0 rfl
  · rw [val_split B64 l k (by rw [hl.len]; exact hk), val_drop_zero l k (fun j h1 h2 => hz j h1 (by rw [hl.len] at h2; exact h2))]
    omega
theorem trimmed_nat (p : Option Addr) (n c : Nat) (l : List Nat) (w0 w : World) (hn : n ≤ maxLen) (hnc : n ≤ c) (hl : Rd w p n l) (hd : Dig B64 l) (hb : Below w0.heap.size w0 w) :
    Calls Tryz.prog 134 #[.slice p n c] w (NatPost (val B64 l) w0) :=
  (trimmed_any p n c l w hn hnc hl).mono fun _ _ h => trim_nat hnc hl hd hb h
theorem no_carry {B n s c a b : Nat} (h : s + B ^ (n + 1) * c = a + b) (ha : a < B ^ n) (hb : b < B ^ n) (hB : 2 ≤ B) : s = a + b ∧ c = 0 := by
  have h1 : 2 * B ^ n ≤ B ^ (n + 1) := by rw [Nat.pow_succ, Nat.mul_comm]; exact Nat.mul_le_mul_left _ hB
  have h2 : c = 0 := by
    apply Nat.eq_zero_of_not_pos; intro hc
    have : B ^ (n + 1) * 1 ≤ B ^ (n + 1) * c := Nat.mul_le_mul_left _ hc
    omega
  subst h2; exact ⟨by omega, rfl⟩
theorem u64s_length (L : List Nat) : (u64s L).length = L.length := by simp [u64s]
theorem u64s_one (L : List Nat) : ∀ v ∈ u64s L, v.oneCell' = true := by
  intro v hv; simp only [u64s, List.mem_map] at hv; obtain ⟨d, _, rfl⟩ := hv; rfl
theorem u64s_splice (L l : List Nat) (off : Nat) (cs : List Value) (h : cs = u64s l) : splice (u64s L) off cs = u64s (splice L off l) := by
  subst h; simp [splice, u64s]
theorem Rd.cells {w : World} {p : Option Addr} {n : Nat} {l : List Nat} (h : Rd w p n l) (hn : 0 < (u64s l).length) : ∃ ad, p = some ad ∧ ∀ j v, (u64s l)[j]? = some v → w.cell? (ad.add j) = some v := by
  rw [u64s_length, h.len] at hn
  obtain ⟨b, off, h1, _, h3⟩ := h.opened hn
  refine ⟨_, h1, fun j v hv => ?_⟩
  obtain ⟨hj, rfl⟩ := List.getElem?_eq_some_iff.1 hv
  rw [u64s_length, h.len] at hj
  have := h3 j hj
  have e : (⟨b, off, none⟩ : Addr).add j = ⟨b, off + j, none⟩ := by
    simp only [Addr.add]; split
    · rename_i h0; subst h0; rfl
    · rfl
  rw [e, this]
  have hjl : j < l.length := by rw [h.len]; exact hj
  simp [u64s, List.getD_eq_getElem?_getD, List.getElem?_eq_getElem hjl]
theorem info79 : (Tryz.prog.info? 76).map (fun i => (i.zero, i.size, i.bytes)) = some (some (.int .u64 0), 1, 8) := by kernel_rfl
theorem splice_head (l : List Nat) (n : Nat) (_ : l.length ≤ n) : splice (List.replicate n 0) 0 l = l ++ List.replicate (n - l.length) 0 := by simp [splice]
def most : Nat := 4294967296
theorem plus_ge (p : Option Addr) (n c : Nat) (x : List Nat) (q : Option Addr) (m d : Nat) (y : List Nat) (w : World) (hn0 : n ≤ most) (hmn : m ≤ n) (hx : Rd w p n x) (hy : Rd w q m y) (dx : Dig B64 x) (dy : Dig B64 y) :
    Calls Tryz.prog 130 #[.slice p n c, .slice q m d] w (NatPost (val B64 x + val B64 y) w) := by
  obtain ⟨i0, hi, hz0, hz1, hz2⟩ := info_parts info79
  have hn : (n : Int) ≤ 4294967296 := by unfold most at hn0; omega
  go_enter Tryz.func130, Tryz.ntmps130
  go_wp2_with (at_make; refine wpList_make_full _ rfl _ _ 64 rfl w.heap.size 76 i0 (.int .u64 0) 1 Tryz.underlying64 hi hz0 hz1 _ _ _ _ (n + 1) rfl rfl (by omega) (by omega) ?b2 ?b3 (Nat.le_refl _) ?_)
  case b2 => rw [hz2]; unfold most at hn0; omega
  case b3 => unfold maxLen; unfold most at hn0; omega
  intro w1 hown hgrow
  have hr1 : Row w1 w.heap.size 76 (List.replicate (n + 1) 0) := row_of_made hown
  have hb1 : Below w.heap.size w w1 := (Below.refl _ _).grown hgrow (Nat.le_refl _) (fun k h => by cases h)
  have hx1 := hx.below hb1
  clear hown hgrow
  go_wp2_with (refine wpList_copy_splice (o := ⟨some 19, _, _, _, _, _⟩) rfl (.tmp 17) (.tmp 18) 64 64 rfl 76 Tryz.underlying64 (by kernel_rfl) _ _ _ _ _ _ rfl rfl w.heap.size 0 (u64s (List.replicate (n + 1) 0)) 76 hr1 (u64s x) ?c1 ?c2 ?c3 (u64s_one x) w.heap.size w hb1 (Nat.le_refl _) ?_)
  case c1 => rw [u64s_length, hx.len]; exact (Nat.min_eq_left (by omega)).symm
  case c2 => exact fun h => hx1.cells h
  case c3 => rw [u64s_length, u64s_length, hx.len, List.length_replicate]; omega
  intro w2 hr2 hb2
  have hr : Row w2 w.heap.size 76 (x ++ List.replicate (n + 1 - n) 0) := by
    have := hr2.out
    rw [u64s_splice _ x _ _ rfl, splice_head x (n + 1) (by rw [hx.len]; omega), hx.len] at this
    exact this
  have hlen : (x ++ List.replicate (n + 1 - n) 0).length = n + 1 := by rw [List.length_append, List.length_replicate, hx.len]; omega
  have hdig : Dig B64 (x ++ List.replicate (n + 1 - n) 0) := dx.append (Dig.zeros B64_pos _)
  have hval : val B64 (x ++ List.replicate (n + 1 - n) 0) = val B64 x := by rw [val_append, val_zeros]; omega
  obtain ⟨L, hL⟩ : ∃ L, Hid (L = x ++ List.replicate (n + 1 - n) 0) := ⟨_, hiD rfl⟩
  rw [← hL.out] at hr hlen hdig hval
  have Hlen := hiD hlen
  have Hval := hiD hval
  have hq : m = 0 ∨ ∀ b o, q = some ⟨b, o, none⟩ → b ≠ w.heap.size := by
    rcases hy.cell with h | ⟨b, o, h1, h2, _⟩
    · exact .inl h
    · refine .inr fun b' o' h => ?_
      rw [h1] at h; cases h; omega
  have hsegL : seg L 0 (n + 1) = L := seg_all L (n + 1) hlen.symm
  have hsegd : Dig B64 (seg L 0 (n + 1)) := by rw [hsegL]; exact hdig
  have HsegL := hiD hsegL
  clear hr2 hlen hval hsegL
  have hbn : n + 1 ≤ maxLen := by unfold maxLen; omega
  go_wp2_with fail
  refine (addInto_any w.heap.size 0 (n + 1) (n + 1) 76 L q m d y _ hbn (by rw [Hlen.out]; omega) (by omega) hr (hy.below hb2) hq hsegd dy).mono ?_
  rintro e w3 ⟨L', cy, hput, hd', hc1, hv', rfl, ho, hr'⟩
  have hl' : L'.length = n + 1 := by rw [hput.length]; exact Hlen.out
  rw [HsegL.out, Hval.out, seg_all L' (n + 1) hl'.symm] at hv'
  rw [seg_all L' (n + 1) hl'.symm] at hd'
  have hlx := val_lt x dx
  have hly := val_lt y dy
  rw [hx.len] at hlx
  rw [hy.len] at hly
  have hpow : B64 ^ m ≤ B64 ^ n := Nat.pow_le_pow_right B64_pos hmn
  obtain ⟨hs, -⟩ := no_carry hv' hlx (by omega) (by rw [B64_eq]; omega)
  have hb3 := Only.below hb2 ho (Nat.le_refl _)
  have ht := trimmed_nat (some ⟨w.heap.size, 0, none⟩) (n + 1) (n + 1) L' w w3 hbn (Nat.le_refl _) (hr'.rd0 (n + 1) hl'.symm) hd' hb3
  rw [hs] at ht
  have Ht := hiD ht
  clear ht hs hv' hl' hlx hly hpow
  go_wp2_with fail
  refine Ht.out.mono ?_
  rintro e w4 ⟨v, rfl, hv⟩
  go_wp2_with fail
  go_ret
  exact ⟨v, rfl, hv⟩
end Go.Proofs.YtoegbjmoecbjdaaGreatDoor
