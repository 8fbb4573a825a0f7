/- The map of the calendars; Find and Name. -/
import Derived.Test.YthpeaeepcbbfcaaAF
import Derived.Maps.RangeWalk
import Derived.Maps.OwnSet
import Derived.Maps.OwnOps
import Derived.Maps.Views
import Derived.StringKeys
namespace Go.Proofs.Ythpeaeepcbbfcaa
open Go.RowKit Go.Maps

theorem law9 : Keyed Try.prog 9 := string_keyed Try.underlying9
abbrev DU := DataW Unit
def nm1 : List UInt8 := [103, 114, 101, 103, 111, 114, 105, 97, 110]
def nm2 : List UInt8 := [106, 117, 108, 105, 97, 110]
def nm3 : List UInt8 := [110, 111, 108, 101, 97, 112]
def nm4 : List UInt8 := [97, 108, 108, 108, 101, 97, 112]
def nm5 : List UInt8 := [51, 54, 48, 100, 97, 121]
def num3 (c : Int) : DU := .lit (.int .i64 c)
/-- The map of the calendars as data. -/
def calD : DU := (((((DataW.map []).put (.string nm1) (num3 1)).put (.string nm2) (num3 2)).put (.string nm3) (num3 3)).put (.string nm4) (num3 4)).put (.string nm5) (num3 5)

/-- A map literal's entry. -/
theorem wpList_insert_own {H : Type} {P : Program} (w : World) {ops : Array Oper} {rest : List Oper} {o : Oper} {a : Act} {Q : Exit → Act → World → Prop}
    (hg : o.guard = none) (m x v : Operand) (t : TypeId) (hop : o.op = Op.insert t m x v)
    (k e : TypeId) (K : Keyed P k) (ht : P.underlying t = some (.map k e)) (R : Value → Option (DataW H × List MemPlace)) (b n : Nat) (D : DataW H)
    (hm : a.eval m = .map (some b)) (hown : w.ownsMap P k R b n D) (hn : n < maxLen) (key val : Value) (kl : Lit) (hx : a.eval x = key) (hv : a.eval v = val) (hkey : keyOf P k key = some kl)
    (d : DataW H) (ps : List MemPlace) (hval : R val = some (d, ps))
    (hK : ∀ w', w'.ownsMap P k R b (n + 1) (D.put kl d) → w.grownBy w' (some b) → wpList P ops Q rest (a.put o.dst undef) w') :
    wpList P ops Q (o :: rest) a w := by
  refine wpList_plain hg fun K' hK' => ?_
  obtain ⟨w', hrun, r1, r2⟩ := hown.update K ht hn hkey hval
  unfold Oper.wp
  simp [execOp, hop, hm, hx, hv, hrun, Result.andThen]
  exact hK' _ _ (hK w' r1 r2)

/-- What calendars returns. -/
def CalMap (w : World) (e : Ending) (w' : World) : Prop := ∃ b, e = .returned (.map (some b)) ∧ w.heap.size ≤ b ∧ w'.ownsMap Try.prog 9 (plainElem Try.prog 3) b 5 calD ∧ Below w.heap.size w w'
theorem below_turn {w W W' : World} {b : Nat} (h : Below w.heap.size w W) (hb : w.heap.size ≤ b) (hg : W.grownBy W' (some b)) : Below w.heap.size w W' := h.grown hg h.size (fun k hk => by cases hk; exact hb)

set_option maxRecDepth 100000 in
set_option maxHeartbeats 1600000 in
theorem calendars_any (w : World) : Calls Try.prog 46 #[] w (CalMap w) := by
  have hmm := @run_makeMap Try.prog
  have h0 := World.ownsMap_made (H := Unit) w Try.prog 9 (plainElem Try.prog 3)
  have b0 := below_alloc w (.map #[] 0)
  have k1 : keyOf Try.prog 9 (.string ⟨#[103, 114, 101, 103, 111, 114, 105, 97, 110]⟩) = some (.string nm1) := WideMaps.keyOf_string_mk Try.underlying9 (by unfold maxLen; decide)
  have v1 : plainElem (H := Unit) Try.prog 3 (.int .i64 1) = some (num3 1, []) := plainElem_int Try.underlying3 (by decide)
  have k2 : keyOf Try.prog 9 (.string ⟨#[106, 117, 108, 105, 97, 110]⟩) = some (.string nm2) := WideMaps.keyOf_string_mk Try.underlying9 (by unfold maxLen; decide)
  have v2 : plainElem (H := Unit) Try.prog 3 (.int .i64 2) = some (num3 2, []) := plainElem_int Try.underlying3 (by decide)
  have k3 : keyOf Try.prog 9 (.string ⟨#[110, 111, 108, 101, 97, 112]⟩) = some (.string nm3) := WideMaps.keyOf_string_mk Try.underlying9 (by unfold maxLen; decide)
  have v3 : plainElem (H := Unit) Try.prog 3 (.int .i64 3) = some (num3 3, []) := plainElem_int Try.underlying3 (by decide)
  have k4 : keyOf Try.prog 9 (.string ⟨#[97, 108, 108, 108, 101, 97, 112]⟩) = some (.string nm4) := WideMaps.keyOf_string_mk Try.underlying9 (by unfold maxLen; decide)
  have v4 : plainElem (H := Unit) Try.prog 3 (.int .i64 4) = some (num3 4, []) := plainElem_int Try.underlying3 (by decide)
  have k5 : keyOf Try.prog 9 (.string ⟨#[51, 54, 48, 100, 97, 121]⟩) = some (.string nm5) := WideMaps.keyOf_string_mk Try.underlying9 (by unfold maxLen; decide)
  have v5 : plainElem (H := Unit) Try.prog 3 (.int .i64 5) = some (num3 5, []) := plainElem_int Try.underlying3 (by decide)
  have H0 := Lib.hid h0
  have B0 := Lib.hid b0
  have K1 := Lib.hid k1
  have V1 := Lib.hid v1
  clear k1 v1
  have K2 := Lib.hid k2
  have V2 := Lib.hid v2
  clear k2 v2
  have K3 := Lib.hid k3
  have V3 := Lib.hid v3
  clear k3 v3
  have K4 := Lib.hid k4
  have V4 := Lib.hid v4
  clear k4 v4
  have K5 := Lib.hid k5
  have V5 := Lib.hid v5
  clear k5 v5
  clear h0 b0
  go_enter Try.func46, Try.ntmps46
  go_wp2_with (first | (refine wpList_insert_own _ (o := ⟨none, Op.insert 62 (.tmp 1) (.const (.string ⟨#[103, 114, 101, 103, 111, 114, 105, 97, 110]⟩)) (.const (.int .i64 1)), _, _, _, _⟩) rfl _ _ _ 62 rfl 9 3 law9 Try.underlying62 _ w.heap.size 0 _ rfl H0.out (by unfold maxLen; omega) _ _ _ rfl rfl K1.out _ [] V1.out ?_; intro w1 h1 g1; have H1 := Lib.hid h1; have B1 := Lib.hid (below_turn B0.out (Nat.le_refl _) g1); clear h1 g1) | (refine wpList_insert_own _ (o := ⟨none, Op.insert 62 (.tmp 1) (.const (.string ⟨#[106, 117, 108, 105, 97, 110]⟩)) (.const (.int .i64 2)), _, _, _, _⟩) rfl _ _ _ 62 rfl 9 3 law9 Try.underlying62 _ w.heap.size 1 _ rfl H1.out (by unfold maxLen; omega) _ _ _ rfl rfl K2.out _ [] V2.out ?_; intro w2 h2 g2; have H2 := Lib.hid h2; have B2 := Lib.hid (below_turn B1.out (Nat.le_refl _) g2); clear h2 g2) | (refine wpList_insert_own _ (o := ⟨none, Op.insert 62 (.tmp 1) (.const (.string ⟨#[110, 111, 108, 101, 97, 112]⟩)) (.const (.int .i64 3)), _, _, _, _⟩) rfl _ _ _ 62 rfl 9 3 law9 Try.underlying62 _ w.heap.size 2 _ rfl H2.out (by unfold maxLen; omega) _ _ _ rfl rfl K3.out _ [] V3.out ?_; intro w3 h3 g3; have H3 := Lib.hid h3; have B3 := Lib.hid (below_turn B2.out (Nat.le_refl _) g3); clear h3 g3) | (refine wpList_insert_own _ (o := ⟨none, Op.insert 62 (.tmp 1) (.const (.string ⟨#[97, 108, 108, 108, 101, 97, 112]⟩)) (.const (.int .i64 4)), _, _, _, _⟩) rfl _ _ _ 62 rfl 9 3 law9 Try.underlying62 _ w.heap.size 3 _ rfl H3.out (by unfold maxLen; omega) _ _ _ rfl rfl K4.out _ [] V4.out ?_; intro w4 h4 g4; have H4 := Lib.hid h4; have B4 := Lib.hid (below_turn B3.out (Nat.le_refl _) g4); clear h4 g4) | (refine wpList_insert_own _ (o := ⟨none, Op.insert 62 (.tmp 1) (.const (.string ⟨#[51, 54, 48, 100, 97, 121]⟩)) (.const (.int .i64 5)), _, _, _, _⟩) rfl _ _ _ 62 rfl 9 3 law9 Try.underlying62 _ w.heap.size 4 _ rfl H4.out (by unfold maxLen; omega) _ _ _ rfl rfl K5.out _ [] V5.out ?_; intro w5 h5 g5; have H5 := Lib.hid h5; have B5 := Lib.hid (below_turn B4.out (Nat.le_refl _) g5); clear h5 g5))
  go_ret
  exact ⟨_, rfl, Nat.le_refl _, H5.out, B5.out⟩
end Go.Proofs.Ythpeaeepcbbfcaa
