/- More lemmas for the laws' rows: arguments read behind the call as before it; dates and pairs. -/
import Derived.Test.YthpeaeepcbbfcaaLift
import Derived.Test.YthpeaeepcbbfcaaChecked
import Derived.Lib.SmallJoins
import Derived.Carry
namespace Go.Proofs.Ythpeaeepcbbfcaa
open Go.ChangeShapes Go.WideShapes Go.ChangeAt Go.RowKit Go.Joins

theorem Try.cells28 : Try.prog.cellsOf 28 = 3 := by kernel_rfl
theorem Try.cells59 : Try.prog.cellsOf 59 = 2 := by kernel_rfl
theorem Try.cells3 : Try.prog.cellsOf 3 = 1 := by kernel_rfl
theorem readable3 : Try.prog.readableRec 3 = true := by kernel_rfl
theorem inTypes3 : 3 < Try.prog.types.size := of_decide_eq_true (by kernel_rfl)
theorem readable9 : Try.prog.readableRec 9 = true := by kernel_rfl
theorem inTypes9 : 9 < Try.prog.types.size := of_decide_eq_true (by kernel_rfl)
theorem readable28 : Try.prog.readableRec 28 = true := by kernel_rfl
theorem inTypes28 : 28 < Try.prog.types.size := of_decide_eq_true (by kernel_rfl)
theorem readable43 : Try.prog.readableRec 43 = true := by kernel_rfl
theorem inTypes43 : 43 < Try.prog.types.size := of_decide_eq_true (by kernel_rfl)
theorem readable52 : Try.prog.readableRec 52 = true := by kernel_rfl
theorem inTypes52 : 52 < Try.prog.types.size := of_decide_eq_true (by kernel_rfl)
theorem readable59 : Try.prog.readableRec 59 = true := by kernel_rfl
theorem inTypes59 : 59 < Try.prog.types.size := of_decide_eq_true (by kernel_rfl)
theorem laidAll : laidOutB Try.prog = true := by kernel_rfl

section
variable {H : Type} {enc : TypeId × Value → H} {P : Program}
theorem trodAll_stays (hl : laidOutB P = true) {W W' : World} (hb : Below W.heap.size W W') (sp : Nat → Bool) :
    ∀ (ts : List TypeId) (vs : List Value) (ds : List (DataW H)) (ps : List MemPlace), (∀ t ∈ ts, P.readableRec t = true) → (∀ t ∈ ts, t < P.types.size) →
      DataW.TrodAll enc P W 0 (fun _ => true) true ts vs ds ps → (∀ x ∈ ps, x.block < W.heap.size) → (∀ x ∈ ps, sp x.block = true) → DataW.TrodAll enc P W' 0 sp true ts vs ds ps := by
  intro ts
  induction ts with
  | nil =>
    intro vs ds ps _ _ h _ _
    obtain ⟨rfl, rfl, rfl⟩ := trodAll_nil h
    exact trodAll_mk0
  | cons t ts ih =>
    intro vs ds ps hr hrow h hlt hsp
    obtain ⟨v, vs', d, ds', p, q, rfl, rfl, rfl, h0, h1⟩ := trodAll_cons h
    exact trodAll_cons_mk (WideElems.Trod_stays hl (hr t (by simp)) (hrow t (by simp)) h0 (fun x hx => hb.same (hlt x (by simp [hx]))) (fun x hx => hsp x (by simp [hx])))
      (ih vs' ds' q (fun t ht => hr t (by simp [ht])) (fun t ht => hrow t (by simp [ht])) h1 (fun x hx => hlt x (by simp [hx])) (fun x hx => hsp x (by simp [hx])))

variable {w : World} {base b0 : Nat} {spare : Nat → Bool} {held : Bool} {r : Reach} {v : Value} {d : DataW H} {p : List MemPlace}
set_option maxRecDepth 100000 in
theorem open_date (hv : Value.okWide Try.prog w r b0 28 v) (h : DataW.Trod enc Try.prog w base spare held 28 v d p) :
    ∃ y m k : Int, v = .agg #[.int .i64 y, .int .i64 m, .int .i64 k] ∧ (Lit.int .i64 y).wf = true ∧ (Lit.int .i64 m).wf = true ∧ (Lit.int .i64 k).wf = true := by
  obtain ⟨c0, c1, c2, y0, y1, y2, n, rfl, rfl, rfl, hy0, hy1, hy2⟩ := open_agg3 Try.underlying28 (by kernel_rfl) Try.cells28 hv h
  obtain ⟨x, e0, rfl, wx⟩ := DataW.trod_int Try.underlying3 hy0
  obtain ⟨y, e1, rfl, wy⟩ := DataW.trod_int Try.underlying3 hy1
  obtain ⟨f, e2, rfl, wf⟩ := DataW.trod_int Try.underlying3 hy2
  simp at e0 e1 e2
  subst e0 e1 e2
  exact ⟨x, y, f, rfl, wx, wy, wf⟩
set_option maxRecDepth 100000 in
theorem open_pair (hv : Value.okWide Try.prog w r b0 59 v) (h : DataW.Trod enc Try.prog w base spare held 59 v d p) :
    ∃ a b : Int, v = .agg #[.int .i64 a, .int .i64 b] ∧ (Lit.int .i64 a).wf = true ∧ (Lit.int .i64 b).wf = true := by
  have hv' : ∃ cs, v = .agg cs ∧ cs.size = Try.prog.cellsOf 59 := by
    simp only [Value.okWide, Try.underlying59] at hv
    obtain ⟨cs, h1, h2, _⟩ := hv
    exact ⟨cs, h1, h2⟩
  obtain ⟨cs, rfl, hsz⟩ := hv'
  obtain ⟨c0, c1, rfl⟩ := array2 (hsz.trans Try.cells59)
  obtain ⟨fuel, hf⟩ := h
  obtain ⟨xs, m, -, -, -, hl, hg⟩ := DataW.trod_array Try.underlying59 hf
  obtain ⟨z0, z1, rfl⟩ : ∃ z0 z1, xs = [z0, z1] := by
    match xs, hl with
    | [z0, z1], _ => exact ⟨z0, z1, rfl⟩
  have h0 := hg 0 (by omega)
  have h1 := hg 1 (by omega)
  simp [Value.cells, Try.cells3] at h0 h1
  obtain ⟨x, e0, -, wx⟩ := DataW.trod_int Try.underlying3 h0
  obtain ⟨y, e1, -, wy⟩ := DataW.trod_int Try.underlying3 h1
  simp at e0 e1
  subst e0 e1
  exact ⟨x, y, rfl, wx, wy⟩
end
end Go.Proofs.Ythpeaeepcbbfcaa
