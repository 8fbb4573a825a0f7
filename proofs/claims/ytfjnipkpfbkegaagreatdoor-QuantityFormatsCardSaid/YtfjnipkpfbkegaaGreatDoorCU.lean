/- Opening a unit by value, and arguments of whatever type behind a call that stores in its own memory only. -/
import Derived.Test.YtfjnipkpfbkegaaGreatDoorPart22
import Derived.Lib.SmallJoins
import Derived.OpenShut
import Derived.Carry
set_option maxRecDepth 100000
namespace Go.Proofs.YtfjnipkpfbkegaaGreatDoor
open Go.ChangeMaps Go.ChangeShapes Go.WideShapes Go.ChangeAt Go.RowKit Go.Joins
theorem Tryz.cells24 : Tryz.prog.cellsOf 24 = 9 := by kernel_rfl
theorem Tryz.cells22 : Tryz.prog.cellsOf 22 = 7 := by kernel_rfl
theorem Tryz.cells9 : Tryz.prog.cellsOf 9 = 1 := by kernel_rfl
theorem Tryz.cells3 : Tryz.prog.cellsOf 3 = 1 := by kernel_rfl
theorem readable24 : Tryz.prog.readableRec 24 = true := by kernel_rfl
theorem inTypes24 : 24 < Tryz.prog.types.size := of_decide_eq_true (by kernel_rfl)
theorem laidAll : laidOutB Tryz.prog = true := by kernel_rfl
theorem array9 {α : Type} {cs : Array α} (h : cs.size = 9) : ∃ c0 c1 c2 c3 c4 c5 c6 c7 c8, cs = #[c0, c1, c2, c3, c4, c5, c6, c7, c8] := by
  obtain ⟨l⟩ := cs
  match l, h with
  | [c0, c1, c2, c3, c4, c5, c6, c7, c8], _ => exact ⟨c0, c1, c2, c3, c4, c5, c6, c7, c8, rfl⟩
section
variable {H : Type} {enc : TypeId × Value → H} {P : Program}
theorem trodAll_stays (hl : laidOutB P = true) {W W' : World} (hb : Below W.heap.size W W') (sp : Nat → Bool) :
    ∀ (ts : List TypeId) (vs : List Value) (ds : List (DataW H)) (ps : List MemPlace), (∀ t ∈ ts, P.readableRec t = true) → (∀ t ∈ ts, t < P.types.size) →
      DataW.TrodAll enc P W 0 (fun _ => true) true ts vs ds ps → (∀ x ∈ ps, x.block < W.heap.size) → (∀ x ∈ ps, sp x.block = true) → DataW.TrodAll enc P W' 0 sp true ts vs ds ps := by
  intro ts
  induction ts with
  | nil =>
    intro vs ds ps _ _ h _ _
    obtain ⟨rfl, rfl, rfl⟩ := trodAll_nil h
    exact trodAll_mk0
  | cons t ts ih =>
    intro vs ds ps hr hrow h hlt hsp
    obtain ⟨v, vs', d, ds', p, q, rfl, rfl, rfl, h0, h1⟩ := trodAll_cons h
    exact trodAll_cons_mk (WideElems.Trod_stays hl (hr t (by simp)) (hrow t (by simp)) h0 (fun x hx => hb.same (hlt x (by simp [hx]))) (fun x hx => hsp x (by simp [hx])))
      (ih vs' ds' q (fun t ht => hr t (by simp [ht])) (fun t ht => hrow t (by simp [ht])) h1 (fun x hx => hlt x (by simp [hx])) (fun x hx => hsp x (by simp [hx])))
variable {w : World} {base b0 : Nat} {spare : Nat → Bool} {held : Bool} {r : Reach} {v : Value} {d : DataW H} {p : List MemPlace}
theorem int_at {xs : List (DataW H × List MemPlace)} {m i : Nat} {c : Value} (hi : i < xs.length) (h : DataW.trod enc Tryz.prog w base spare held m 3 [c] = xs[i]?) : ∃ x : Int, c = .int .i64 x := by
  rw [List.getElem?_eq_getElem hi] at h
  obtain ⟨x, e, -, -⟩ := DataW.trod_int Tryz.underlying3 h
  exact ⟨x, by simpa using e⟩
theorem open_unit (hv : Value.okWide Tryz.prog w r b0 24 v) (h : DataW.Trod enc Tryz.prog w base spare held 24 v d p) :
    ∃ (f o : ByteArray) (p0 p1 p2 p3 p4 p5 p6 : Int), v = .agg #[.string f, .string o, .int .i64 p0, .int .i64 p1, .int .i64 p2, .int .i64 p3, .int .i64 p4, .int .i64 p5, .int .i64 p6] := by
  obtain ⟨cs, rfl, hsz⟩ := okWide_struct Tryz.underlying24 hv
  obtain ⟨c0, c1, c2, c3, c4, c5, c6, c7, c8, rfl⟩ := array9 (hsz.trans Tryz.cells24)
  obtain ⟨fuel, hf⟩ := h
  obtain ⟨y0, y1, y2, n, hx, _, h0, h1, h2⟩ := Go.Deep.trod_struct3 Tryz.underlying24 hf
  have g0 : DataW.trod enc Tryz.prog w base spare held n 9 [c0] = some y0 := by simpa [Value.cells, Tryz.cells9] using h0
  have g1 : DataW.trod enc Tryz.prog w base spare held n 9 [c1] = some y1 := by simpa [Value.cells, Tryz.cells9] using h1
  have g2 : DataW.trod enc Tryz.prog w base spare held n 22 [c2, c3, c4, c5, c6, c7, c8] = some y2 := by simpa [Value.cells, Tryz.cells22] using h2
  obtain ⟨f, e0, -, -⟩ := DataW.trod_string Tryz.underlying9 g0
  obtain ⟨o, e1, -, -⟩ := DataW.trod_string Tryz.underlying9 g1
  obtain ⟨xs, m, -, -, -, hl, hi⟩ := DataW.trod_array Tryz.underlying22 g2
  have k : ∀ i, i < 7 → i < xs.length := fun i h => by omega
  obtain ⟨p0, q0⟩ := int_at (c := c2) (k 0 (by omega)) (by simpa [Tryz.cells3] using hi 0 (by omega))
  obtain ⟨p1, q1⟩ := int_at (c := c3) (k 1 (by omega)) (by simpa [Tryz.cells3] using hi 1 (by omega))
  obtain ⟨p2, q2⟩ := int_at (c := c4) (k 2 (by omega)) (by simpa [Tryz.cells3] using hi 2 (by omega))
  obtain ⟨p3, q3⟩ := int_at (c := c5) (k 3 (by omega)) (by simpa [Tryz.cells3] using hi 3 (by omega))
  obtain ⟨p4, q4⟩ := int_at (c := c6) (k 4 (by omega)) (by simpa [Tryz.cells3] using hi 4 (by omega))
  obtain ⟨p5, q5⟩ := int_at (c := c7) (k 5 (by omega)) (by simpa [Tryz.cells3] using hi 5 (by omega))
  obtain ⟨p6, q6⟩ := int_at (c := c8) (k 6 (by omega)) (by simpa [Tryz.cells3] using hi 6 (by omega))
  simp only [List.cons.injEq, and_true] at e0 e1
  subst e0 e1 q0 q1 q2 q3 q4 q5 q6
  exact ⟨f, o, p0, p1, p2, p3, p4, p5, p6, rfl⟩
end
end Go.Proofs.YtfjnipkpfbkegaaGreatDoor
