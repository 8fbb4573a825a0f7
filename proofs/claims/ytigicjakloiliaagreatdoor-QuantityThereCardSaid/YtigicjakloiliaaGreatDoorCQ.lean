/- QuantityUnits: for every two units and every two numbers the law returns true, and its arguments read as they did. Conditions: the listed variables of Go's library start as the program's text lays them. -/
import Derived.Test.YtigicjakloiliaaGreatDoorCP
import Derived.Test.YtigicjakloiliaaGreatDoorCL
import Derived.Lib.SmallJoins
import Derived.OpenShut
import Derived.Carry
namespace Go.Proofs.YtigicjakloiliaaGreatDoor
open Go.ChangeMaps Go.ChangeShapes Go.WideShapes Go.ChangeAt Go.RowKit Go.Joins

theorem Tryz.cells53 : Tryz.prog.cellsOf 53 = 9 := by kernel_rfl
theorem Tryz.cells51 : Tryz.prog.cellsOf 51 = 7 := by kernel_rfl
theorem Tryz.cells9 : Tryz.prog.cellsOf 9 = 1 := by kernel_rfl
theorem Tryz.cells3 : Tryz.prog.cellsOf 3 = 1 := by kernel_rfl
theorem readable3 : Tryz.prog.readableRec 3 = true := by kernel_rfl
theorem inTypes3 : 3 < Tryz.prog.types.size := of_decide_eq_true (by kernel_rfl)
theorem readable53 : Tryz.prog.readableRec 53 = true := by kernel_rfl
theorem inTypes53 : 53 < Tryz.prog.types.size := of_decide_eq_true (by kernel_rfl)
theorem readable9 : Tryz.prog.readableRec 9 = true := by kernel_rfl
theorem inTypes9 : 9 < Tryz.prog.types.size := of_decide_eq_true (by kernel_rfl)
theorem laidAll : laidOutB Tryz.prog = true := by kernel_rfl

theorem array9 {α : Type} {cs : Array α} (h : cs.size = 9) : ∃ c0 c1 c2 c3 c4 c5 c6 c7 c8, cs = #[c0, c1, c2, c3, c4, c5, c6, c7, c8] := by
  obtain ⟨l⟩ := cs
  match l, h with
  | [c0, c1, c2, c3, c4, c5, c6, c7, c8], _ => exact ⟨c0, c1, c2, c3, c4, c5, c6, c7, c8, rfl⟩
section
variable {H : Type} {enc : TypeId × Value → H} {P : Program}
theorem trodAll_stays (hl : laidOutB P = true) {W W' : World} (hb : Below W.heap.size W W') (sp : Nat → Bool) :
    ∀ (ts : List TypeId) (vs : List Value) (ds : List (DataW H)) (ps : List MemPlace), (∀ t ∈ ts, P.readableRec t = true) → (∀ t ∈ ts, t < P.types.size) →
      DataW.TrodAll enc P W 0 (fun _ => true) true ts vs ds ps → (∀ x ∈ ps, x.block < W.heap.size) → (∀ x ∈ ps, sp x.block = true) → DataW.TrodAll enc P W' 0 sp true ts vs ds ps := by
  intro ts
  induction ts with
  | nil =>
    intro vs ds ps _ _ h _ _
    obtain ⟨rfl, rfl, rfl⟩ := trodAll_nil h
    exact trodAll_mk0
  | cons t ts ih =>
    intro vs ds ps hr hrow h hlt hsp
    obtain ⟨v, vs', d, ds', p, q, rfl, rfl, rfl, h0, h1⟩ := trodAll_cons h
    exact trodAll_cons_mk (WideElems.Trod_stays hl (hr t (by simp)) (hrow t (by simp)) h0 (fun x hx => hb.same (hlt x (by simp [hx]))) (fun x hx => hsp x (by simp [hx])))
      (ih vs' ds' q (fun t ht => hr t (by simp [ht])) (fun t ht => hrow t (by simp [ht])) h1 (fun x hx => hlt x (by simp [hx])) (fun x hx => hsp x (by simp [hx])))

variable {w : World} {base b0 : Nat} {spare : Nat → Bool} {held : Bool} {r : Reach} {v : Value} {d : DataW H} {p : List MemPlace}
theorem int_at {xs : List (DataW H × List MemPlace)} {m i : Nat} {c : Value} (hi : i < xs.length) (h : DataW.trod enc Tryz.prog w base spare held m 3 [c] = xs[i]?) : ∃ x : Int, c = .int .i64 x := by
  rw [List.getElem?_eq_getElem hi] at h
  obtain ⟨x, e, -, -⟩ := DataW.trod_int Tryz.underlying3 h
  exact ⟨x, by simpa using e⟩
set_option maxRecDepth 100000 in
theorem open_unit (hv : Value.okWide Tryz.prog w r b0 53 v) (h : DataW.Trod enc Tryz.prog w base spare held 53 v d p) :
    ∃ (f o : ByteArray) (p0 p1 p2 p3 p4 p5 p6 : Int), v = .agg #[.string f, .string o, .int .i64 p0, .int .i64 p1, .int .i64 p2, .int .i64 p3, .int .i64 p4, .int .i64 p5, .int .i64 p6] := by
  obtain ⟨cs, rfl, hsz⟩ := okWide_struct Tryz.underlying53 hv
  obtain ⟨c0, c1, c2, c3, c4, c5, c6, c7, c8, rfl⟩ := array9 (hsz.trans Tryz.cells53)
  obtain ⟨fuel, hf⟩ := h
  obtain ⟨y0, y1, y2, n, hx, _, h0, h1, h2⟩ := Go.Deep.trod_struct3 Tryz.underlying53 hf
  have g0 : DataW.trod enc Tryz.prog w base spare held n 9 [c0] = some y0 := by simpa [Value.cells, Tryz.cells9] using h0
  have g1 : DataW.trod enc Tryz.prog w base spare held n 9 [c1] = some y1 := by simpa [Value.cells, Tryz.cells9] using h1
  have g2 : DataW.trod enc Tryz.prog w base spare held n 51 [c2, c3, c4, c5, c6, c7, c8] = some y2 := by simpa [Value.cells, Tryz.cells51] using h2
  obtain ⟨f, e0, -, -⟩ := DataW.trod_string Tryz.underlying9 g0
  obtain ⟨o, e1, -, -⟩ := DataW.trod_string Tryz.underlying9 g1
  obtain ⟨xs, m, -, -, -, hl, hi⟩ := DataW.trod_array Tryz.underlying51 g2
  have k : ∀ i, i < 7 → i < xs.length := fun i h => by omega
  obtain ⟨p0, q0⟩ := int_at (c := c2) (k 0 (by omega)) (by simpa [Tryz.cells3] using hi 0 (by omega))
  obtain ⟨p1, q1⟩ := int_at (c := c3) (k 1 (by omega)) (by simpa [Tryz.cells3] using hi 1 (by omega))
  obtain ⟨p2, q2⟩ := int_at (c := c4) (k 2 (by omega)) (by simpa [Tryz.cells3] using hi 2 (by omega))
  obtain ⟨p3, q3⟩ := int_at (c := c5) (k 3 (by omega)) (by simpa [Tryz.cells3] using hi 3 (by omega))
  obtain ⟨p4, q4⟩ := int_at (c := c6) (k 4 (by omega)) (by simpa [Tryz.cells3] using hi 4 (by omega))
  obtain ⟨p5, q5⟩ := int_at (c := c7) (k 5 (by omega)) (by simpa [Tryz.cells3] using hi 5 (by omega))
  obtain ⟨p6, q6⟩ := int_at (c := c8) (k 6 (by omega)) (by simpa [Tryz.cells3] using hi 6 (by omega))
  simp only [List.cons.injEq, and_true] at e0 e1
  subst e0 e1 q0 q1 q2 q3 q4 q5 q6
  exact ⟨f, o, p0, p1, p2, p3, p4, p5, p6, rfl⟩
end

theorem units_readable : ∀ t ∈ Tryz.f16.params.toList, Tryz.prog.readableRec t = true := by
  rw [Tryz.params16]
  intro t ht
  have ht : t ∈ [53, 53, 3, 3] := ht
  simp only [List.mem_cons, List.not_mem_nil, or_false] at ht
  rcases ht with rfl | rfl | rfl | rfl
  · exact readable53
  · exact readable53
  · exact readable3
  · exact readable3
theorem units_inTypes : ∀ t ∈ Tryz.f16.params.toList, t < Tryz.prog.types.size := by
  rw [Tryz.params16]
  intro t ht
  have ht : t ∈ [53, 53, 3, 3] := ht
  simp only [List.mem_cons, List.not_mem_nil, or_false] at ht
  rcases ht with rfl | rfl | rfl | rfl
  · exact inTypes53
  · exact inTypes53
  · exact inTypes3
  · exact inTypes3
/-- The door's own heap meets the condition. -/
theorem units_met (os : Os) (args : Array Value) : laidMetH Tryz.prog Rows.quantityUnitsRow.laid ((World.doorLaid Tryz.prog 62 os).forCall (fun _ _ => 0) ⟨#[], args, []⟩).memory := by
  rw [MakeChecks.laidMetH_plain _ _ _ (by kernel_rfl)]
  exact laidMet_of_run' 8 (by kernel_rfl) (by kernel_rfl)

set_option maxRecDepth 100000 in
theorem units_lifted (os : Os) (started : os.Started) (H : Type) (enc : TypeId × Value → H) :
    ReturnsInHanded {} Tryz.checked os 16 .any (fun w args => (Rows.quantityUnitsSpec.pre enc Tryz.prog Tryz.f16 [] false w args ∧ laidMetH Tryz.prog Rows.quantityUnitsRow.laid w) ∧ sizedMet enc Tryz.prog Tryz.f16 (OpenSpec.ofChange Rows.quantityUnitsSpec) false w args)
      (Rows.quantityUnitsSpec.post enc Tryz.prog Tryz.f16 false true false false) := by
  refine returnsInHanded_of_change_and (C := Tryz.checked) (X := fun w _ => laidMetH Tryz.prog Rows.quantityUnitsRow.laid w) (fun _ _ _ hh h => h.of_heap hh) ownK started (by kernel_rfl) Tryz.func16
    (ChangeSpec.witness_shaped (enc := enc) (C := Tryz.checked) (os := os) (X := fun w _ => laidMetH Tryz.prog Rows.quantityUnitsRow.laid w) false (World.doorLaid Tryz.prog 62 os) #[.agg #[.string ⟨#[]⟩, .string ⟨#[]⟩, .int .i64 0, .int .i64 0, .int .i64 0, .int .i64 0, .int .i64 0, .int .i64 0, .int .i64 0], .agg #[.string ⟨#[]⟩, .string ⟨#[]⟩, .int .i64 0, .int .i64 0, .int .i64 0, .int .i64 0, .int .i64 0, .int .i64 0, .int .i64 0], .int .i64 0, .int .i64 0] 8 rfl (World.shaped_of_RefB (by kernel_rfl) (by kernel_rfl)) (by kernel_rfl) (by kernel_rfl) (by kernel_rfl) (units_met os _)) ?_
  intro W base args ds gs before hval0 hW _ _ hL _
  have hval : ∀ (j : Nat) t v, Tryz.f16.params[j]? = some t → args[j]? = some v → Value.okWide Tryz.prog W .any base t v := hval0
  have hW' := hW
  obtain ⟨p, q, hA0, hV, hpq, hfz, hnd⟩ := hW
  have hA : DataW.TrodAll enc Tryz.prog W 0 (fun _ => true) true Tryz.f16.params.toList args.toList ds p := hA0
  have hA' := hA
  rw [Tryz.params16] at hA' hval
  obtain ⟨v0, vs0, d0, ds0, p0, q0, hargs, rfl, -, h0, r0⟩ := trodAll_cons hA'
  obtain ⟨v1, vs1, d1, ds1, p1, q1, rfl, rfl, -, h1, r1⟩ := trodAll_cons r0
  obtain ⟨v2, vs2, d2, ds2, p2, q2, rfl, rfl, -, h2, r2⟩ := trodAll_cons r1
  obtain ⟨v3, vs3, d3, ds3, p3, q3, rfl, rfl, -, h3, r3⟩ := trodAll_cons r2
  obtain ⟨rfl, rfl, -⟩ := trodAll_nil r3
  obtain rfl : args = #[v0, v1, v2, v3] := by cases args; simp_all
  obtain ⟨rfl, rfl⟩ := trodVars_none hV
  obtain ⟨f, o, m0, m1, m2, m3, m4, m5, m6, rfl⟩ := open_unit (hval 0 53 v0 rfl rfl) h0
  obtain ⟨f', o', n0, n1, n2, n3, n4, n5, n6, rfl⟩ := open_unit (hval 1 53 v1 rfl rfl) h1
  obtain ⟨a2, rfl, -, -, w2⟩ := open_int Tryz.underlying3 (hval 2 3 v2 rfl rfl) h2
  obtain ⟨a3, rfl, -, -, w3⟩ := open_int Tryz.underlying3 (hval 3 3 v3 rfl rfl) h3
  clear hA0 hval0 hA'
  have hp : before = p := by rw [hpq, List.append_nil]
  have hlt : ∀ x ∈ p, x.block < W.heap.size := fun x hx => hW'.lt x (by rw [hp]; exact hx)
  refine (units_any f o m0 m1 m2 m3 m4 m5 m6 f' o' n0 n1 n2 n3 n4 n5 n6 a2 a3 W (order_tab hL)).mono fun e W' ⟨he, hg⟩ => ?_
  subst he
  exact ⟨_, rfl, post_of_below (pa := p) (pv := []) hW' (fun _ _ _ => trodAll_cons_mk (shut_bool Tryz.underlying4 _) trodAll_mk0)
    (fun sp hsp => trodAll_stays laidAll hg sp _ _ _ _ units_readable units_inTypes hA hlt (fun x hx => hsp x (by rw [hp]; exact hx)))
    (fun _ _ => rfl) (by rw [hp, List.append_nil]) hg (ok_one (by kernel_rfl) rfl (okWide_bool_mk Tryz.underlying4 _))⟩
theorem units_name : Tryz.pinned.checked.prog.funcNamed Rows.quantityUnitsRow.func = some 16 := by kernel_rfl

theorem units_plain (f : FuncId) (fn : Func) (hf : Tryz.pinned.checked.prog.funcNamed "arrayarchive/arrayarchivelaw01.QuantityUnits" = some f) (hfn : Tryz.pinned.checked.prog.funcs[f]? = some fn) :
    true = Tryz.pinned.checked.prog.looks [] ∧ ∀ (j : Nat) t, fn.params[j]? = some t → Tryz.pinned.checked.prog.wantsStandIn t = false := by
  obtain rfl : f = 16 := Option.some.inj ((show Tryz.prog.funcNamed "arrayarchive/arrayarchivelaw01.QuantityUnits" = some 16 by kernel_rfl).symm.trans hf) |>.symm
  obtain rfl : fn = Tryz.f16 := (Option.some.inj (Tryz.func16.symm.trans hfn)).symm
  refine ⟨by kernel_rfl, fun j t ht => ?_⟩
  rw [Tryz.params16] at ht
  have hm : t = 53 ∨ t = 3 := by simpa using Array.mem_of_getElem? ht
  rcases hm with rfl | rfl
  · exact (show Tryz.prog.wantsStandIn 53 = false by kernel_rfl)
  · exact (show Tryz.prog.wantsStandIn 3 = false by kernel_rfl)


set_option maxHeartbeats 0 in
theorem units_closed : joinedFacts Tryz.pinned.checked.prog 16 Tryz.f16 Rows.quantityUnitsSpec Rows.quantityUnitsRow = true := by
  have h := field_closed
  unfold joinedFacts at h
  simp only [Bool.and_eq_true] at h
  obtain ⟨⟨⟨⟨⟨⟨⟨⟨⟨⟨⟨⟨⟨⟨⟨⟨⟨⟨⟨⟨⟨⟨⟨⟨⟨⟨⟨⟨⟨⟨⟨h0, h1⟩, h2⟩, h3⟩, h4⟩, h5⟩, h6⟩, h7⟩, h8⟩, h9⟩, h10⟩, h11⟩, h12⟩, h13⟩, h14⟩, h15⟩, h16⟩, h17⟩, h18⟩, h19⟩, h20⟩, h21⟩, h22⟩, h23⟩, h24⟩, h25⟩, h26⟩, h27⟩, h28⟩, h29⟩, h30⟩, h31⟩ := h
  refine joined_of ?_ h1 h2 ?_ ?_ ?_ h6 ?_ h8 ?_ ?_ ?_ ?_ ?_ ?_ ?_ ?_ ?_ ?_ ?_ ?_ ?_ h22 ?_ h24 h25 h26 h27 ?_ ?_ ?_ ?_
  all_goals (clear h0 h1 h2 h3 h4 h5 h6 h7 h8 h9 h10 h11 h12 h13 h14 h15 h16 h17 h18 h19 h20 h21 h22 h23 h24 h25 h26 h27 h28 h29 h30 h31)
  all_goals (as_aux_lemma => kernel_rfl)
theorem units_wrap : Tryz.f16.isWrapper Tryz.pinned.checked.prog Rows.quantityUnitsRow.wrapper Rows.quantityUnitsRow.mainSum := by
  unfold Func.isWrapper; first | (rw [if_pos (by decide +kernel)]; kernel_rfl) | (rw [if_neg (by decide +kernel)]; exact ⟨rfl, rfl⟩)
theorem units_inst : Tryz.f16.isInstance Tryz.pinned.checked.prog Rows.quantityUnitsRow.origin Rows.quantityUnitsRow.targs := of_decide_eq_true (by kernel_rfl)
theorem units_said : Rows.QuantityUnitsSaid :=
  OpenClaim.holds_of_wide 16 Tryz.f16 rfl rfl rfl rfl rfl rfl rfl ⟨rfl, rfl, rfl, rfl, rfl⟩ rfl rfl rfl rfl rfl units_name Tryz.func16 units_closed units_inst units_wrap
    (fun os started H enc _ => units_lifted os started H enc)
theorem units_wf : Rows.quantityUnitsRow.wfByText (OpenSpec.ofChange Rows.quantityUnitsSpec) = true := by kernel_rfl
theorem units_goes : false = Rows.quantityUnitsRow.goesBy Tryz.pinned.checked.prog := by kernel_rfl
theorem units_card : Rows.QuantityUnitsCardSaid :=
  Claim7.holds_tied_plain_at .later [] _ _ _ _ units_said (fun _ h => by cases h) units_wf (fun _ h => by cases h) quantityUnits_row_tie rfl ⟨rfl, rfl⟩ prog_main rfl units_plain units_goes
#print axioms units_card
end Go.Proofs.YtigicjakloiliaaGreatDoor
