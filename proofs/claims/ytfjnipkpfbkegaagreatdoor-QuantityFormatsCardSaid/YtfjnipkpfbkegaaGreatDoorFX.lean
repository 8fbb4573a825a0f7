/- QuantityFormats: for every unit the law returns true, and its argument reads as it did. Conditions: the listed variables of Go's library start as the program's text lays them. -/
import Derived.Test.YtfjnipkpfbkegaaGreatDoorFE
import Derived.Test.YtfjnipkpfbkegaaGreatDoorCU
set_option maxHeartbeats 0
set_option maxRecDepth 100000
namespace Go.Proofs.YtfjnipkpfbkegaaGreatDoor
open Go.ChangeMaps Go.ChangeShapes Go.WideShapes Go.ChangeAt Go.RowKit Go.Joins
theorem formats_tab {W : World} (h : laidMetH Tryz.prog Rows.quantityFormatsRow.laid W) : Tab W := by
  rw [MakeChecks.laidMetH_plain _ _ _ (by kernel_rfl)] at h
  exact Lib.tabIs_of_head gPow gPowType Tryz.underlying174 Tryz.underlying100 cells100 cells174 (laidMet.tail (laidMet.tail h))
theorem formats_readable : ∀ t ∈ Tryz.f4.params.toList, Tryz.prog.readableRec t = true := by
  rw [Tryz.params4]
  intro t ht
  have ht : t ∈ [24] := ht
  obtain rfl := List.mem_singleton.1 ht
  exact readable24
theorem formats_inTypes : ∀ t ∈ Tryz.f4.params.toList, t < Tryz.prog.types.size := by
  rw [Tryz.params4]
  intro t ht
  have ht : t ∈ [24] := ht
  obtain rfl := List.mem_singleton.1 ht
  exact inTypes24
theorem formats_met (os : Os) (args : Array Value) : laidMetH Tryz.prog Rows.quantityFormatsRow.laid ((World.doorLaid Tryz.prog 62 os).forCall (fun _ _ => 0) ⟨#[], args, []⟩).memory := by
  rw [MakeChecks.laidMetH_plain _ _ _ (by kernel_rfl)]
  exact laidMet_of_run' 8 (by kernel_rfl) (by kernel_rfl)
theorem formats_lifted (os : Os) (started : os.Started) (H : Type) (enc : TypeId × Value → H) :
    ReturnsInHanded {} Tryz.checked os 4 .any (fun w args => (Rows.quantityFormatsSpec.pre enc Tryz.prog Tryz.f4 [] false w args ∧ laidMetH Tryz.prog Rows.quantityFormatsRow.laid w) ∧ sizedMet enc Tryz.prog Tryz.f4 (OpenSpec.ofChange Rows.quantityFormatsSpec) false w args)
      (Rows.quantityFormatsSpec.post enc Tryz.prog Tryz.f4 false true false false) := by
  refine returnsInHanded_of_change_and (C := Tryz.checked) (X := fun w _ => laidMetH Tryz.prog Rows.quantityFormatsRow.laid w) (fun _ _ _ hh h => h.of_heap hh) ownK started (by kernel_rfl) Tryz.func4
    (ChangeSpec.witness_shaped (enc := enc) (C := Tryz.checked) (os := os) (X := fun w _ => laidMetH Tryz.prog Rows.quantityFormatsRow.laid w) false (World.doorLaid Tryz.prog 62 os) #[.agg #[.string ⟨#[]⟩, .string ⟨#[]⟩, .int .i64 0, .int .i64 0, .int .i64 0, .int .i64 0, .int .i64 0, .int .i64 0, .int .i64 0]] 8 rfl (World.shaped_of_RefB (by kernel_rfl) (by kernel_rfl)) (by kernel_rfl) (by kernel_rfl) (by kernel_rfl) (formats_met os _)) ?_
  intro W base args ds gs before hval0 hW _ _ hL _
  have hval : ∀ (j : Nat) t v, Tryz.f4.params[j]? = some t → args[j]? = some v → Value.okWide Tryz.prog W .any base t v := hval0
  have hW' := hW
  obtain ⟨p, q, hA0, hV, hpq, hfz, hnd⟩ := hW
  have hA : DataW.TrodAll enc Tryz.prog W 0 (fun _ => true) true Tryz.f4.params.toList args.toList ds p := hA0
  have hA' := hA
  rw [Tryz.params4] at hA' hval
  obtain ⟨v0, vs0, d0, ds0, p0, q0, hargs, rfl, -, h0, r0⟩ := trodAll_cons hA'
  obtain ⟨rfl, rfl, -⟩ := trodAll_nil r0
  obtain rfl : args = #[v0] := by cases args; simp_all
  obtain ⟨rfl, rfl⟩ := trodVars_none hV
  obtain ⟨f, o, m0, m1, m2, m3, m4, m5, m6, rfl⟩ := open_unit (hval 0 24 v0 rfl rfl) h0
  clear hA0 hval0 hA'
  have hp : before = p := by rw [hpq, List.append_nil]
  have hlt : ∀ x ∈ p, x.block < W.heap.size := fun x hx => hW'.lt x (by rw [hp]; exact hx)
  refine (formats_any f o m0 m1 m2 m3 m4 m5 m6 W (formats_tab hL)).mono fun e W' ⟨he, hg⟩ => ?_
  subst he
  exact ⟨_, rfl, post_of_below (pa := p) (pv := []) hW' (fun _ _ _ => trodAll_cons_mk (shut_bool Tryz.underlying4 _) trodAll_mk0)
    (fun sp hsp => trodAll_stays laidAll hg sp _ _ _ _ formats_readable formats_inTypes hA hlt (fun x hx => hsp x (by rw [hp]; exact hx)))
    (fun _ _ => rfl) (by rw [hp, List.append_nil]) hg (ok_one (by kernel_rfl) rfl (okWide_bool_mk Tryz.underlying4 _))⟩
theorem formats_name : Tryz.pinned.checked.prog.funcNamed Rows.quantityFormatsRow.func = some 4 := by kernel_rfl
theorem formats_plain (f : FuncId) (fn : Func) (hf : Tryz.pinned.checked.prog.funcNamed "arrayarchive/arrayarchivelaw01.QuantityFormats" = some f) (hfn : Tryz.pinned.checked.prog.funcs[f]? = some fn) :
    true = Tryz.pinned.checked.prog.looks [] ∧ ∀ (j : Nat) t, fn.params[j]? = some t → Tryz.pinned.checked.prog.wantsStandIn t = false := by
  obtain rfl : f = 4 := Option.some.inj ((show Tryz.prog.funcNamed "arrayarchive/arrayarchivelaw01.QuantityFormats" = some 4 by kernel_rfl).symm.trans hf) |>.symm
  obtain rfl : fn = Tryz.f4 := (Option.some.inj (Tryz.func4.symm.trans hfn)).symm
  refine ⟨by kernel_rfl, fun j t ht => ?_⟩
  rw [Tryz.params4] at ht
  have hm : t = 24 := by simpa using Array.mem_of_getElem? ht
  subst hm
  exact (show Tryz.prog.wantsStandIn 24 = false by kernel_rfl)
theorem formats_closed : joinedFacts Tryz.pinned.checked.prog 4 Tryz.f4 Rows.quantityFormatsSpec Rows.quantityFormatsRow = true :=
  joined_of (by as_aux_lemma => kernel_rfl) (by as_aux_lemma => kernel_rfl) (by as_aux_lemma => kernel_rfl) (by as_aux_lemma => kernel_rfl) (by as_aux_lemma => kernel_rfl) (by as_aux_lemma => kernel_rfl) (by as_aux_lemma => kernel_rfl) (by as_aux_lemma => kernel_rfl) (by as_aux_lemma => kernel_rfl) (by as_aux_lemma => kernel_rfl) (by as_aux_lemma => kernel_rfl) (by as_aux_lemma => kernel_rfl) (by as_aux_lemma => kernel_rfl) (by as_aux_lemma => kernel_rfl) (by as_aux_lemma => kernel_rfl) (by as_aux_lemma => kernel_rfl) (by as_aux_lemma => kernel_rfl) (by as_aux_lemma => kernel_rfl) (by as_aux_lemma => kernel_rfl) (by as_aux_lemma => kernel_rfl) (by as_aux_lemma => kernel_rfl) (by as_aux_lemma => kernel_rfl) (by as_aux_lemma => kernel_rfl) (by as_aux_lemma => kernel_rfl) (by as_aux_lemma => kernel_rfl) (by as_aux_lemma => kernel_rfl) (by as_aux_lemma => kernel_rfl) (by as_aux_lemma => kernel_rfl) (by as_aux_lemma => kernel_rfl) (by as_aux_lemma => kernel_rfl) (by as_aux_lemma => kernel_rfl) (by as_aux_lemma => kernel_rfl)
theorem formats_wrap : Tryz.f4.isWrapper Tryz.pinned.checked.prog Rows.quantityFormatsRow.wrapper Rows.quantityFormatsRow.mainSum := by
  unfold Func.isWrapper; first | (rw [if_pos (by decide +kernel)]; kernel_rfl) | (rw [if_neg (by decide +kernel)]; exact ⟨rfl, rfl⟩)
theorem formats_inst : Tryz.f4.isInstance Tryz.pinned.checked.prog Rows.quantityFormatsRow.origin Rows.quantityFormatsRow.targs := of_decide_eq_true (by kernel_rfl)
theorem formats_said : Rows.QuantityFormatsSaid :=
  OpenClaim.holds_of_wide 4 Tryz.f4 rfl rfl rfl rfl rfl rfl rfl ⟨rfl, rfl, rfl, rfl, rfl⟩ rfl rfl rfl rfl rfl formats_name Tryz.func4 formats_closed formats_inst formats_wrap
    (fun os started H enc _ => formats_lifted os started H enc)
theorem formats_wf : Rows.quantityFormatsRow.wfByText (OpenSpec.ofChange Rows.quantityFormatsSpec) = true := by kernel_rfl
theorem formats_goes : false = Rows.quantityFormatsRow.goesBy Tryz.pinned.checked.prog := by kernel_rfl
theorem formats_card : Rows.QuantityFormatsCardSaid :=
  Claim7.holds_tied_plain_at .later [] _ _ _ _ formats_said (fun _ h => by cases h) formats_wf (fun _ h => by cases h) quantityFormats_row_tie rfl ⟨rfl, rfl⟩ prog_main rfl formats_plain formats_goes
#print axioms formats_card
end Go.Proofs.YtfjnipkpfbkegaaGreatDoor
