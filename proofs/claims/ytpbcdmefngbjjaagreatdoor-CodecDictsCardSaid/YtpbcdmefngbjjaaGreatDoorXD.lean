/- CodecDicts: for every slice of bytes the law returns true, and its argument reads as it did. Conditions: the listed variables of Go's library start as the program's text lays them. -/
import Derived.Test.YtpbcdmefngbjjaaGreatDoorFW
import Derived.Test.YtpbcdmefngbjjaaGreatDoorXB
set_option maxHeartbeats 0
set_option maxRecDepth 100000
namespace Go.Proofs.YtpbcdmefngbjjaaGreatDoor
open Go.ChangeMaps Go.ChangeShapes Go.WideShapes Go.ChangeAt Go.RowKit
theorem dicts_met (os : Os) (args : Array Value) : laidMetH Tryz.prog Rows.codecDictsRow.laid ((World.doorLaid Tryz.prog 62 os).forCall (fun _ _ => 0) ⟨#[], args, []⟩).memory := by
  rw [MakeChecks.laidMetH_plain _ _ _ (by kernel_rfl)]
  exact laidMet_of_run' 8 (by kernel_rfl) (by kernel_rfl)
theorem dicts_readable : ∀ t ∈ Tryz.f7.params.toList, Tryz.prog.readableRec t = true := by
  rw [Tryz.params7]
  intro t ht
  have ht : t ∈ [22] := ht
  simp only [List.mem_cons, List.not_mem_nil, or_false] at ht
  subst ht
  exact readable22
theorem dicts_inTypes : ∀ t ∈ Tryz.f7.params.toList, t < Tryz.prog.types.size := by
  rw [Tryz.params7]
  intro t ht
  have ht : t ∈ [22] := ht
  simp only [List.mem_cons, List.not_mem_nil, or_false] at ht
  subst ht
  exact inTypes22
theorem dicts_lifted (os : Os) (started : os.Started) (H : Type) (enc : TypeId × Value → H) :
    ReturnsInHanded {} Tryz.checked os 7 .any (fun w args => (Rows.codecDictsSpec.pre enc Tryz.prog Tryz.f7 [] false w args ∧ laidMetH Tryz.prog Rows.codecDictsRow.laid w) ∧ sizedMet enc Tryz.prog Tryz.f7 (OpenSpec.ofChange Rows.codecDictsSpec) false w args)
      (Rows.codecDictsSpec.post enc Tryz.prog Tryz.f7 false true false false) := by
  refine returnsInHanded_of_change_and (C := Tryz.checked) (X := fun w _ => laidMetH Tryz.prog Rows.codecDictsRow.laid w) (fun _ _ _ hh h => h.of_heap hh) ownK started (by kernel_rfl) Tryz.func7
    (ChangeSpec.witness_shaped (enc := enc) (C := Tryz.checked) (os := os) (X := fun w _ => laidMetH Tryz.prog Rows.codecDictsRow.laid w) false (World.doorLaid Tryz.prog 62 os) #[.slice none 0 0] 8 rfl (World.shaped_of_RefB (by kernel_rfl) (by kernel_rfl)) (by kernel_rfl) (by kernel_rfl) (by kernel_rfl) (dicts_met os _)) ?_
  intro W base args ds gs before hval0 hW _ _ hL _
  have hval : ∀ (j : Nat) t v, Tryz.f7.params[j]? = some t → args[j]? = some v → Value.okWide Tryz.prog W .any base t v := hval0
  have hW' := hW
  have hltw : ∀ x ∈ before, x.block < W.heap.size := fun x hx => hW.lt x hx
  obtain ⟨p, q, hA0, hV, hp, hfz, hnd⟩ := hW
  have hA : DataW.TrodAll enc Tryz.prog W 0 (fun _ => true) true Tryz.f7.params.toList args.toList ds p := hA0
  obtain ⟨rfl, rfl⟩ := trodVars_none hV
  rw [List.append_nil] at hp
  have hlt : ∀ x ∈ p, x.block < W.heap.size := fun x hx => hltw x (by rw [hp]; exact hx)
  have hB := hA
  rw [Tryz.params7] at hB hval
  obtain ⟨v0, vs0, d0, ds0, p0, q0, hargs, rfl, rfl, h0, r0⟩ := trodAll_cons hB
  obtain ⟨rfl, rfl, rfl⟩ := trodAll_nil r0
  obtain rfl : args = #[v0] := by cases args; simp_all
  obtain ⟨a0, c0, l0, rfl, g0, -, b0⟩ := open_bytes (hval 0 22 v0 rfl rfl) h0
  clear hA0 hval0
  refine (dicts_any a0 c0 l0 W (saneAt W (env_laid hL)) g0 b0).mono fun e W' ⟨he, hb⟩ => ?_
  subst he
  exact ⟨_, rfl, post_of_below (pv := []) hW' (fun _ _ _ => trodAll_cons_mk (shut_bool Tryz.underlying4 _) trodAll_mk0)
    (fun sp hsp => trodAll_stays laidAll hb sp _ _ _ _ dicts_readable dicts_inTypes hA hlt (fun x hx => hsp x (by rw [hp]; exact hx))) (fun _ _ => rfl) (by rw [List.append_nil]; exact hp) hb (ok_one (by kernel_rfl) rfl (okWide_bool_mk Tryz.underlying4 _))⟩
theorem dicts_name : Tryz.pinned.checked.prog.funcNamed Rows.codecDictsRow.func = some 7 := by kernel_rfl
theorem dicts_plain (f : FuncId) (fn : Func) (hf : Tryz.pinned.checked.prog.funcNamed "arrayarchive/arrayarchivelaw04.CodecDicts" = some f) (hfn : Tryz.pinned.checked.prog.funcs[f]? = some fn) :
    true = Tryz.pinned.checked.prog.looks [] ∧ ∀ (j : Nat) t, fn.params[j]? = some t → Tryz.pinned.checked.prog.wantsStandIn t = false := by
  obtain rfl : f = 7 := Option.some.inj ((show Tryz.prog.funcNamed "arrayarchive/arrayarchivelaw04.CodecDicts" = some 7 by kernel_rfl).symm.trans hf) |>.symm
  obtain rfl : fn = Tryz.f7 := (Option.some.inj (Tryz.func7.symm.trans hfn)).symm
  refine ⟨by kernel_rfl, fun j t ht => ?_⟩
  rw [Tryz.params7] at ht
  obtain rfl : t = 22 := by simpa using Array.mem_of_getElem? ht
  exact (show Tryz.prog.wantsStandIn 22 = false by kernel_rfl)
theorem dicts_closed : joinedFacts Tryz.pinned.checked.prog 7 Tryz.f7 Rows.codecDictsSpec Rows.codecDictsRow = true := by
  have h := sums_closed
  unfold joinedFacts at h
  simp only [Bool.and_eq_true] at h
  obtain ⟨⟨⟨⟨⟨⟨⟨⟨⟨⟨⟨⟨⟨⟨⟨⟨⟨⟨⟨⟨⟨⟨⟨⟨⟨⟨⟨⟨⟨⟨⟨h0, h1⟩, h2⟩, h3⟩, h4⟩, h5⟩, h6⟩, h7⟩, h8⟩, h9⟩, h10⟩, h11⟩, h12⟩, h13⟩, h14⟩, h15⟩, h16⟩, h17⟩, h18⟩, h19⟩, h20⟩, h21⟩, h22⟩, h23⟩, h24⟩, h25⟩, h26⟩, h27⟩, h28⟩, h29⟩, h30⟩, h31⟩ := h
  refine joined_of ?_ h1 h2 ?_ ?_ ?_ h6 ?_ h8 ?_ ?_ ?_ ?_ ?_ ?_ ?_ ?_ ?_ ?_ ?_ ?_ ?_ h22 ?_ h24 h25 h26 h27 ?_ ?_ ?_ ?_
  all_goals (clear h0 h1 h2 h3 h4 h5 h6 h7 h8 h9 h10 h11 h12 h13 h14 h15 h16 h17 h18 h19 h20 h21 h22 h23 h24 h25 h26 h27 h28 h29 h30 h31)
  all_goals (as_aux_lemma => kernel_rfl)
theorem dicts_wrap : Tryz.f7.isWrapper Tryz.pinned.checked.prog Rows.codecDictsRow.wrapper Rows.codecDictsRow.mainSum := by
  unfold Func.isWrapper; first | (rw [if_pos (by decide +kernel)]; kernel_rfl) | (rw [if_neg (by decide +kernel)]; exact ⟨rfl, rfl⟩)
theorem dicts_inst : Tryz.f7.isInstance Tryz.pinned.checked.prog Rows.codecDictsRow.origin Rows.codecDictsRow.targs := of_decide_eq_true (by kernel_rfl)
theorem dicts_said : Rows.CodecDictsSaid :=
  OpenClaim.holds_of_wide 7 Tryz.f7 rfl rfl rfl rfl rfl rfl rfl ⟨rfl, rfl, rfl, rfl, rfl⟩ rfl rfl rfl rfl rfl dicts_name Tryz.func7 dicts_closed dicts_inst dicts_wrap
    (fun os started H enc _ => dicts_lifted os started H enc)
theorem dicts_wf : Rows.codecDictsRow.wfByText (OpenSpec.ofChange Rows.codecDictsSpec) = true := by kernel_rfl
theorem dicts_goes : false = Rows.codecDictsRow.goesBy Tryz.pinned.checked.prog := by kernel_rfl
theorem dicts_card : Rows.CodecDictsCardSaid :=
  Claim7.holds_tied_plain_at .later [] _ _ _ _ dicts_said (fun _ h => by cases h) dicts_wf (fun _ h => by cases h) codecDicts_row_tie rfl ⟨rfl, rfl⟩ prog_main rfl dicts_plain dicts_goes
#print axioms dicts_card
end Go.Proofs.YtpbcdmefngbjjaaGreatDoor
