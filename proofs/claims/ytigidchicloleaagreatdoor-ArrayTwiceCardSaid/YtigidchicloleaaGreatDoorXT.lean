/- ArrayTwice: for every array and every two lists of cuts the law returns true, and its argument reads as it did. Conditions: the listed variables of Go's library start as the program's text lays them. -/
import Derived.Test.YtigidchicloleaaGreatDoorXO
import Derived.Test.YtigidchicloleaaGreatDoorGX
import Derived.Test.YtigidchicloleaaGreatDoorXB
set_option maxHeartbeats 0
set_option maxRecDepth 100000
namespace Go.Proofs.YtigidchicloleaaGreatDoor
open Go.ChangeMaps Go.ChangeShapes Go.WideShapes Go.ChangeAt Go.RowKit
open Arr
theorem twice_met (os : Os) (args : Array Value) : laidMetH Tryz.prog Rows.arrayTwiceRow.laid ((World.doorLaid Tryz.prog 62 os).forCall (fun _ _ => 0) ⟨#[], args, []⟩).memory := by
  rw [MakeChecks.laidMetH_plain _ _ _ (by kernel_rfl)]
  exact laidMet_of_run' 8 (by kernel_rfl) (by kernel_rfl)
theorem twice_readable : ∀ t ∈ Tryz.f11.params.toList, Tryz.prog.readableRec t = true := by
  rw [Tryz.params11]
  intro t ht
  have ht : t ∈ [64] := ht
  simp only [List.mem_cons, List.not_mem_nil, or_false] at ht
  subst ht
  exact (show Tryz.prog.readableRec 64 = true by kernel_rfl)
theorem twice_inTypes : ∀ t ∈ Tryz.f11.params.toList, t < Tryz.prog.types.size := by
  rw [Tryz.params11]
  intro t ht
  have ht : t ∈ [64] := ht
  simp only [List.mem_cons, List.not_mem_nil, or_false] at ht
  subst ht
  exact (show 64 < Tryz.prog.types.size from of_decide_eq_true (by kernel_rfl))
theorem twice_lifted (os : Os) (started : os.Started) (H : Type) (enc : TypeId × Value → H) :
    ReturnsInHanded {} Tryz.checked os 11 .any (fun w args => (Rows.arrayTwiceSpec.pre enc Tryz.prog Tryz.f11 [] false w args ∧ laidMetH Tryz.prog Rows.arrayTwiceRow.laid w) ∧ sizedMet enc Tryz.prog Tryz.f11 (OpenSpec.ofChange Rows.arrayTwiceSpec) false w args)
      (Rows.arrayTwiceSpec.post enc Tryz.prog Tryz.f11 false true false false) := by
  refine returnsInHanded_of_change_and (C := Tryz.checked) (X := fun w _ => laidMetH Tryz.prog Rows.arrayTwiceRow.laid w) (fun _ _ _ hh h => h.of_heap hh) ownK started (by kernel_rfl) Tryz.func11
    (ChangeSpec.witness_shaped (enc := enc) (C := Tryz.checked) (os := os) (X := fun w _ => laidMetH Tryz.prog Rows.arrayTwiceRow.laid w) false (World.doorLaid Tryz.prog 62 os) #[.agg #[.slice none 0 0, .slice none 0 0, .slice none 0 0, .slice none 0 0]] 8 rfl (World.shaped_of_RefB (by kernel_rfl) (by kernel_rfl)) (by kernel_rfl) (by kernel_rfl) (by kernel_rfl) (twice_met os _)) ?_
  intro W base args ds gs before hval0 hW _ _ hL _
  have hval : ∀ (j : Nat) t v, Tryz.f11.params[j]? = some t → args[j]? = some v → Value.okWide Tryz.prog W .any base t v := hval0
  have hW' := hW
  have hltw : ∀ x ∈ before, x.block < W.heap.size := fun x hx => hW.lt x hx
  obtain ⟨p, q, hA0, hV, hp, hfz, hnd⟩ := hW
  have hA : DataW.TrodAll enc Tryz.prog W 0 (fun _ => true) true Tryz.f11.params.toList args.toList ds p := hA0
  obtain ⟨rfl, rfl⟩ := trodVars_none hV
  rw [List.append_nil] at hp
  have hlt : ∀ x ∈ p, x.block < W.heap.size := fun x hx => hltw x (by rw [hp]; exact hx)
  have hB := hA
  rw [Tryz.params11] at hB hval
  obtain ⟨v0, vs0, d0, ds0, p0, q0, hargs, rfl, rfl, h0, r0⟩ := trodAll_cons hB
  obtain ⟨rfl, rfl, rfl⟩ := trodAll_nil r0
  obtain rfl : args = #[v0] := by cases args; simp_all
  obtain ⟨pa, qa, p1, p2, c, c1, d1, d2, s, l, k1, k2, rfl, hr0, hr1, hr2, hr3⟩ := in_twice (hval 0 64 v0 rfl rfl) h0
  clear hA0 hval0
  refine (twice_any pa qa p1 p2 c c1 _ _ _ _ d1 d2 s l k1 k2 W (env_laid hL) (Lib.hid rfl) (Lib.hid rfl) (Lib.hid rfl) (Lib.hid rfl) hr0 hr1 hr2 hr3).mono fun e W' ⟨hb, he⟩ => ?_
  subst he
  exact ⟨_, rfl, post_of_below (pv := []) hW' (fun _ _ _ => trodAll_cons_mk (shut_bool Tryz.underlying4 _) trodAll_mk0)
    (fun sp hsp => trodAll_stays laidAll hb sp _ _ _ _ twice_readable twice_inTypes hA hlt (fun x hx => hsp x (by rw [hp]; exact hx))) (fun _ _ => rfl) (by rw [List.append_nil]; exact hp) hb (ok_one (by kernel_rfl) rfl (okWide_bool_mk Tryz.underlying4 _))⟩
theorem twice_name : Tryz.pinned.checked.prog.funcNamed Rows.arrayTwiceRow.func = some 11 := by kernel_rfl
theorem twice_plain (f : FuncId) (fn : Func) (hf : Tryz.pinned.checked.prog.funcNamed "arrayarchive/arrayarchivelaw06.ArrayTwice" = some f) (hfn : Tryz.pinned.checked.prog.funcs[f]? = some fn) :
    true = Tryz.pinned.checked.prog.looks [] ∧ ∀ (j : Nat) t, fn.params[j]? = some t → Tryz.pinned.checked.prog.wantsStandIn t = false := by
  obtain rfl : f = 11 := Option.some.inj ((show Tryz.prog.funcNamed "arrayarchive/arrayarchivelaw06.ArrayTwice" = some 11 by kernel_rfl).symm.trans hf) |>.symm
  obtain rfl : fn = Tryz.f11 := (Option.some.inj (Tryz.func11.symm.trans hfn)).symm
  refine ⟨by kernel_rfl, fun j t ht => ?_⟩
  rw [Tryz.params11] at ht
  obtain rfl : t = 64 := by simpa using Array.mem_of_getElem? ht
  exact (show Tryz.prog.wantsStandIn 64 = false by kernel_rfl)
theorem twice_closed : joinedFacts Tryz.pinned.checked.prog 11 Tryz.f11 Rows.arrayTwiceSpec Rows.arrayTwiceRow = true := by
  have h := twice_closed0
  unfold joinedFacts at h
  simp only [Bool.and_eq_true] at h
  obtain ⟨⟨⟨⟨⟨⟨⟨⟨⟨⟨⟨⟨⟨⟨⟨⟨⟨⟨⟨⟨⟨⟨⟨⟨⟨⟨⟨⟨⟨⟨⟨h0, h1⟩, h2⟩, h3⟩, h4⟩, h5⟩, h6⟩, h7⟩, h8⟩, h9⟩, h10⟩, h11⟩, h12⟩, h13⟩, h14⟩, h15⟩, h16⟩, h17⟩, h18⟩, h19⟩, h20⟩, h21⟩, h22⟩, h23⟩, h24⟩, h25⟩, h26⟩, h27⟩, h28⟩, h29⟩, h30⟩, h31⟩ := h
  refine joined_of ?_ h1 h2 ?_ ?_ ?_ h6 ?_ h8 ?_ ?_ ?_ ?_ ?_ ?_ ?_ ?_ ?_ ?_ ?_ ?_ ?_ h22 ?_ h24 h25 h26 h27 ?_ ?_ ?_ ?_
  all_goals (clear h0 h1 h2 h3 h4 h5 h6 h7 h8 h9 h10 h11 h12 h13 h14 h15 h16 h17 h18 h19 h20 h21 h22 h23 h24 h25 h26 h27 h28 h29 h30 h31)
  all_goals (as_aux_lemma => kernel_rfl)
theorem twice_wrap : Tryz.f11.isWrapper Tryz.pinned.checked.prog Rows.arrayTwiceRow.wrapper Rows.arrayTwiceRow.mainSum := by
  unfold Func.isWrapper; first | (rw [if_pos (by decide +kernel)]; kernel_rfl) | (rw [if_neg (by decide +kernel)]; exact ⟨rfl, rfl⟩)
theorem twice_inst : Tryz.f11.isInstance Tryz.pinned.checked.prog Rows.arrayTwiceRow.origin Rows.arrayTwiceRow.targs := of_decide_eq_true (by kernel_rfl)
theorem twice_said : Rows.ArrayTwiceSaid :=
  OpenClaim.holds_of_wide 11 Tryz.f11 rfl rfl rfl rfl rfl rfl rfl ⟨rfl, rfl, rfl, rfl, rfl⟩ rfl rfl rfl rfl rfl twice_name Tryz.func11 twice_closed twice_inst twice_wrap
    (fun os started H enc _ => twice_lifted os started H enc)
theorem twice_wf : Rows.arrayTwiceRow.wfByText (OpenSpec.ofChange Rows.arrayTwiceSpec) = true := by kernel_rfl
theorem twice_goes : false = Rows.arrayTwiceRow.goesBy Tryz.pinned.checked.prog := by kernel_rfl
theorem twice_card : Rows.ArrayTwiceCardSaid :=
  Claim7.holds_tied_plain_at .later [] _ _ _ _ twice_said (fun _ h => by cases h) twice_wf (fun _ h => by cases h) arrayTwice_row_tie rfl ⟨rfl, rfl⟩ prog_main rfl twice_plain twice_goes
#print axioms twice_card
end Go.Proofs.YtigidchicloleaaGreatDoor
