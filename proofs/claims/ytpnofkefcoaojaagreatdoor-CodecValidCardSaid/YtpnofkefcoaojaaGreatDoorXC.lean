/- CodecValid: for every int and every list of stages the law returns true, and its arguments read as they did. Conditions: the listed variables of Go's library start as the program's text lays them. -/
import Derived.Test.YtpnofkefcoaojaaGreatDoorYF
import Derived.Test.YtpnofkefcoaojaaGreatDoorXB
set_option maxHeartbeats 0
set_option maxRecDepth 100000
namespace Go.Proofs.YtpnofkefcoaojaaGreatDoor
open Go.ChangeMaps Go.ChangeShapes Go.WideShapes Go.ChangeAt Go.RowKit
theorem valid_met (os : Os) (args : Array Value) : laidMetH Tryz.prog Rows.codecValidRow.laid ((World.doorLaid Tryz.prog 62 os).forCall (fun _ _ => 0) ⟨#[], args, []⟩).memory := by
  rw [MakeChecks.laidMetH_plain _ _ _ (by kernel_rfl)]
  exact laidMet_of_run' 8 (by kernel_rfl) (by kernel_rfl)
theorem valid_readable : ∀ t ∈ Tryz.f3.params.toList, Tryz.prog.readableRec t = true := by
  rw [Tryz.params3]
  intro t ht
  have ht : t ∈ [3, 22] := ht
  simp only [List.mem_cons, List.not_mem_nil, or_false] at ht
  rcases ht with rfl | rfl
  · exact readable3
  · exact readable22
theorem valid_inTypes : ∀ t ∈ Tryz.f3.params.toList, t < Tryz.prog.types.size := by
  rw [Tryz.params3]
  intro t ht
  have ht : t ∈ [3, 22] := ht
  simp only [List.mem_cons, List.not_mem_nil, or_false] at ht
  rcases ht with rfl | rfl
  · exact inTypes3
  · exact inTypes22
theorem valid_lifted (os : Os) (started : os.Started) (H : Type) (enc : TypeId × Value → H) :
    ReturnsInHanded {} Tryz.checked os 3 .any (fun w args => (Rows.codecValidSpec.pre enc Tryz.prog Tryz.f3 [] false w args ∧ laidMetH Tryz.prog Rows.codecValidRow.laid w) ∧ sizedMet enc Tryz.prog Tryz.f3 (OpenSpec.ofChange Rows.codecValidSpec) false w args)
      (Rows.codecValidSpec.post enc Tryz.prog Tryz.f3 false true false false) := by
  refine returnsInHanded_of_change_and (C := Tryz.checked) (X := fun w _ => laidMetH Tryz.prog Rows.codecValidRow.laid w) (fun _ _ _ hh h => h.of_heap hh) ownK started (by kernel_rfl) Tryz.func3
    (ChangeSpec.witness_shaped (enc := enc) (C := Tryz.checked) (os := os) (X := fun w _ => laidMetH Tryz.prog Rows.codecValidRow.laid w) false (World.doorLaid Tryz.prog 62 os) #[.int .i64 0, .slice none 0 0] 8 rfl (World.shaped_of_RefB (by kernel_rfl) (by kernel_rfl)) (by kernel_rfl) (by kernel_rfl) (by kernel_rfl) (valid_met os _)) ?_
  intro W base args ds gs before hval0 hW _ _ hL _
  have hval : ∀ (j : Nat) t v, Tryz.f3.params[j]? = some t → args[j]? = some v → Value.okWide Tryz.prog W .any base t v := hval0
  have hW' := hW
  have hltw : ∀ x ∈ before, x.block < W.heap.size := fun x hx => hW.lt x hx
  obtain ⟨p, q, hA0, hV, hp, hfz, hnd⟩ := hW
  have hA : DataW.TrodAll enc Tryz.prog W 0 (fun _ => true) true Tryz.f3.params.toList args.toList ds p := hA0
  obtain ⟨rfl, rfl⟩ := trodVars_none hV
  rw [List.append_nil] at hp
  have hlt : ∀ x ∈ p, x.block < W.heap.size := fun x hx => hltw x (by rw [hp]; exact hx)
  have hB := hA
  rw [Tryz.params3] at hB hval
  obtain ⟨v0, vs0, d0, ds0, p0, q0, hargs, rfl, rfl, h0, r0⟩ := trodAll_cons hB
  obtain ⟨v1, vs1, d1, ds1, p1, q1, rfl, rfl, rfl, h1, r1⟩ := trodAll_cons r0
  obtain ⟨rfl, rfl, rfl⟩ := trodAll_nil r1
  obtain rfl : args = #[v0, v1] := by cases args; simp_all
  obtain ⟨a0, rfl, rfl, rfl, x0⟩ := open_int Tryz.underlying3 (hval 0 3 v0 rfl rfl) h0
  obtain ⟨a1, c1, l1, rfl, b1⟩ := open_stages (hval 1 22 v1 rfl rfl) h1
  clear hA0 hval0
  refine (valid_law a0 a1 c1 _ l1 W (env_laid hL) (Lib.hid rfl) b1).mono fun e W' ⟨hb, he⟩ => ?_
  subst he
  exact ⟨_, rfl, post_of_below (pv := []) hW' (fun _ _ _ => trodAll_cons_mk (shut_bool Tryz.underlying4 _) trodAll_mk0)
    (fun sp hsp => trodAll_stays laidAll hb sp _ _ _ _ valid_readable valid_inTypes hA hlt (fun x hx => hsp x (by rw [hp]; exact hx))) (fun _ _ => rfl) (by rw [List.append_nil]; exact hp) hb (ok_one (by kernel_rfl) rfl (okWide_bool_mk Tryz.underlying4 _))⟩
theorem valid_name : Tryz.pinned.checked.prog.funcNamed Rows.codecValidRow.func = some 3 := by kernel_rfl
theorem valid_plain (f : FuncId) (fn : Func) (hf : Tryz.pinned.checked.prog.funcNamed "arrayarchive/arrayarchivelaw04.CodecValid" = some f) (hfn : Tryz.pinned.checked.prog.funcs[f]? = some fn) :
    true = Tryz.pinned.checked.prog.looks [] ∧ ∀ (j : Nat) t, fn.params[j]? = some t → Tryz.pinned.checked.prog.wantsStandIn t = false := by
  obtain rfl : f = 3 := Option.some.inj ((show Tryz.prog.funcNamed "arrayarchive/arrayarchivelaw04.CodecValid" = some 3 by kernel_rfl).symm.trans hf) |>.symm
  obtain rfl : fn = Tryz.f3 := (Option.some.inj (Tryz.func3.symm.trans hfn)).symm
  refine ⟨by kernel_rfl, fun j t ht => ?_⟩
  rw [Tryz.params3] at ht
  have hm : t = 3 ∨ t = 22 := by simpa using Array.mem_of_getElem? ht
  rcases hm with rfl | rfl
  · exact (show Tryz.prog.wantsStandIn 3 = false by kernel_rfl)
  · exact (show Tryz.prog.wantsStandIn 22 = false by kernel_rfl)
theorem valid_wrap : Tryz.f3.isWrapper Tryz.pinned.checked.prog Rows.codecValidRow.wrapper Rows.codecValidRow.mainSum := by
  unfold Func.isWrapper; first | (rw [if_pos (by decide +kernel)]; kernel_rfl) | (rw [if_neg (by decide +kernel)]; exact ⟨rfl, rfl⟩)
theorem valid_inst : Tryz.f3.isInstance Tryz.pinned.checked.prog Rows.codecValidRow.origin Rows.codecValidRow.targs := of_decide_eq_true (by kernel_rfl)
theorem valid_said : Rows.CodecValidSaid :=
  OpenClaim.holds_of_wide 3 Tryz.f3 rfl rfl rfl rfl rfl rfl rfl ⟨rfl, rfl, rfl, rfl, rfl⟩ rfl rfl rfl rfl rfl valid_name Tryz.func3 puts_closed valid_inst valid_wrap
    (fun os started H enc _ => valid_lifted os started H enc)
theorem valid_wf : Rows.codecValidRow.wfByText (OpenSpec.ofChange Rows.codecValidSpec) = true := by kernel_rfl
theorem valid_goes : false = Rows.codecValidRow.goesBy Tryz.pinned.checked.prog := by kernel_rfl
theorem valid_card : Rows.CodecValidCardSaid :=
  Claim7.holds_tied_plain_at .later [] _ _ _ _ valid_said (fun _ h => by cases h) valid_wf (fun _ h => by cases h) codecValid_row_tie rfl ⟨rfl, rfl⟩ prog_main rfl valid_plain valid_goes
#print axioms valid_card
end Go.Proofs.YtpnofkefcoaojaaGreatDoor
