/- CodecSums: for every slice of bytes, every int and every byte the law returns true, and its arguments read as they did. Conditions: the listed variables of Go's library start as the program's text lays them. -/
import Derived.Test.YtpbcdmefngbjjaaGreatDoorCD
import Derived.Test.YtpbcdmefngbjjaaGreatDoorXB
set_option maxHeartbeats 0
set_option maxRecDepth 100000
namespace Go.Proofs.YtpbcdmefngbjjaaGreatDoor
open Go.ChangeMaps Go.ChangeShapes Go.WideShapes Go.ChangeAt Go.RowKit
theorem sums_met (os : Os) (args : Array Value) : laidMetH Tryz.prog Rows.codecSumsRow.laid ((World.doorLaid Tryz.prog 62 os).forCall (fun _ _ => 0) ⟨#[], args, []⟩).memory := by
  rw [MakeChecks.laidMetH_plain _ _ _ (by kernel_rfl)]
  exact laidMet_of_run' 8 (by kernel_rfl) (by kernel_rfl)
theorem sums_readable : ∀ t ∈ Tryz.f9.params.toList, Tryz.prog.readableRec t = true := by
  rw [Tryz.params9]
  intro t ht
  have ht : t ∈ [22, 3, 5] := ht
  simp only [List.mem_cons, List.not_mem_nil, or_false] at ht
  rcases ht with rfl | rfl | rfl
  · exact readable22
  · exact readable3
  · exact readable5
theorem sums_inTypes : ∀ t ∈ Tryz.f9.params.toList, t < Tryz.prog.types.size := by
  rw [Tryz.params9]
  intro t ht
  have ht : t ∈ [22, 3, 5] := ht
  simp only [List.mem_cons, List.not_mem_nil, or_false] at ht
  rcases ht with rfl | rfl | rfl
  · exact inTypes22
  · exact inTypes3
  · exact inTypes5
theorem sums_lifted (os : Os) (started : os.Started) (H : Type) (enc : TypeId × Value → H) :
    ReturnsInHanded {} Tryz.checked os 9 .any (fun w args => (Rows.codecSumsSpec.pre enc Tryz.prog Tryz.f9 [] false w args ∧ laidMetH Tryz.prog Rows.codecSumsRow.laid w) ∧ sizedMet enc Tryz.prog Tryz.f9 (OpenSpec.ofChange Rows.codecSumsSpec) false w args)
      (Rows.codecSumsSpec.post enc Tryz.prog Tryz.f9 false true false false) := by
  refine returnsInHanded_of_change_and (C := Tryz.checked) (X := fun w _ => laidMetH Tryz.prog Rows.codecSumsRow.laid w) (fun _ _ _ hh h => h.of_heap hh) ownK started (by kernel_rfl) Tryz.func9
    (ChangeSpec.witness_shaped (enc := enc) (C := Tryz.checked) (os := os) (X := fun w _ => laidMetH Tryz.prog Rows.codecSumsRow.laid w) false (World.doorLaid Tryz.prog 62 os) #[.slice none 0 0, .int .i64 0, .int .u8 0] 8 rfl (World.shaped_of_RefB (by kernel_rfl) (by kernel_rfl)) (by kernel_rfl) (by kernel_rfl) (by kernel_rfl) (sums_met os _)) ?_
  intro W base args ds gs before hval0 hW _ _ hL _
  have hval : ∀ (j : Nat) t v, Tryz.f9.params[j]? = some t → args[j]? = some v → Value.okWide Tryz.prog W .any base t v := hval0
  have hW' := hW
  have hltw : ∀ x ∈ before, x.block < W.heap.size := fun x hx => hW.lt x hx
  obtain ⟨p, q, hA0, hV, hp, hfz, hnd⟩ := hW
  have hA : DataW.TrodAll enc Tryz.prog W 0 (fun _ => true) true Tryz.f9.params.toList args.toList ds p := hA0
  obtain ⟨rfl, rfl⟩ := trodVars_none hV
  rw [List.append_nil] at hp
  have hlt : ∀ x ∈ p, x.block < W.heap.size := fun x hx => hltw x (by rw [hp]; exact hx)
  have hB := hA
  rw [Tryz.params9] at hB hval
  obtain ⟨v0, vs0, d0, ds0, p0, q0, hargs, rfl, rfl, h0, r0⟩ := trodAll_cons hB
  obtain ⟨v1, vs1, d1, ds1, p1, q1, rfl, rfl, rfl, h1, r1⟩ := trodAll_cons r0
  obtain ⟨v2, vs2, d2, ds2, p2, q2, rfl, rfl, rfl, h2, r2⟩ := trodAll_cons r1
  obtain ⟨rfl, rfl, rfl⟩ := trodAll_nil r2
  obtain rfl : args = #[v0, v1, v2] := by cases args; simp_all
  obtain ⟨a0, c0, l0, rfl, -, -, b0⟩ := open_bytes (hval 0 22 v0 rfl rfl) h0
  obtain ⟨a1, rfl, rfl, rfl, x1⟩ := open_int Tryz.underlying3 (hval 1 3 v1 rfl rfl) h1
  obtain ⟨a2, rfl, rfl, rfl, x2⟩ := open_int Tryz.underlying5 (hval 2 5 v2 rfl rfl) h2
  clear hA0 hval0
  refine (sums_any a0 c0 l0 a1 a2 W (saneAt W (env_laid hL)) b0 (bounds_u8 x2).1 (bounds_u8 x2).2).mono fun e W' ⟨he, hb⟩ => ?_
  subst he
  exact ⟨_, rfl, post_of_below (pv := []) hW' (fun _ _ _ => trodAll_cons_mk (shut_bool Tryz.underlying4 _) trodAll_mk0)
    (fun sp hsp => trodAll_stays laidAll hb sp _ _ _ _ sums_readable sums_inTypes hA hlt (fun x hx => hsp x (by rw [hp]; exact hx))) (fun _ _ => rfl) (by rw [List.append_nil]; exact hp) hb (ok_one (by kernel_rfl) rfl (okWide_bool_mk Tryz.underlying4 _))⟩
theorem sums_name : Tryz.pinned.checked.prog.funcNamed Rows.codecSumsRow.func = some 9 := by kernel_rfl
theorem sums_plain (f : FuncId) (fn : Func) (hf : Tryz.pinned.checked.prog.funcNamed "arrayarchive/arrayarchivelaw04.CodecSums" = some f) (hfn : Tryz.pinned.checked.prog.funcs[f]? = some fn) :
    true = Tryz.pinned.checked.prog.looks [] ∧ ∀ (j : Nat) t, fn.params[j]? = some t → Tryz.pinned.checked.prog.wantsStandIn t = false := by
  obtain rfl : f = 9 := Option.some.inj ((show Tryz.prog.funcNamed "arrayarchive/arrayarchivelaw04.CodecSums" = some 9 by kernel_rfl).symm.trans hf) |>.symm
  obtain rfl : fn = Tryz.f9 := (Option.some.inj (Tryz.func9.symm.trans hfn)).symm
  refine ⟨by kernel_rfl, fun j t ht => ?_⟩
  rw [Tryz.params9] at ht
  have hm : t = 22 ∨ t = 3 ∨ t = 5 := by simpa using Array.mem_of_getElem? ht
  rcases hm with rfl | rfl | rfl
  · exact (show Tryz.prog.wantsStandIn 22 = false by kernel_rfl)
  · exact (show Tryz.prog.wantsStandIn 3 = false by kernel_rfl)
  · exact (show Tryz.prog.wantsStandIn 5 = false by kernel_rfl)
theorem sums_wrap : Tryz.f9.isWrapper Tryz.pinned.checked.prog Rows.codecSumsRow.wrapper Rows.codecSumsRow.mainSum := by
  unfold Func.isWrapper; first | (rw [if_pos (by decide +kernel)]; kernel_rfl) | (rw [if_neg (by decide +kernel)]; exact ⟨rfl, rfl⟩)
theorem sums_inst : Tryz.f9.isInstance Tryz.pinned.checked.prog Rows.codecSumsRow.origin Rows.codecSumsRow.targs := of_decide_eq_true (by kernel_rfl)
theorem sums_said : Rows.CodecSumsSaid :=
  OpenClaim.holds_of_wide 9 Tryz.f9 rfl rfl rfl rfl rfl rfl rfl ⟨rfl, rfl, rfl, rfl, rfl⟩ rfl rfl rfl rfl rfl sums_name Tryz.func9 sums_closed sums_inst sums_wrap
    (fun os started H enc _ => sums_lifted os started H enc)
theorem sums_wf : Rows.codecSumsRow.wfByText (OpenSpec.ofChange Rows.codecSumsSpec) = true := by kernel_rfl
theorem sums_goes : false = Rows.codecSumsRow.goesBy Tryz.pinned.checked.prog := by kernel_rfl
theorem sums_card : Rows.CodecSumsCardSaid :=
  Claim7.holds_tied_plain_at .later [] _ _ _ _ sums_said (fun _ h => by cases h) sums_wf (fun _ h => by cases h) codecSums_row_tie rfl ⟨rfl, rfl⟩ prog_main rfl sums_plain sums_goes
#print axioms sums_card
end Go.Proofs.YtpbcdmefngbjjaaGreatDoor
