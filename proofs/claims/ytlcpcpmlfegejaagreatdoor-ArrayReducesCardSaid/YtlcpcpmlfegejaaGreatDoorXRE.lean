/- ArrayReduces: for every array, axis and reduction the law returns true, and its arguments read as they did. Conditions: the listed variables of Go's library start as the program's text lays them. -/
import Derived.Test.YtlcpcpmlfegejaaGreatDoorXQ
import Derived.Test.YtlcpcpmlfegejaaGreatDoorXB
set_option maxHeartbeats 0
set_option maxRecDepth 100000
namespace Go.Proofs.YtlcpcpmlfegejaaGreatDoor
open Go.ChangeMaps Go.ChangeShapes Go.WideShapes Go.ChangeAt Go.RowKit
open Arr
theorem reduces_met (os:Os) (args:Array Value):laidMetH Tryz.prog Rows.arrayReducesRow.laid ((World.doorLaid Tryz.prog 62 os).forCall (fun _ _=>0) ⟨#[],args,[]⟩).memory:=by
 rw [MakeChecks.laidMetH_plain _ _ _ (by kernel_rfl)]
 exact laidMet_of_run' 8 (by kernel_rfl) (by kernel_rfl)
theorem reduces_readable:∀ t ∈ Tryz.f4.params.toList,Tryz.prog.readableRec t=true:=by
 rw [Tryz.params4]
 intro t ht
 have ht:t ∈ [31,3,3]:=ht
 simp only [List.mem_cons,List.not_mem_nil,or_false] at ht
 rcases ht with rfl|rfl|rfl
 ·exact readable31
 ·exact readable3
 ·exact readable3
theorem reduces_inTypes:∀ t ∈ Tryz.f4.params.toList,t<Tryz.prog.types.size:=by
 rw [Tryz.params4]
 intro t ht
 have ht:t ∈ [31,3,3]:=ht
 simp only [List.mem_cons,List.not_mem_nil,or_false] at ht
 rcases ht with rfl|rfl|rfl
 ·exact inTypes31
 ·exact inTypes3
 ·exact inTypes3
theorem reduces_lifted (os:Os) (started:os.Started) (H:Type) (enc:TypeId × Value→H) :
  ReturnsInHanded {} Tryz.checked os 4 .any (fun w args=>(Rows.arrayReducesSpec.pre enc Tryz.prog Tryz.f4 [] false w args∧laidMetH Tryz.prog Rows.arrayReducesRow.laid w)∧sizedMet enc Tryz.prog Tryz.f4 (OpenSpec.ofChange Rows.arrayReducesSpec) false w args)
   (Rows.arrayReducesSpec.post enc Tryz.prog Tryz.f4 false true false false):=by
 refine returnsInHanded_of_change_and (C:=Tryz.checked) (X:=fun w _=>laidMetH Tryz.prog Rows.arrayReducesRow.laid w) (fun _ _ _ hh h=>h.of_heap hh) ownK started (by kernel_rfl) Tryz.func4
  (ChangeSpec.witness_shaped (enc:=enc) (C:=Tryz.checked) (os:=os) (X:=fun w _=>laidMetH Tryz.prog Rows.arrayReducesRow.laid w) false (World.doorLaid Tryz.prog 62 os) #[.agg #[.slice none 0 0,.slice none 0 0],.int .i64 0,.int .i64 0] 8 rfl (World.shaped_of_RefB (by kernel_rfl) (by kernel_rfl)) (by kernel_rfl) (by kernel_rfl) (by kernel_rfl) (reduces_met os _)) ?_
 intro W base args ds gs before hval0 hW _ _ hL _
 have hval:∀ (j:Nat) t v,Tryz.f4.params[j]?=some t→args[j]?=some v→Value.okWide Tryz.prog W .any base t v:=hval0
 have hW':=hW
 have hltw:∀ x ∈ before,x.block<W.heap.size:=fun x hx=>hW.lt x hx
 obtain ⟨p,q,hA0,hV,hp,hfz,hnd⟩:=hW
 have hA:DataW.TrodAll enc Tryz.prog W 0 (fun _=>true) true Tryz.f4.params.toList args.toList ds p:=hA0
 obtain ⟨rfl,rfl⟩:=trodVars_none hV
 rw [List.append_nil] at hp
 have hlt:∀ x ∈ p,x.block<W.heap.size:=fun x hx=>hltw x (by rw [hp];exact hx)
 have hB:=hA
 rw [Tryz.params4] at hB hval
 obtain ⟨v0,vs0,d0,ds0,p0,q0,hargs,rfl,rfl,h0,r0⟩:=trodAll_cons hB
 obtain ⟨v1,vs1,d1,ds1,p1,q1,rfl,rfl,rfl,h1,r1⟩:=trodAll_cons r0
 obtain ⟨v2,vs2,d2,ds2,p2,q2,rfl,rfl,rfl,h2,r2⟩:=trodAll_cons r1
 obtain ⟨rfl,rfl,rfl⟩:=trodAll_nil r2
 obtain rfl:args=#[v0,v1,v2]:=by cases args;simp_all
 obtain ⟨pa0,qa0,c0,e0,s0,l0,rfl,hc0,ra0,rb0⟩:=in_arrayc (hval 0 31 v0 rfl rfl) h0
 obtain ⟨a1,rfl,rfl,rfl,x1⟩:=open_int Tryz.underlying3 (hval 1 3 v1 rfl rfl) h1
 obtain ⟨a2,rfl,rfl,rfl,x2⟩:=open_int Tryz.underlying3 (hval 2 3 v2 rfl rfl) h2
 clear hA0 hval0
 refine (reduces_law pa0 qa0 c0 e0 _ _ s0 l0 a1 a2 W (env_laid hL) (Lib.hid rfl) (Lib.hid rfl) hc0 ra0 rb0).mono fun e W' ⟨hb,he⟩=>?_
 subst he
 exact ⟨_,rfl,post_of_below (pv:=[]) hW' (fun _ _ _=>trodAll_cons_mk (shut_bool Tryz.underlying4 _) trodAll_mk0)
  (fun sp hsp=>trodAll_stays laidAll hb sp _ _ _ _ reduces_readable reduces_inTypes hA hlt (fun x hx=>hsp x (by rw [hp];exact hx))) (fun _ _=>rfl) (by rw [List.append_nil];exact hp) hb (ok_one (by kernel_rfl) rfl (okWide_bool_mk Tryz.underlying4 _))⟩
theorem reduces_name:Tryz.pinned.checked.prog.funcNamed Rows.arrayReducesRow.func=some 4:=by kernel_rfl
theorem reduces_plain (f : FuncId) (fn : Func) (hf : Tryz.pinned.checked.prog.funcNamed "arrayarchive/arrayarchivelaw06.ArrayReduces" = some f) (hfn : Tryz.pinned.checked.prog.funcs[f]? = some fn) :
  true=Tryz.pinned.checked.prog.looks []∧∀ (j:Nat) t,fn.params[j]?=some t→Tryz.pinned.checked.prog.wantsStandIn t=false:=by
 obtain rfl : f = 4 := Option.some.inj ((show Tryz.prog.funcNamed "arrayarchive/arrayarchivelaw06.ArrayReduces" = some 4 by kernel_rfl).symm.trans hf) |>.symm
 obtain rfl:fn=Tryz.f4:=(Option.some.inj (Tryz.func4.symm.trans hfn)).symm
 refine ⟨by kernel_rfl,fun j t ht=>?_⟩
 rw [Tryz.params4] at ht
 have hm:t=31∨t=3∨t=3:=by simpa using Array.mem_of_getElem? ht
 rcases hm with rfl|rfl|rfl
 ·exact (show Tryz.prog.wantsStandIn 31=false by kernel_rfl)
 ·exact (show Tryz.prog.wantsStandIn 3=false by kernel_rfl)
 ·exact (show Tryz.prog.wantsStandIn 3=false by kernel_rfl)
theorem reduces_closed:joinedFacts Tryz.pinned.checked.prog 4 Tryz.f4 Rows.arrayReducesSpec Rows.arrayReducesRow=true:=by
 have h:=twice_closed0
 unfold joinedFacts at h
 simp only [Bool.and_eq_true] at h
 obtain ⟨⟨⟨⟨⟨⟨⟨⟨⟨⟨⟨⟨⟨⟨⟨⟨⟨⟨⟨⟨⟨⟨⟨⟨⟨⟨⟨⟨⟨⟨⟨h0,h1⟩,h2⟩,h3⟩,h4⟩,h5⟩,h6⟩,h7⟩,h8⟩,h9⟩,h10⟩,h11⟩,h12⟩,h13⟩,h14⟩,h15⟩,h16⟩,h17⟩,h18⟩,h19⟩,h20⟩,h21⟩,h22⟩,h23⟩,h24⟩,h25⟩,h26⟩,h27⟩,h28⟩,h29⟩,h30⟩,h31⟩:=h
 refine joined_of ?_ h1 h2 ?_ ?_ ?_ h6 ?_ h8 ?_ ?_ ?_ ?_ ?_ ?_ ?_ ?_ ?_ ?_ ?_ ?_ ?_ h22 ?_ h24 h25 h26 h27 ?_ ?_ ?_ ?_
 all_goals (clear h0 h1 h2 h3 h4 h5 h6 h7 h8 h9 h10 h11 h12 h13 h14 h15 h16 h17 h18 h19 h20 h21 h22 h23 h24 h25 h26 h27 h28 h29 h30 h31)
 all_goals (as_aux_lemma=>kernel_rfl)
theorem reduces_wrap:Tryz.f4.isWrapper Tryz.pinned.checked.prog Rows.arrayReducesRow.wrapper Rows.arrayReducesRow.mainSum:=by
 unfold Func.isWrapper;first|(rw [if_pos (by decide +kernel)];kernel_rfl)|(rw [if_neg (by decide +kernel)];exact ⟨rfl,rfl⟩)
theorem reduces_inst:Tryz.f4.isInstance Tryz.pinned.checked.prog Rows.arrayReducesRow.origin Rows.arrayReducesRow.targs:=of_decide_eq_true (by kernel_rfl)
theorem reduces_said:Rows.ArrayReducesSaid :=
 OpenClaim.holds_of_wide 4 Tryz.f4 rfl rfl rfl rfl rfl rfl rfl ⟨rfl,rfl,rfl,rfl,rfl⟩ rfl rfl rfl rfl rfl reduces_name Tryz.func4 reduces_closed reduces_inst reduces_wrap
  (fun os started H enc _=>reduces_lifted os started H enc)
theorem reduces_wf:Rows.arrayReducesRow.wfByText (OpenSpec.ofChange Rows.arrayReducesSpec)=true:=by kernel_rfl
theorem reduces_goes:false=Rows.arrayReducesRow.goesBy Tryz.pinned.checked.prog:=by kernel_rfl
theorem reduces_card:Rows.ArrayReducesCardSaid :=
 Claim7.holds_tied_plain_at .later [] _ _ _ _ reduces_said (fun _ h=>by cases h) reduces_wf (fun _ h=>by cases h) arrayReduces_row_tie rfl ⟨rfl,rfl⟩ prog_main rfl reduces_plain reduces_goes
#print axioms reduces_card
end Go.Proofs.YtlcpcpmlfegejaaGreatDoor
