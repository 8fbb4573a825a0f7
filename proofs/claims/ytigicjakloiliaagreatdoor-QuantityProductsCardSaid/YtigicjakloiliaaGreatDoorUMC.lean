/- QuantityProducts: for every two units and every int the law returns true, and its arguments read as they did. Conditions: the listed variables of Go's library start as the program's text lays them. -/
import Derived.Test.YtigicjakloiliaaGreatDoorUM
import Derived.Test.YtigicjakloiliaaGreatDoorCU
set_option maxHeartbeats 0
set_option maxRecDepth 100000
namespace Go.Proofs.YtigicjakloiliaaGreatDoor
open Go.ChangeMaps Go.ChangeShapes Go.WideShapes Go.ChangeAt Go.RowKit Go.Joins
theorem products_tab {W:World} (h:laidMetH Tryz.prog Rows.quantityProductsRow.laid W):Tab W:=by
 rw [MakeChecks.laidMetH_plain _ _ _ (by kernel_rfl)] at h
 exact Lib.tabIs_of_head gPow gPowType Tryz.underlying241 Tryz.underlying79 cells79 cells241 (laidMet.tail (laidMet.tail h))
theorem products_readable:∀ t ∈ Tryz.f11.params.toList,Tryz.prog.readableRec t=true:=by
 rw [Tryz.params11]
 intro t ht
 have ht:t ∈ [53,53,3]:=ht
 simp only [List.mem_cons,List.not_mem_nil,or_false] at ht
 rcases ht with rfl|rfl|rfl
 ·exact readable53
 ·exact readable53
 ·exact readable3
theorem products_inTypes:∀ t ∈ Tryz.f11.params.toList,t<Tryz.prog.types.size:=by
 rw [Tryz.params11]
 intro t ht
 have ht:t ∈ [53,53,3]:=ht
 simp only [List.mem_cons,List.not_mem_nil,or_false] at ht
 rcases ht with rfl|rfl|rfl
 ·exact inTypes53
 ·exact inTypes53
 ·exact inTypes3
theorem products_met (os:Os) (args:Array Value):laidMetH Tryz.prog Rows.quantityProductsRow.laid ((World.doorLaid Tryz.prog 62 os).forCall (fun _ _=>0) ⟨#[],args,[]⟩).memory:=by
 rw [MakeChecks.laidMetH_plain _ _ _ (by kernel_rfl)]
 exact laidMet_of_run' 8 (by kernel_rfl) (by kernel_rfl)
theorem products_lifted (os:Os) (started:os.Started) (H:Type) (enc:TypeId × Value→H) :
  ReturnsInHanded {} Tryz.checked os 11 .any (fun w args=>(Rows.quantityProductsSpec.pre enc Tryz.prog Tryz.f11 [] false w args∧laidMetH Tryz.prog Rows.quantityProductsRow.laid w)∧sizedMet enc Tryz.prog Tryz.f11 (OpenSpec.ofChange Rows.quantityProductsSpec) false w args)
   (Rows.quantityProductsSpec.post enc Tryz.prog Tryz.f11 false true false false):=by
 refine returnsInHanded_of_change_and (C:=Tryz.checked) (X:=fun w _=>laidMetH Tryz.prog Rows.quantityProductsRow.laid w) (fun _ _ _ hh h=>h.of_heap hh) ownK started (by kernel_rfl) Tryz.func11
  (ChangeSpec.witness_shaped (enc:=enc) (C:=Tryz.checked) (os:=os) (X:=fun w _=>laidMetH Tryz.prog Rows.quantityProductsRow.laid w) false (World.doorLaid Tryz.prog 62 os) #[.agg #[.string ⟨#[]⟩,.string ⟨#[]⟩,.int .i64 0,.int .i64 0,.int .i64 0,.int .i64 0,.int .i64 0,.int .i64 0,.int .i64 0],.agg #[.string ⟨#[]⟩,.string ⟨#[]⟩,.int .i64 0,.int .i64 0,.int .i64 0,.int .i64 0,.int .i64 0,.int .i64 0,.int .i64 0],.int .i64 0] 8 rfl (World.shaped_of_RefB (by kernel_rfl) (by kernel_rfl)) (by kernel_rfl) (by kernel_rfl) (by kernel_rfl) (products_met os _)) ?_
 intro W base args ds gs before hval0 hW _ _ hL _
 have hval:∀ (j:Nat) t v,Tryz.f11.params[j]?=some t→args[j]?=some v→Value.okWide Tryz.prog W .any base t v:=hval0
 have hW':=hW
 obtain ⟨p,q,hA0,hV,hpq,hfz,hnd⟩:=hW
 have hA:DataW.TrodAll enc Tryz.prog W 0 (fun _=>true) true Tryz.f11.params.toList args.toList ds p:=hA0
 have hA':=hA
 rw [Tryz.params11] at hA' hval
 obtain ⟨v0,vs0,d0,ds0,p0,q0,hargs,rfl,-,h0,r0⟩:=trodAll_cons hA'
 obtain ⟨v1,vs1,d1,ds1,p1,q1,rfl,rfl,-,h1,r1⟩:=trodAll_cons r0
 obtain ⟨v2,vs2,d2,ds2,p2,q2,rfl,rfl,-,h2,r2⟩:=trodAll_cons r1
 obtain ⟨rfl,rfl,-⟩:=trodAll_nil r2
 obtain rfl:args=#[v0,v1,v2]:=by cases args;simp_all
 obtain ⟨rfl,rfl⟩:=trodVars_none hV
 obtain ⟨f,o,m0,m1,m2,m3,m4,m5,m6,rfl⟩:=open_unit (hval 0 53 v0 rfl rfl) h0
 obtain ⟨f',o',n0,n1,n2,n3,n4,n5,n6,rfl⟩:=open_unit (hval 1 53 v1 rfl rfl) h1
 obtain ⟨a2,rfl,-,-,w2⟩:=open_int Tryz.underlying3 (hval 2 3 v2 rfl rfl) h2
 clear hA0 hval0 hA'
 have hp:before=p:=by rw [hpq,List.append_nil]
 have hlt:∀ x ∈ p,x.block<W.heap.size:=fun x hx=>hW'.lt x (by rw [hp];exact hx)
 refine (products_any f o m0 m1 m2 m3 m4 m5 m6 f' o' n0 n1 n2 n3 n4 n5 n6 a2 W (products_tab hL)).mono fun e W' ⟨he,hg⟩=>?_
 subst he
 exact ⟨_,rfl,post_of_below (pa:=p) (pv:=[]) hW' (fun _ _ _=>trodAll_cons_mk (shut_bool Tryz.underlying4 _) trodAll_mk0)
  (fun sp hsp=>trodAll_stays laidAll hg sp _ _ _ _ products_readable products_inTypes hA hlt (fun x hx=>hsp x (by rw [hp];exact hx)))
  (fun _ _=>rfl) (by rw [hp,List.append_nil]) hg (ok_one (by kernel_rfl) rfl (okWide_bool_mk Tryz.underlying4 _))⟩
theorem products_name:Tryz.pinned.checked.prog.funcNamed Rows.quantityProductsRow.func=some 11:=by kernel_rfl
theorem products_plain (f : FuncId) (fn : Func) (hf : Tryz.pinned.checked.prog.funcNamed "arrayarchive/arrayarchivelaw01.QuantityProducts" = some f) (hfn : Tryz.pinned.checked.prog.funcs[f]? = some fn) :
  true=Tryz.pinned.checked.prog.looks []∧∀ (j:Nat) t,fn.params[j]?=some t→Tryz.pinned.checked.prog.wantsStandIn t=false:=by
 obtain rfl : f = 11 := Option.some.inj ((show Tryz.prog.funcNamed "arrayarchive/arrayarchivelaw01.QuantityProducts" = some 11 by kernel_rfl).symm.trans hf) |>.symm
 obtain rfl:fn=Tryz.f11:=(Option.some.inj (Tryz.func11.symm.trans hfn)).symm
 refine ⟨by kernel_rfl,fun j t ht=>?_⟩
 rw [Tryz.params11] at ht
 have hm:t=53∨t=3:=by simpa using Array.mem_of_getElem? ht
 rcases hm with rfl|rfl
 ·exact (show Tryz.prog.wantsStandIn 53=false by kernel_rfl)
 ·exact (show Tryz.prog.wantsStandIn 3=false by kernel_rfl)
theorem products_closed:joinedFacts Tryz.pinned.checked.prog 11 Tryz.f11 Rows.quantityProductsSpec Rows.quantityProductsRow=true:=by
 have h:=field_closed
 unfold joinedFacts at h
 simp only [Bool.and_eq_true] at h
 obtain ⟨⟨⟨⟨⟨⟨⟨⟨⟨⟨⟨⟨⟨⟨⟨⟨⟨⟨⟨⟨⟨⟨⟨⟨⟨⟨⟨⟨⟨⟨⟨h0,h1⟩,h2⟩,h3⟩,h4⟩,h5⟩,h6⟩,h7⟩,h8⟩,h9⟩,h10⟩,h11⟩,h12⟩,h13⟩,h14⟩,h15⟩,h16⟩,h17⟩,h18⟩,h19⟩,h20⟩,h21⟩,h22⟩,h23⟩,h24⟩,h25⟩,h26⟩,h27⟩,h28⟩,h29⟩,h30⟩,h31⟩:=h
 refine joined_of ?_ h1 h2 ?_ ?_ ?_ h6 ?_ h8 ?_ ?_ ?_ ?_ ?_ ?_ ?_ ?_ ?_ ?_ ?_ ?_ ?_ h22 ?_ h24 h25 h26 h27 ?_ ?_ ?_ ?_
 all_goals (clear h0 h1 h2 h3 h4 h5 h6 h7 h8 h9 h10 h11 h12 h13 h14 h15 h16 h17 h18 h19 h20 h21 h22 h23 h24 h25 h26 h27 h28 h29 h30 h31)
 all_goals (as_aux_lemma=>kernel_rfl)
theorem products_wrap:Tryz.f11.isWrapper Tryz.pinned.checked.prog Rows.quantityProductsRow.wrapper Rows.quantityProductsRow.mainSum:=by
 unfold Func.isWrapper;first|(rw [if_pos (by decide +kernel)];kernel_rfl)|(rw [if_neg (by decide +kernel)];exact ⟨rfl,rfl⟩)
theorem products_inst:Tryz.f11.isInstance Tryz.pinned.checked.prog Rows.quantityProductsRow.origin Rows.quantityProductsRow.targs:=of_decide_eq_true (by kernel_rfl)
theorem products_said:Rows.QuantityProductsSaid :=
 OpenClaim.holds_of_wide 11 Tryz.f11 rfl rfl rfl rfl rfl rfl rfl ⟨rfl,rfl,rfl,rfl,rfl⟩ rfl rfl rfl rfl rfl products_name Tryz.func11 products_closed products_inst products_wrap
  (fun os started H enc _=>products_lifted os started H enc)
theorem products_wf:Rows.quantityProductsRow.wfByText (OpenSpec.ofChange Rows.quantityProductsSpec)=true:=by kernel_rfl
theorem products_goes:false=Rows.quantityProductsRow.goesBy Tryz.pinned.checked.prog:=by kernel_rfl
theorem products_card:Rows.QuantityProductsCardSaid :=
 Claim7.holds_tied_plain_at .later [] _ _ _ _ products_said (fun _ h=>by cases h) products_wf (fun _ h=>by cases h) quantityProducts_row_tie rfl ⟨rfl,rfl⟩ prog_main rfl products_plain products_goes
#print axioms products_card
end Go.Proofs.YtigicjakloiliaaGreatDoor
