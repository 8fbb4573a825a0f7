/- The program's combined. -/
import Derived.Test.YtigicjakloiliaaGreatDoorPart18
import Derived.RegionTactic
import Derived.ChangeAlike
import Derived.BigRegion
import Derived.Deep.RegionHeld3
set_option maxHeartbeats 1600000
set_option maxRecDepth 100000
namespace Go.Proofs.YtigicjakloiliaaGreatDoor
open Go.RowKit Go.Lib Big
section
variable {w0 W W' : World} {L : List Blk}
end
theorem Keep.three (w:World) (c1 c2 c3:Array Value) (t1 t2 t3:TypeId):Keep w (((w.alloc (.cells c1 t1)).alloc (.cells c2 t2)).alloc (.cells c3 t3)) [(w.heap.size+1+1,c3,t3),(w.heap.size+1,c2,t2),(w.heap.size,c1,t1)]:=by
 have h:=(((Keep.nil w).more c1 t1).more c2 t2).more c3 t3
 rwa [show ((w.alloc (.cells c1 t1)).alloc (.cells c2 t2)).heap.size=w.heap.size+1+1 from by simp,show (w.alloc (.cells c1 t1)).heap.size=w.heap.size+1 from by simp] at h
theorem keep_resU {w0 W:World} {L:List Blk} {g:Nat} {a0 a1 a2 a3 a4 a5 a6 a7 a8:Value} (h:Keep w0 W ((g,#[a0,a1,a2,a3,a4,a5,a6,a7,a8],53)::L)):ResU g w0 W :=
 ⟨h.lt (List.mem_cons_self ..),h.below,_,_,_,_,_,_,_,_,_,h.one _ (List.mem_cons_self ..)⟩
def PlainIs (w:World) (u:Value) (b:Bool):Prop:=∀ W,Below w.heap.size w W→Hid (Calls Tryz.prog 113 #[u] W fun e w'=>e=.returned (.bool b)∧Below W.heap.size W w')
theorem combined_no1 (f o:ByteArray) (p0 p1 p2 p3 p4 p5 p6:Int) (f' o':ByteArray) (r0 r1 r2 r3 r4 r5 r6:Int) (n:Int) (w:World) (hu:PlainIs w (.agg #[.string f,.string o,.int .i64 p0,.int .i64 p1,.int .i64 p2,.int .i64 p3,.int .i64 p4,.int .i64 p5,.int .i64 p6]) false):Calls Tryz.prog 117 #[.agg #[.string f,.string o,.int .i64 p0,.int .i64 p1,.int .i64 p2,.int .i64 p3,.int .i64 p4,.int .i64 p5,.int .i64 p6],.agg #[.string f',.string o',.int .i64 r0,.int .i64 r1,.int .i64 r2,.int .i64 r3,.int .i64 r4,.int .i64 r5,.int .i64 r6],.int .i64 n] w (UnitPost (zeroU,10) w):=by
 have hk0:Hid (Keep w (((w.alloc (.cells #[.string f,.string o,.int .i64 p0,.int .i64 p1,.int .i64 p2,.int .i64 p3,.int .i64 p4,.int .i64 p5,.int .i64 p6] 53)).alloc (.cells #[.string f',.string o',.int .i64 r0,.int .i64 r1,.int .i64 r2,.int .i64 r3,.int .i64 r4,.int .i64 r5,.int .i64 r6] 53)).alloc (.cells #[.string ⟨#[]⟩,.string ⟨#[]⟩,.int .i64 0,.int .i64 0,.int .i64 0,.int .i64 0,.int .i64 0,.int .i64 0,.int .i64 0] 53)) [(w.heap.size+1+1,#[.string ⟨#[]⟩,.string ⟨#[]⟩,.int .i64 0,.int .i64 0,.int .i64 0,.int .i64 0,.int .i64 0,.int .i64 0,.int .i64 0],53),(w.heap.size+1,#[.string f',.string o',.int .i64 r0,.int .i64 r1,.int .i64 r2,.int .i64 r3,.int .i64 r4,.int .i64 r5,.int .i64 r6],53),(w.heap.size,#[.string f,.string o,.int .i64 p0,.int .i64 p1,.int .i64 p2,.int .i64 p3,.int .i64 p4,.int .i64 p5,.int .i64 p6],53)]):=hiD (Keep.three w _ _ _ 53 53 53)
 have h1:=hu _ hk0.out.below
 clear hu
 go_enter Tryz.func117,Tryz.ntmps117
 go_wp2_with fail
 refine h1.out.mono ?_
 rintro e w2 ⟨rfl,hb2⟩
 have Hres2:=hiD (keep_resU (hk0.out.next hb2))
 obtain ⟨z0,z1,z2,z3,z4,z5,z6,z7,z8,⟨l0,l1,l2,l3,l4,l5,l6,l7,l8⟩,⟨f0,f1,f2,f3,f4,f5,f6,f7,f8⟩⟩:=Hres2.out.slots
 have hfin:Hid (∀ W,W=((((((((((w2).setCell ⟨w.heap.size+1+1,0,none⟩ (.string ⟨#[]⟩)).setCell ⟨w.heap.size+1+1,1,none⟩ (.string ⟨#[]⟩)).setCell ⟨w.heap.size+1+1,2,none⟩ (.int .i64 0)).setCell ⟨w.heap.size+1+1,3,none⟩ (.int .i64 0)).setCell ⟨w.heap.size+1+1,4,none⟩ (.int .i64 0)).setCell ⟨w.heap.size+1+1,5,none⟩ (.int .i64 0)).setCell ⟨w.heap.size+1+1,6,none⟩ (.int .i64 0)).setCell ⟨w.heap.size+1+1,7,none⟩ (.int .i64 0)).setCell ⟨w.heap.size+1+1,8,none⟩ (.int .i64 0))→UnitPost (zeroU,10) w (.returned (.tuple #[.agg #[.string ⟨#[]⟩,.string ⟨#[]⟩,.int .i64 0,.int .i64 0,.int .i64 0,.int .i64 0,.int .i64 0,.int .i64 0,.int .i64 0],.int .i64 10])) W):=hiD (by
  rintro W rfl
  exact ⟨_,_,_,_,_,_,_,_,_,rfl,rfl,Hres2.out.put9 (by first|omega|(simp;done)|(simp;omega)) (.string ⟨#[]⟩) (.string ⟨#[]⟩) (.int .i64 0) (.int .i64 0) (.int .i64 0) (.int .i64 0) (.int .i64 0) (.int .i64 0) (.int .i64 0)⟩)
 clear hb2
 go_wp2_with fail
 have hcells:=Hres2.out.put9_heap (.string ⟨#[]⟩) (.string ⟨#[]⟩) (.int .i64 0) (.int .i64 0) (.int .i64 0) (.int .i64 0) (.int .i64 0) (.int .i64 0) (.int .i64 0)
 generalize (((((((((w2).setCell ⟨w.heap.size+1+1,0,none⟩ (.string ⟨#[]⟩)).setCell ⟨w.heap.size+1+1,1,none⟩ (.string ⟨#[]⟩)).setCell ⟨w.heap.size+1+1,2,none⟩ (.int .i64 0)).setCell ⟨w.heap.size+1+1,3,none⟩ (.int .i64 0)).setCell ⟨w.heap.size+1+1,4,none⟩ (.int .i64 0)).setCell ⟨w.heap.size+1+1,5,none⟩ (.int .i64 0)).setCell ⟨w.heap.size+1+1,6,none⟩ (.int .i64 0)).setCell ⟨w.heap.size+1+1,7,none⟩ (.int .i64 0)).setCell ⟨w.heap.size+1+1,8,none⟩ (.int .i64 0)=WW at hcells hfin ⊢
 have c0:=ceh hcells 0
 have c1:=ceh hcells 1
 have c2:=ceh hcells 2
 have c3:=ceh hcells 3
 have c4:=ceh hcells 4
 have c5:=ceh hcells 5
 have c6:=ceh hcells 6
 have c7:=ceh hcells 7
 have c8:=ceh hcells 8
 refine bodyPost_ret (v:=.tuple #[.agg #[.string ⟨#[]⟩,.string ⟨#[]⟩,.int .i64 0,.int .i64 0,.int .i64 0,.int .i64 0,.int .i64 0,.int .i64 0,.int .i64 0],.int .i64 10]) (by simp [results,Tryz.results117,go_sem,c0,c1,c2,c3,c4,c5,c6,c7,c8]) rfl ?_
 exact hfin.out _ rfl
theorem combined_no2 (f o:ByteArray) (p0 p1 p2 p3 p4 p5 p6:Int) (f' o':ByteArray) (r0 r1 r2 r3 r4 r5 r6:Int) (n:Int) (w:World) (hu:PlainIs w (.agg #[.string f,.string o,.int .i64 p0,.int .i64 p1,.int .i64 p2,.int .i64 p3,.int .i64 p4,.int .i64 p5,.int .i64 p6]) true) (hv:PlainIs w (.agg #[.string f',.string o',.int .i64 r0,.int .i64 r1,.int .i64 r2,.int .i64 r3,.int .i64 r4,.int .i64 r5,.int .i64 r6]) false):Calls Tryz.prog 117 #[.agg #[.string f,.string o,.int .i64 p0,.int .i64 p1,.int .i64 p2,.int .i64 p3,.int .i64 p4,.int .i64 p5,.int .i64 p6],.agg #[.string f',.string o',.int .i64 r0,.int .i64 r1,.int .i64 r2,.int .i64 r3,.int .i64 r4,.int .i64 r5,.int .i64 r6],.int .i64 n] w (UnitPost (zeroU,10) w):=by
 have hk0:Hid (Keep w (((w.alloc (.cells #[.string f,.string o,.int .i64 p0,.int .i64 p1,.int .i64 p2,.int .i64 p3,.int .i64 p4,.int .i64 p5,.int .i64 p6] 53)).alloc (.cells #[.string f',.string o',.int .i64 r0,.int .i64 r1,.int .i64 r2,.int .i64 r3,.int .i64 r4,.int .i64 r5,.int .i64 r6] 53)).alloc (.cells #[.string ⟨#[]⟩,.string ⟨#[]⟩,.int .i64 0,.int .i64 0,.int .i64 0,.int .i64 0,.int .i64 0,.int .i64 0,.int .i64 0] 53)) [(w.heap.size+1+1,#[.string ⟨#[]⟩,.string ⟨#[]⟩,.int .i64 0,.int .i64 0,.int .i64 0,.int .i64 0,.int .i64 0,.int .i64 0,.int .i64 0],53),(w.heap.size+1,#[.string f',.string o',.int .i64 r0,.int .i64 r1,.int .i64 r2,.int .i64 r3,.int .i64 r4,.int .i64 r5,.int .i64 r6],53),(w.heap.size,#[.string f,.string o,.int .i64 p0,.int .i64 p1,.int .i64 p2,.int .i64 p3,.int .i64 p4,.int .i64 p5,.int .i64 p6],53)]):=hiD (Keep.three w _ _ _ 53 53 53)
 have h1:=hu _ hk0.out.below
 clear hu
 go_enter Tryz.func117,Tryz.ntmps117
 go_wp2_with fail
 refine h1.out.mono ?_
 rintro e w2 ⟨rfl,hb2⟩
 have hk2:=hiD (hk0.out.next hb2)
 have hx:=hk2.out.one _ (List.mem_cons_of_mem _ (List.mem_cons_self ..))
 dsimp only at hx
 have e0:=ceh hx 0
 have e1:=ceh hx 1
 have e2:=ceh hx 2
 have e3:=ceh hx 3
 have e4:=ceh hx 4
 have e5:=ceh hx 5
 have e6:=ceh hx 6
 have e7:=ceh hx 7
 have e8:=ceh hx 8
 have h2:=hv _ hk2.out.below
 clear hb2 hx hv
 go_wp2_with fail
 refine h2.out.mono ?_
 rintro e w3 ⟨rfl,hb3⟩
 have Hres2:=hiD (keep_resU (hk2.out.next hb3))
 obtain ⟨z0,z1,z2,z3,z4,z5,z6,z7,z8,⟨l0,l1,l2,l3,l4,l5,l6,l7,l8⟩,⟨f0,f1,f2,f3,f4,f5,f6,f7,f8⟩⟩:=Hres2.out.slots
 have hfin:Hid (∀ W,W=((((((((((w3).setCell ⟨w.heap.size+1+1,0,none⟩ (.string ⟨#[]⟩)).setCell ⟨w.heap.size+1+1,1,none⟩ (.string ⟨#[]⟩)).setCell ⟨w.heap.size+1+1,2,none⟩ (.int .i64 0)).setCell ⟨w.heap.size+1+1,3,none⟩ (.int .i64 0)).setCell ⟨w.heap.size+1+1,4,none⟩ (.int .i64 0)).setCell ⟨w.heap.size+1+1,5,none⟩ (.int .i64 0)).setCell ⟨w.heap.size+1+1,6,none⟩ (.int .i64 0)).setCell ⟨w.heap.size+1+1,7,none⟩ (.int .i64 0)).setCell ⟨w.heap.size+1+1,8,none⟩ (.int .i64 0))→UnitPost (zeroU,10) w (.returned (.tuple #[.agg #[.string ⟨#[]⟩,.string ⟨#[]⟩,.int .i64 0,.int .i64 0,.int .i64 0,.int .i64 0,.int .i64 0,.int .i64 0,.int .i64 0],.int .i64 10])) W):=hiD (by
  rintro W rfl
  exact ⟨_,_,_,_,_,_,_,_,_,rfl,rfl,Hres2.out.put9 (by first|omega|(simp;done)|(simp;omega)) (.string ⟨#[]⟩) (.string ⟨#[]⟩) (.int .i64 0) (.int .i64 0) (.int .i64 0) (.int .i64 0) (.int .i64 0) (.int .i64 0) (.int .i64 0)⟩)
 clear hb3 e0 e1 e2 e3 e4 e5 e6 e7 e8
 go_wp2_with fail
 have hcells:=Hres2.out.put9_heap (.string ⟨#[]⟩) (.string ⟨#[]⟩) (.int .i64 0) (.int .i64 0) (.int .i64 0) (.int .i64 0) (.int .i64 0) (.int .i64 0) (.int .i64 0)
 generalize (((((((((w3).setCell ⟨w.heap.size+1+1,0,none⟩ (.string ⟨#[]⟩)).setCell ⟨w.heap.size+1+1,1,none⟩ (.string ⟨#[]⟩)).setCell ⟨w.heap.size+1+1,2,none⟩ (.int .i64 0)).setCell ⟨w.heap.size+1+1,3,none⟩ (.int .i64 0)).setCell ⟨w.heap.size+1+1,4,none⟩ (.int .i64 0)).setCell ⟨w.heap.size+1+1,5,none⟩ (.int .i64 0)).setCell ⟨w.heap.size+1+1,6,none⟩ (.int .i64 0)).setCell ⟨w.heap.size+1+1,7,none⟩ (.int .i64 0)).setCell ⟨w.heap.size+1+1,8,none⟩ (.int .i64 0)=WW at hcells hfin ⊢
 have c0:=ceh hcells 0
 have c1:=ceh hcells 1
 have c2:=ceh hcells 2
 have c3:=ceh hcells 3
 have c4:=ceh hcells 4
 have c5:=ceh hcells 5
 have c6:=ceh hcells 6
 have c7:=ceh hcells 7
 have c8:=ceh hcells 8
 refine bodyPost_ret (v:=.tuple #[.agg #[.string ⟨#[]⟩,.string ⟨#[]⟩,.int .i64 0,.int .i64 0,.int .i64 0,.int .i64 0,.int .i64 0,.int .i64 0,.int .i64 0],.int .i64 10]) (by simp [results,Tryz.results117,go_sem,c0,c1,c2,c3,c4,c5,c6,c7,c8]) rfl ?_
 exact hfin.out _ rfl
theorem inR_bd {l:List Int} (h:inR l=true) {x:Int} (hx:x ∈ l):-12≤x∧x≤12:=by
 unfold inR at h
 rw [List.all_eq_true] at h
 have:=h x hx
 unfold isPow at this
 rw [Bool.and_eq_true,decide_eq_true_iff,decide_eq_true_iff] at this
 exact this
theorem wraps_of {p r n:Int} (hp:-12≤p∧p≤12) (hr:-12≤r∧r≤12) (hn:n=1∨n=-1):IntKind.i64.wrap (r*n)=r*n∧IntKind.i64.wrap (p+r*n)=p+r*n:=by
 have h:-12≤r*n∧r*n≤12:=by rcases hn with rfl|rfl<;>omega
 exact ⟨IntWalk.i64_in _ (by omega),IntWalk.i64_in _ (by omega)⟩
theorem Keep.put9_far {w0 W:World} {L:List Blk} {B:Nat} (h:Keep w0 W L) (hB:w0.heap.size≤B) (hne:∀ x ∈ L,x.1≠B) (a0 a1 a2 a3 a4 a5 a6 a7 a8:Value):Keep w0 ((((((((((W).setCell ⟨B,0,none⟩ a0).setCell ⟨B,1,none⟩ a1).setCell ⟨B,2,none⟩ a2).setCell ⟨B,3,none⟩ a3).setCell ⟨B,4,none⟩ a4).setCell ⟨B,5,none⟩ a5).setCell ⟨B,6,none⟩ a6).setCell ⟨B,7,none⟩ a7).setCell ⟨B,8,none⟩ a8) L :=
 have one:∀ {W:World} (k:Nat) (v:Value),Keep w0 W L→Keep w0 (W.setCell ⟨B,k,none⟩ v) L:=fun _k _v h=>⟨h.below.setCell hB _,fun x hx=>(Below.heap_setCell _ _ _ _ (hne x hx)).trans (h.all x hx)⟩
 one 8 a8 (one 7 a7 (one 6 a6 (one 5 a5 (one 4 a4 (one 3 a3 (one 2 a2 (one 1 a1 (one 0 a0 h))))))))
theorem ResU.put9R {w0 W:World} {B:Nat} (h:ResU B w0 W) (hB:w0.heap.size≤B) (a0 a1 a2 a3 a4 a5 a6 a7 a8:Value):ResU B w0 ((((((((((W).setCell ⟨B,0,none⟩ a0).setCell ⟨B,1,none⟩ a1).setCell ⟨B,2,none⟩ a2).setCell ⟨B,3,none⟩ a3).setCell ⟨B,4,none⟩ a4).setCell ⟨B,5,none⟩ a5).setCell ⟨B,6,none⟩ a6).setCell ⟨B,7,none⟩ a7).setCell ⟨B,8,none⟩ a8) :=
 ⟨(Array.getElem?_eq_some_iff.1 (h.put9_heap a0 a1 a2 a3 a4 a5 a6 a7 a8)).1,h.put9 hB a0 a1 a2 a3 a4 a5 a6 a7 a8,_,_,_,_,_,_,_,_,_,h.put9_heap a0 a1 a2 a3 a4 a5 a6 a7 a8⟩
theorem comb_all {w W:World} {g:Nat} {f o f' o':ByteArray} {p0 p1 p2 p3 p4 p5 p6 r0 r1 r2 r3 r4 r5 r6:Int} {n:Int} (h:Keep w W [(g,#[.int .i64 (p0+r0*n),.int .i64 (p1+r1*n),.int .i64 (p2+r2*n),.int .i64 (p3+r3*n),.int .i64 (p4+r4*n),.int .i64 (p5+r5*n),.int .i64 (p6+r6*n)],51),(w.heap.size+1,#[.string f',.string o',.int .i64 r0,.int .i64 r1,.int .i64 r2,.int .i64 r3,.int .i64 r4,.int .i64 r5,.int .i64 r6],53),(w.heap.size,#[.string f,.string o,.int .i64 p0,.int .i64 p1,.int .i64 p2,.int .i64 p3,.int .i64 p4,.int .i64 p5,.int .i64 p6],53)]) (hr:ResU (w.heap.size+1+1) w W):Keep w W [(g,#[.int .i64 (p0+r0*n),.int .i64 (p1+r1*n),.int .i64 (p2+r2*n),.int .i64 (p3+r3*n),.int .i64 (p4+r4*n),.int .i64 (p5+r5*n),.int .i64 (p6+r6*n)],51),(w.heap.size+1,#[.string f',.string o',.int .i64 r0,.int .i64 r1,.int .i64 r2,.int .i64 r3,.int .i64 r4,.int .i64 r5,.int .i64 r6],53),(w.heap.size,#[.string f,.string o,.int .i64 p0,.int .i64 p1,.int .i64 p2,.int .i64 p3,.int .i64 p4,.int .i64 p5,.int .i64 p6],53)]∧ResU (w.heap.size+1+1) w W∧W.cell? ⟨w.heap.size,0,none⟩=some (.string f)∧W.cell? ⟨w.heap.size,1,none⟩=some (.string o)∧W.cell? ⟨w.heap.size,2,none⟩=some (.int .i64 p0)∧W.cell? ⟨w.heap.size,3,none⟩=some (.int .i64 p1)∧W.cell? ⟨w.heap.size,4,none⟩=some (.int .i64 p2)∧W.cell? ⟨w.heap.size,5,none⟩=some (.int .i64 p3)∧W.cell? ⟨w.heap.size,6,none⟩=some (.int .i64 p4)∧W.cell? ⟨w.heap.size,7,none⟩=some (.int .i64 p5)∧W.cell? ⟨w.heap.size,8,none⟩=some (.int .i64 p6)∧W.cell? ⟨w.heap.size+1,0,none⟩=some (.string f')∧W.cell? ⟨w.heap.size+1,1,none⟩=some (.string o')∧W.cell? ⟨w.heap.size+1,2,none⟩=some (.int .i64 r0)∧W.cell? ⟨w.heap.size+1,3,none⟩=some (.int .i64 r1)∧W.cell? ⟨w.heap.size+1,4,none⟩=some (.int .i64 r2)∧W.cell? ⟨w.heap.size+1,5,none⟩=some (.int .i64 r3)∧W.cell? ⟨w.heap.size+1,6,none⟩=some (.int .i64 r4)∧W.cell? ⟨w.heap.size+1,7,none⟩=some (.int .i64 r5)∧W.cell? ⟨w.heap.size+1,8,none⟩=some (.int .i64 r6)∧W.cell? ⟨g,0,none⟩=some (.int .i64 (p0+r0*n))∧W.cell? ⟨g,1,none⟩=some (.int .i64 (p1+r1*n))∧W.cell? ⟨g,2,none⟩=some (.int .i64 (p2+r2*n))∧W.cell? ⟨g,3,none⟩=some (.int .i64 (p3+r3*n))∧W.cell? ⟨g,4,none⟩=some (.int .i64 (p4+r4*n))∧W.cell? ⟨g,5,none⟩=some (.int .i64 (p5+r5*n))∧W.cell? ⟨g,6,none⟩=some (.int .i64 (p6+r6*n)) :=
 ⟨h,hr,ceh (h.one _ (List.mem_cons_of_mem _ (List.mem_cons_of_mem _ (List.mem_cons_self ..)))) 0,ceh (h.one _ (List.mem_cons_of_mem _ (List.mem_cons_of_mem _ (List.mem_cons_self ..)))) 1,ceh (h.one _ (List.mem_cons_of_mem _ (List.mem_cons_of_mem _ (List.mem_cons_self ..)))) 2,ceh (h.one _ (List.mem_cons_of_mem _ (List.mem_cons_of_mem _ (List.mem_cons_self ..)))) 3,ceh (h.one _ (List.mem_cons_of_mem _ (List.mem_cons_of_mem _ (List.mem_cons_self ..)))) 4,ceh (h.one _ (List.mem_cons_of_mem _ (List.mem_cons_of_mem _ (List.mem_cons_self ..)))) 5,ceh (h.one _ (List.mem_cons_of_mem _ (List.mem_cons_of_mem _ (List.mem_cons_self ..)))) 6,ceh (h.one _ (List.mem_cons_of_mem _ (List.mem_cons_of_mem _ (List.mem_cons_self ..)))) 7,ceh (h.one _ (List.mem_cons_of_mem _ (List.mem_cons_of_mem _ (List.mem_cons_self ..)))) 8,ceh (h.one _ (List.mem_cons_of_mem _ (List.mem_cons_self ..))) 0,ceh (h.one _ (List.mem_cons_of_mem _ (List.mem_cons_self ..))) 1,ceh (h.one _ (List.mem_cons_of_mem _ (List.mem_cons_self ..))) 2,ceh (h.one _ (List.mem_cons_of_mem _ (List.mem_cons_self ..))) 3,ceh (h.one _ (List.mem_cons_of_mem _ (List.mem_cons_self ..))) 4,ceh (h.one _ (List.mem_cons_of_mem _ (List.mem_cons_self ..))) 5,ceh (h.one _ (List.mem_cons_of_mem _ (List.mem_cons_self ..))) 6,ceh (h.one _ (List.mem_cons_of_mem _ (List.mem_cons_self ..))) 7,ceh (h.one _ (List.mem_cons_of_mem _ (List.mem_cons_self ..))) 8,ceh (h.one _ (List.mem_cons_self ..)) 0,ceh (h.one _ (List.mem_cons_self ..)) 1,ceh (h.one _ (List.mem_cons_self ..)) 2,ceh (h.one _ (List.mem_cons_self ..)) 3,ceh (h.one _ (List.mem_cons_self ..)) 4,ceh (h.one _ (List.mem_cons_self ..)) 5,ceh (h.one _ (List.mem_cons_self ..)) 6⟩
theorem combined_ok (f o:ByteArray) (p0 p1 p2 p3 p4 p5 p6:Int) (f' o':ByteArray) (r0 r1 r2 r3 r4 r5 r6:Int) (n:Int) (a b:Rat) (hn:n=1∨n=-1) (hp:inR [p0,p1,p2,p3,p4,p5,p6]=true) (hr:inR [r0,r1,r2,r3,r4,r5,r6]=true) (hnf:num f.data.toList=some a) (hnf':num f'.data.toList=some b) (hb:b≠0) (w:World) (htab:Tab w) (hu:PlainIs w (.agg #[.string f,.string o,.int .i64 p0,.int .i64 p1,.int .i64 p2,.int .i64 p3,.int .i64 p4,.int .i64 p5,.int .i64 p6]) true) (hv:PlainIs w (.agg #[.string f',.string o',.int .i64 r0,.int .i64 r1,.int .i64 r2,.int .i64 r3,.int .i64 r4,.int .i64 r5,.int .i64 r6]) true):Calls Tryz.prog 117 #[.agg #[.string f,.string o,.int .i64 p0,.int .i64 p1,.int .i64 p2,.int .i64 p3,.int .i64 p4,.int .i64 p5,.int .i64 p6],.agg #[.string f',.string o',.int .i64 r0,.int .i64 r1,.int .i64 r2,.int .i64 r3,.int .i64 r4,.int .i64 r5,.int .i64 r6],.int .i64 n] w (UnitPost (mkT (a*b^n) [p0+r0*n,p1+r1*n,p2+r2*n,p3+r3*n,p4+r4*n,p5+r5*n,p6+r6*n]) w):=by
 have hfu:Hid (∀ W,Below w.heap.size w W→Calls Tryz.prog 121 #[.agg #[.string f,.string o,.int .i64 p0,.int .i64 p1,.int .i64 p2,.int .i64 p3,.int .i64 p4,.int .i64 p5,.int .i64 p6]] W (IsPost a 20 W)):=hiD fun W h=>factorOf_is f o p0 p1 p2 p3 p4 p5 p6 a W (htab.below h) hnf
 have hfv:Hid (∀ W,Below w.heap.size w W→Calls Tryz.prog 121 #[.agg #[.string f',.string o',.int .i64 r0,.int .i64 r1,.int .i64 r2,.int .i64 r3,.int .i64 r4,.int .i64 r5,.int .i64 r6]] W (IsPost b 20 W)):=hiD fun W h=>factorOf_is f' o' r0 r1 r2 r3 r4 r5 r6 b W (htab.below h) hnf'
 have hpw:Hid (∀ W x,RatIs W x b 20→Calls Tryz.prog 122 #[x,.int .i64 n] W (IsPost (b^n) 41 W)):=hiD fun W x hx=>by
  have h1:n.natAbs=1:=by rcases hn with rfl|rfl<;>rfl
  have:=pow_is x b n 20 W (by rcases hn with rfl|rfl<;>omega) (by rcases hn with rfl|rfl<;>omega) (by omega) (by omega) (fun _=>hb) hx
  rwa [h1] at this
 have hmu:Hid (∀ W x y,RatIs W x a 20→RatIs W y (b^n) 41→Calls Tryz.prog 88 #[x,y] W (IsPost (a*b^n) 82 W)):=hiD fun W x y hx hy=>mul_is x y a (b^n) 41 W (by omega) (hx.more (by omega)) hy
 have hpl:Hid (∀ W x,Below w.heap.size w W→RatIs W x (a*b^n) 82→Calls Tryz.prog 120 #[x,.agg #[.int .i64 (p0+r0*n),.int .i64 (p1+r1*n),.int .i64 (p2+r2*n),.int .i64 (p3+r3*n),.int .i64 (p4+r4*n),.int .i64 (p5+r5*n),.int .i64 (p6+r6*n)]] W (UnitPost (mkT (a*b^n) [p0+r0*n,p1+r1*n,p2+r2*n,p3+r3*n,p4+r4*n,p5+r5*n,p6+r6*n]) W)):=hiD fun W x hW hx=>plain_is x (p0+r0*n) (p1+r1*n) (p2+r2*n) (p3+r3*n) (p4+r4*n) (p5+r5*n) (p6+r6*n) (a*b^n) 82 W (by omega) (htab.below hW) hx
 generalize mkT (a*b^n) [p0+r0*n,p1+r1*n,p2+r2*n,p3+r3*n,p4+r4*n,p5+r5*n,p6+r6*n]=res at hpl ⊢
 generalize hq:b^n=bn at hpw hmu hpl
 clear hq htab hnf hnf' hb
 have hk0:Hid (Keep w (((w.alloc (.cells #[.string f,.string o,.int .i64 p0,.int .i64 p1,.int .i64 p2,.int .i64 p3,.int .i64 p4,.int .i64 p5,.int .i64 p6] 53)).alloc (.cells #[.string f',.string o',.int .i64 r0,.int .i64 r1,.int .i64 r2,.int .i64 r3,.int .i64 r4,.int .i64 r5,.int .i64 r6] 53)).alloc (.cells #[.string ⟨#[]⟩,.string ⟨#[]⟩,.int .i64 0,.int .i64 0,.int .i64 0,.int .i64 0,.int .i64 0,.int .i64 0,.int .i64 0] 53)) [(w.heap.size+1+1,#[.string ⟨#[]⟩,.string ⟨#[]⟩,.int .i64 0,.int .i64 0,.int .i64 0,.int .i64 0,.int .i64 0,.int .i64 0,.int .i64 0],53),(w.heap.size+1,#[.string f',.string o',.int .i64 r0,.int .i64 r1,.int .i64 r2,.int .i64 r3,.int .i64 r4,.int .i64 r5,.int .i64 r6],53),(w.heap.size,#[.string f,.string o,.int .i64 p0,.int .i64 p1,.int .i64 p2,.int .i64 p3,.int .i64 p4,.int .i64 p5,.int .i64 p6],53)]):=hiD (Keep.three w _ _ _ 53 53 53)
 have h1:=hu _ hk0.out.below
 have hw:Hid ((IntKind.i64.wrap (r0*n)=r0*n∧IntKind.i64.wrap (p0+r0*n)=p0+r0*n)∧(IntKind.i64.wrap (r1*n)=r1*n∧IntKind.i64.wrap (p1+r1*n)=p1+r1*n)∧(IntKind.i64.wrap (r2*n)=r2*n∧IntKind.i64.wrap (p2+r2*n)=p2+r2*n)∧(IntKind.i64.wrap (r3*n)=r3*n∧IntKind.i64.wrap (p3+r3*n)=p3+r3*n)∧(IntKind.i64.wrap (r4*n)=r4*n∧IntKind.i64.wrap (p4+r4*n)=p4+r4*n)∧(IntKind.i64.wrap (r5*n)=r5*n∧IntKind.i64.wrap (p5+r5*n)=p5+r5*n)∧(IntKind.i64.wrap (r6*n)=r6*n∧IntKind.i64.wrap (p6+r6*n)=p6+r6*n)):=hiD ⟨wraps_of (inR_bd hp (by simp)) (inR_bd hr (by simp)) hn,wraps_of (inR_bd hp (by simp)) (inR_bd hr (by simp)) hn,wraps_of (inR_bd hp (by simp)) (inR_bd hr (by simp)) hn,wraps_of (inR_bd hp (by simp)) (inR_bd hr (by simp)) hn,wraps_of (inR_bd hp (by simp)) (inR_bd hr (by simp)) hn,wraps_of (inR_bd hp (by simp)) (inR_bd hr (by simp)) hn,wraps_of (inR_bd hp (by simp)) (inR_bd hr (by simp)) hn⟩
 clear hu hn hp hr
 go_enter Tryz.func117,Tryz.ntmps117
 go_wp2_with fail
 refine h1.out.mono ?_
 rintro e w2 ⟨rfl,hb2⟩
 have hk2:=hiD (hk0.out.next hb2)
 have hx:=hk2.out.one _ (List.mem_cons_of_mem _ (List.mem_cons_self ..))
 dsimp only at hx
 have e0:=ceh hx 0
 have e1:=ceh hx 1
 have e2:=ceh hx 2
 have e3:=ceh hx 3
 have e4:=ceh hx 4
 have e5:=ceh hx 5
 have e6:=ceh hx 6
 have e7:=ceh hx 7
 have e8:=ceh hx 8
 have h2:=hv _ hk2.out.below
 clear hb2 hx hv
 go_wp2_with fail
 refine h2.out.mono ?_
 rintro e w3 ⟨rfl,hb3⟩
 have hk3:=hiD (hk2.out.next hb3)
 have hne:Hid (∀ x ∈ ([(w.heap.size+1+1,#[.string ⟨#[]⟩,.string ⟨#[]⟩,.int .i64 0,.int .i64 0,.int .i64 0,.int .i64 0,.int .i64 0,.int .i64 0,.int .i64 0],53),(w.heap.size+1,#[.string f',.string o',.int .i64 r0,.int .i64 r1,.int .i64 r2,.int .i64 r3,.int .i64 r4,.int .i64 r5,.int .i64 r6],53),(w.heap.size,#[.string f,.string o,.int .i64 p0,.int .i64 p1,.int .i64 p2,.int .i64 p3,.int .i64 p4,.int .i64 p5,.int .i64 p6],53)]:List Blk),x.1≠w3.heap.size):=hiD (by
  have:=hk3.out.lt (List.mem_cons_self ..)
  intro x hx
  simp only [List.mem_cons,List.not_mem_nil,or_false] at hx
  dsimp only at this
  rcases hx with rfl|rfl|rfl<;>dsimp only<;>omega)
 have hge:Hid (w.heap.size≤w3.heap.size):=hiD hk3.out.below.size
 have hk4:Hid (Keep w (w3.alloc (.cells #[.int .i64 p0,.int .i64 p1,.int .i64 p2,.int .i64 p3,.int .i64 p4,.int .i64 p5,.int .i64 p6] 51)) ((w3.heap.size,i64c (mixL [p0,p1,p2,p3,p4,p5,p6] [r0,r1,r2,r3,r4,r5,r6] n 0),51)::[(w.heap.size+1+1,#[.string ⟨#[]⟩,.string ⟨#[]⟩,.int .i64 0,.int .i64 0,.int .i64 0,.int .i64 0,.int .i64 0,.int .i64 0,.int .i64 0],53),(w.heap.size+1,#[.string f',.string o',.int .i64 r0,.int .i64 r1,.int .i64 r2,.int .i64 r3,.int .i64 r4,.int .i64 r5,.int .i64 r6],53),(w.heap.size,#[.string f,.string o,.int .i64 p0,.int .i64 p1,.int .i64 p2,.int .i64 p3,.int .i64 p4,.int .i64 p5,.int .i64 p6],53)])):=hiD (hk3.out.more _ 51)
 have hx:=hk3.out.one _ (List.mem_cons_of_mem _ (List.mem_cons_of_mem _ (List.mem_cons_self ..)))
 dsimp only at hx
 have d0:=ceh hx 0
 have d1:=ceh hx 1
 have d2:=ceh hx 2
 have d3:=ceh hx 3
 have d4:=ceh hx 4
 have d5:=ceh hx 5
 have d6:=ceh hx 6
 have d7:=ceh hx 7
 have d8:=ceh hx 8
 clear hb3 hx e0 e1 e2 e3 e4 e5 e6 e7 e8
 go_wp2_with fail
 go_loopw [21] (fun i wr=>∃ k:Nat,k≤7∧i=.int .i64 k∧Hid (Keep w wr ((w3.heap.size,i64c (mixL [p0,p1,p2,p3,p4,p5,p6] [r0,r1,r2,r3,r4,r5,r6] n k),51)::[(w.heap.size+1+1,#[.string ⟨#[]⟩,.string ⟨#[]⟩,.int .i64 0,.int .i64 0,.int .i64 0,.int .i64 0,.int .i64 0,.int .i64 0,.int .i64 0],53),(w.heap.size+1,#[.string f',.string o',.int .i64 r0,.int .i64 r1,.int .i64 r2,.int .i64 r3,.int .i64 r4,.int .i64 r5,.int .i64 r6],53),(w.heap.size,#[.string f,.string o,.int .i64 p0,.int .i64 p1,.int .i64 p2,.int .i64 p3,.int .i64 p4,.int .i64 p5,.int .i64 p6],53)]))) (fun i _=>7-(intOf i).toNat)
 case atStart=>exact ⟨0,by omega,rfl,hk4⟩
 case round =>
  obtain ⟨k,hk,rfl,hkp⟩:=hrel
  match k,hk,hkp with
  | 0,_,hkp =>
   have hxg:wr.heap[w3.heap.size]?=some (.cells #[.int .i64 (p0),.int .i64 (p1),.int .i64 (p2),.int .i64 (p3),.int .i64 (p4),.int .i64 (p5),.int .i64 (p6)] 51 (0,0)):=hkp.out.one _ (List.mem_cons_self ..)
   have eg:=ceh hxg 0
   have fg:=foh hxg 0
   have hxv:wr.heap[w.heap.size+1]?=some (.cells #[.string f',.string o',.int .i64 r0,.int .i64 r1,.int .i64 r2,.int .i64 r3,.int .i64 r4,.int .i64 r5,.int .i64 r6] 53 (0,0)):=hkp.out.one _ (List.mem_cons_of_mem _ (List.mem_cons_of_mem _ (List.mem_cons_self ..)))
   have ev:=ceh hxv 2
   have hw1:=(hw.out.1).1
   have hw2:=(hw.out.1).2
   clear hxg hxv
   go_wp2_with fail
   go_region
   go_wp2_with fail
   go_roundw
   case rel=>exact ⟨1,by omega,by go_num,hiD (hkp.out.drew.put hge.out hne.out 0 (.int .i64 (p0+r0*n)))⟩
   case measure=>(simp [intOf])<;>omega
  | 1,_,hkp =>
   have hxg:wr.heap[w3.heap.size]?=some (.cells #[.int .i64 (p0+r0*n),.int .i64 (p1),.int .i64 (p2),.int .i64 (p3),.int .i64 (p4),.int .i64 (p5),.int .i64 (p6)] 51 (0,0)):=hkp.out.one _ (List.mem_cons_self ..)
   have eg:=ceh hxg 1
   have fg:=foh hxg 1
   have hxv:wr.heap[w.heap.size+1]?=some (.cells #[.string f',.string o',.int .i64 r0,.int .i64 r1,.int .i64 r2,.int .i64 r3,.int .i64 r4,.int .i64 r5,.int .i64 r6] 53 (0,0)):=hkp.out.one _ (List.mem_cons_of_mem _ (List.mem_cons_of_mem _ (List.mem_cons_self ..)))
   have ev:=ceh hxv 3
   have hw1:=(hw.out.2.1).1
   have hw2:=(hw.out.2.1).2
   clear hxg hxv
   go_wp2_with fail
   go_region
   go_wp2_with fail
   go_roundw
   case rel=>exact ⟨2,by omega,by go_num,hiD (hkp.out.drew.put hge.out hne.out 1 (.int .i64 (p1+r1*n)))⟩
   case measure=>(simp [intOf])<;>omega
  | 2,_,hkp =>
   have hxg:wr.heap[w3.heap.size]?=some (.cells #[.int .i64 (p0+r0*n),.int .i64 (p1+r1*n),.int .i64 (p2),.int .i64 (p3),.int .i64 (p4),.int .i64 (p5),.int .i64 (p6)] 51 (0,0)):=hkp.out.one _ (List.mem_cons_self ..)
   have eg:=ceh hxg 2
   have fg:=foh hxg 2
   have hxv:wr.heap[w.heap.size+1]?=some (.cells #[.string f',.string o',.int .i64 r0,.int .i64 r1,.int .i64 r2,.int .i64 r3,.int .i64 r4,.int .i64 r5,.int .i64 r6] 53 (0,0)):=hkp.out.one _ (List.mem_cons_of_mem _ (List.mem_cons_of_mem _ (List.mem_cons_self ..)))
   have ev:=ceh hxv 4
   have hw1:=(hw.out.2.2.1).1
   have hw2:=(hw.out.2.2.1).2
   clear hxg hxv
   go_wp2_with fail
   go_region
   go_wp2_with fail
   go_roundw
   case rel=>exact ⟨3,by omega,by go_num,hiD (hkp.out.drew.put hge.out hne.out 2 (.int .i64 (p2+r2*n)))⟩
   case measure=>(simp [intOf])<;>omega
  | 3,_,hkp =>
   have hxg:wr.heap[w3.heap.size]?=some (.cells #[.int .i64 (p0+r0*n),.int .i64 (p1+r1*n),.int .i64 (p2+r2*n),.int .i64 (p3),.int .i64 (p4),.int .i64 (p5),.int .i64 (p6)] 51 (0,0)):=hkp.out.one _ (List.mem_cons_self ..)
   have eg:=ceh hxg 3
   have fg:=foh hxg 3
   have hxv:wr.heap[w.heap.size+1]?=some (.cells #[.string f',.string o',.int .i64 r0,.int .i64 r1,.int .i64 r2,.int .i64 r3,.int .i64 r4,.int .i64 r5,.int .i64 r6] 53 (0,0)):=hkp.out.one _ (List.mem_cons_of_mem _ (List.mem_cons_of_mem _ (List.mem_cons_self ..)))
   have ev:=ceh hxv 5
   have hw1:=(hw.out.2.2.2.1).1
   have hw2:=(hw.out.2.2.2.1).2
   clear hxg hxv
   go_wp2_with fail
   go_region
   go_wp2_with fail
   go_roundw
   case rel=>exact ⟨4,by omega,by go_num,hiD (hkp.out.drew.put hge.out hne.out 3 (.int .i64 (p3+r3*n)))⟩
   case measure=>(simp [intOf])<;>omega
  | 4,_,hkp =>
   have hxg:wr.heap[w3.heap.size]?=some (.cells #[.int .i64 (p0+r0*n),.int .i64 (p1+r1*n),.int .i64 (p2+r2*n),.int .i64 (p3+r3*n),.int .i64 (p4),.int .i64 (p5),.int .i64 (p6)] 51 (0,0)):=hkp.out.one _ (List.mem_cons_self ..)
   have eg:=ceh hxg 4
   have fg:=foh hxg 4
   have hxv:wr.heap[w.heap.size+1]?=some (.cells #[.string f',.string o',.int .i64 r0,.int .i64 r1,.int .i64 r2,.int .i64 r3,.int .i64 r4,.int .i64 r5,.int .i64 r6] 53 (0,0)):=hkp.out.one _ (List.mem_cons_of_mem _ (List.mem_cons_of_mem _ (List.mem_cons_self ..)))
   have ev:=ceh hxv 6
   have hw1:=(hw.out.2.2.2.2.1).1
   have hw2:=(hw.out.2.2.2.2.1).2
   clear hxg hxv
   go_wp2_with fail
   go_region
   go_wp2_with fail
   go_roundw
   case rel=>exact ⟨5,by omega,by go_num,hiD (hkp.out.drew.put hge.out hne.out 4 (.int .i64 (p4+r4*n)))⟩
   case measure=>(simp [intOf])<;>omega
  | 5,_,hkp =>
   have hxg:wr.heap[w3.heap.size]?=some (.cells #[.int .i64 (p0+r0*n),.int .i64 (p1+r1*n),.int .i64 (p2+r2*n),.int .i64 (p3+r3*n),.int .i64 (p4+r4*n),.int .i64 (p5),.int .i64 (p6)] 51 (0,0)):=hkp.out.one _ (List.mem_cons_self ..)
   have eg:=ceh hxg 5
   have fg:=foh hxg 5
   have hxv:wr.heap[w.heap.size+1]?=some (.cells #[.string f',.string o',.int .i64 r0,.int .i64 r1,.int .i64 r2,.int .i64 r3,.int .i64 r4,.int .i64 r5,.int .i64 r6] 53 (0,0)):=hkp.out.one _ (List.mem_cons_of_mem _ (List.mem_cons_of_mem _ (List.mem_cons_self ..)))
   have ev:=ceh hxv 7
   have hw1:=(hw.out.2.2.2.2.2.1).1
   have hw2:=(hw.out.2.2.2.2.2.1).2
   clear hxg hxv
   go_wp2_with fail
   go_region
   go_wp2_with fail
   go_roundw
   case rel=>exact ⟨6,by omega,by go_num,hiD (hkp.out.drew.put hge.out hne.out 5 (.int .i64 (p5+r5*n)))⟩
   case measure=>(simp [intOf])<;>omega
  | 6,_,hkp =>
   have hxg:wr.heap[w3.heap.size]?=some (.cells #[.int .i64 (p0+r0*n),.int .i64 (p1+r1*n),.int .i64 (p2+r2*n),.int .i64 (p3+r3*n),.int .i64 (p4+r4*n),.int .i64 (p5+r5*n),.int .i64 (p6)] 51 (0,0)):=hkp.out.one _ (List.mem_cons_self ..)
   have eg:=ceh hxg 6
   have fg:=foh hxg 6
   have hxv:wr.heap[w.heap.size+1]?=some (.cells #[.string f',.string o',.int .i64 r0,.int .i64 r1,.int .i64 r2,.int .i64 r3,.int .i64 r4,.int .i64 r5,.int .i64 r6] 53 (0,0)):=hkp.out.one _ (List.mem_cons_of_mem _ (List.mem_cons_of_mem _ (List.mem_cons_self ..)))
   have ev:=ceh hxv 8
   have hw1:=(hw.out.2.2.2.2.2.2).1
   have hw2:=(hw.out.2.2.2.2.2.2).2
   clear hxg hxv
   go_wp2_with fail
   go_region
   go_wp2_with fail
   go_roundw
   case rel=>exact ⟨7,by omega,by go_num,hiD (hkp.out.drew.put hge.out hne.out 6 (.int .i64 (p6+r6*n)))⟩
   case measure=>(simp [intOf])<;>omega
  | 7,_,hkp =>
   have hk7:Hid (Keep w wr [(w3.heap.size,#[.int .i64 (p0+r0*n),.int .i64 (p1+r1*n),.int .i64 (p2+r2*n),.int .i64 (p3+r3*n),.int .i64 (p4+r4*n),.int .i64 (p5+r5*n),.int .i64 (p6+r6*n)],51),(w.heap.size+1,#[.string f',.string o',.int .i64 r0,.int .i64 r1,.int .i64 r2,.int .i64 r3,.int .i64 r4,.int .i64 r5,.int .i64 r6],53),(w.heap.size,#[.string f,.string o,.int .i64 p0,.int .i64 p1,.int .i64 p2,.int .i64 p3,.int .i64 p4,.int .i64 p5,.int .i64 p6],53)]):=hiD (hkp.out.sub (by intro x hx;simp only [List.mem_cons,List.not_mem_nil,or_false] at hx ⊢;rcases hx with rfl|rfl|rfl;exact .inl rfl;exact .inr (.inr (.inl rfl));exact .inr (.inr (.inr rfl))))
   have hr7:Hid (ResU (w.heap.size+1+1) w wr):=hiD (keep_resU (hkp.out.sub (M:=[(w.heap.size+1+1,#[.string ⟨#[]⟩,.string ⟨#[]⟩,.int .i64 0,.int .i64 0,.int .i64 0,.int .i64 0,.int .i64 0,.int .i64 0,.int .i64 0],53)]) (by intro x hx;simp only [List.mem_cons,List.not_mem_nil,or_false] at hx ⊢;exact .inr (.inl hx))))
   have hne3:Hid (∀ x ∈ ([(w3.heap.size,#[.int .i64 (p0+r0*n),.int .i64 (p1+r1*n),.int .i64 (p2+r2*n),.int .i64 (p3+r3*n),.int .i64 (p4+r4*n),.int .i64 (p5+r5*n),.int .i64 (p6+r6*n)],51),(w.heap.size+1,#[.string f',.string o',.int .i64 r0,.int .i64 r1,.int .i64 r2,.int .i64 r3,.int .i64 r4,.int .i64 r5,.int .i64 r6],53),(w.heap.size,#[.string f,.string o,.int .i64 p0,.int .i64 p1,.int .i64 p2,.int .i64 p3,.int .i64 p4,.int .i64 p5,.int .i64 p6],53)]:List Blk),x.1≠w.heap.size+1+1):=hiD (by
    have h3:=hne.out _ (List.mem_cons_self ..)
    intro x hx
    simp only [List.mem_cons,List.not_mem_nil,or_false] at hx
    dsimp only at h3
    rcases hx with rfl|rfl|rfl<;>dsimp only<;>omega)
   have hle:w.heap.size≤w.heap.size+1+1:=by omega
   clear hkp
   go_wp2_with fail
   go_region_held3 (fun w'=>Keep w w' [(w3.heap.size,#[.int .i64 (p0+r0*n),.int .i64 (p1+r1*n),.int .i64 (p2+r2*n),.int .i64 (p3+r3*n),.int .i64 (p4+r4*n),.int .i64 (p5+r5*n),.int .i64 (p6+r6*n)],51),(w.heap.size+1,#[.string f',.string o',.int .i64 r0,.int .i64 r1,.int .i64 r2,.int .i64 r3,.int .i64 r4,.int .i64 r5,.int .i64 r6],53),(w.heap.size,#[.string f,.string o,.int .i64 p0,.int .i64 p1,.int .i64 p2,.int .i64 p3,.int .i64 p4,.int .i64 p5,.int .i64 p6],53)]∧ResU (w.heap.size+1+1) w w'∧w'.cell? ⟨w.heap.size,0,none⟩=some (.string f)∧w'.cell? ⟨w.heap.size,1,none⟩=some (.string o)∧w'.cell? ⟨w.heap.size,2,none⟩=some (.int .i64 p0)∧w'.cell? ⟨w.heap.size,3,none⟩=some (.int .i64 p1)∧w'.cell? ⟨w.heap.size,4,none⟩=some (.int .i64 p2)∧w'.cell? ⟨w.heap.size,5,none⟩=some (.int .i64 p3)∧w'.cell? ⟨w.heap.size,6,none⟩=some (.int .i64 p4)∧w'.cell? ⟨w.heap.size,7,none⟩=some (.int .i64 p5)∧w'.cell? ⟨w.heap.size,8,none⟩=some (.int .i64 p6)∧w'.cell? ⟨w.heap.size+1,0,none⟩=some (.string f')∧w'.cell? ⟨w.heap.size+1,1,none⟩=some (.string o')∧w'.cell? ⟨w.heap.size+1,2,none⟩=some (.int .i64 r0)∧w'.cell? ⟨w.heap.size+1,3,none⟩=some (.int .i64 r1)∧w'.cell? ⟨w.heap.size+1,4,none⟩=some (.int .i64 r2)∧w'.cell? ⟨w.heap.size+1,5,none⟩=some (.int .i64 r3)∧w'.cell? ⟨w.heap.size+1,6,none⟩=some (.int .i64 r4)∧w'.cell? ⟨w.heap.size+1,7,none⟩=some (.int .i64 r5)∧w'.cell? ⟨w.heap.size+1,8,none⟩=some (.int .i64 r6)∧w'.cell? ⟨w3.heap.size,0,none⟩=some (.int .i64 (p0+r0*n))∧w'.cell? ⟨w3.heap.size,1,none⟩=some (.int .i64 (p1+r1*n))∧w'.cell? ⟨w3.heap.size,2,none⟩=some (.int .i64 (p2+r2*n))∧w'.cell? ⟨w3.heap.size,3,none⟩=some (.int .i64 (p3+r3*n))∧w'.cell? ⟨w3.heap.size,4,none⟩=some (.int .i64 (p4+r4*n))∧w'.cell? ⟨w3.heap.size,5,none⟩=some (.int .i64 (p5+r5*n))∧w'.cell? ⟨w3.heap.size,6,none⟩=some (.int .i64 (p6+r6*n)))
    (first|with_reducible exact comb_all (Keep.put9_far hkk8 hle hne3.out _ _ _ _ _ _ _ _ _) (ResU.put9R hrs8 hle _ _ _ _ _ _ _ _ _)|with_reducible exact comb_all (Keep.drew hk7.out) (ResU.drew hr7.out)|(go_split_ands;with_reducible exact comb_all (Keep.next (by assumption) hb4) (ResU.next (by assumption) hb4))|(go_split_ands;with_reducible exact comb_all (Keep.next (by assumption) hb5) (ResU.next (by assumption) hb5))|(go_split_ands;with_reducible exact comb_all (Keep.next (by assumption) hb6) (ResU.next (by assumption) hb6))|(go_split_ands;with_reducible exact comb_all (Keep.next (by assumption) hb7) (ResU.next (by assumption) hb7))|(go_split_ands;with_reducible exact comb_all (Keep.next (by assumption) hb8) (ResU.next (by assumption) hb8)))
    (first|(go_at_call_of 121 f;go_split_ands;refine (hfu.out _ (Keep.below (by assumption))).mono ?_;rintro e w4 ⟨xu,rfl,hxu,hb4⟩)|(go_at_call_of 121 f';go_split_ands;refine (hfv.out _ (Keep.below (by assumption))).mono ?_;rintro e w5 ⟨xv,rfl,hxv,hb5⟩)|(go_at_call 122;refine (hpw.out _ _ hxv).mono ?_;rintro e w6 ⟨xp,rfl,hxp,hb6⟩)|(go_at_call 88;refine (hmu.out _ _ _ ((hxu.below hb5).below hb6) hxp).mono ?_;rintro e w7 ⟨xm,rfl,hxm,hb7⟩)|(go_at_call 120;go_split_ands;refine (hpl.out _ _ (Keep.below (by assumption)) hxm).mono ?_;rintro e w8 ⟨fr,orr,q0,q1,q2,q3,q4,q5,q6,rfl,htU,hb8⟩;have hrs8:=ResU.next (by assumption) hb8;have hkk8:=Keep.next (by assumption) hb8;obtain ⟨z0,z1,z2,z3,z4,z5,z6,z7,z8,⟨l0,l1,l2,l3,l4,l5,l6,l7,l8⟩,⟨f0,f1,f2,f3,f4,f5,f6,f7,f8⟩⟩:=ResU.slots hrs8))
   go_wp2_with fail
   have Hres2:=hiD hrs8
   have hfin:Hid (∀ W,W=((((((((((w8).setCell ⟨w.heap.size+1+1,0,none⟩ (.string fr)).setCell ⟨w.heap.size+1+1,1,none⟩ (.string orr)).setCell ⟨w.heap.size+1+1,2,none⟩ (.int .i64 q0)).setCell ⟨w.heap.size+1+1,3,none⟩ (.int .i64 q1)).setCell ⟨w.heap.size+1+1,4,none⟩ (.int .i64 q2)).setCell ⟨w.heap.size+1+1,5,none⟩ (.int .i64 q3)).setCell ⟨w.heap.size+1+1,6,none⟩ (.int .i64 q4)).setCell ⟨w.heap.size+1+1,7,none⟩ (.int .i64 q5)).setCell ⟨w.heap.size+1+1,8,none⟩ (.int .i64 q6))→UnitPost res w (.returned (.tuple #[.agg #[.string fr,.string orr,.int .i64 q0,.int .i64 q1,.int .i64 q2,.int .i64 q3,.int .i64 q4,.int .i64 q5,.int .i64 q6],.int .i64 res.2])) W):=hiD (by
    rintro W rfl
    exact ⟨_,_,_,_,_,_,_,_,_,rfl,htU,Hres2.out.put9 (by first|omega|(simp;done)|(simp;omega)) (.string fr) (.string orr) (.int .i64 q0) (.int .i64 q1) (.int .i64 q2) (.int .i64 q3) (.int .i64 q4) (.int .i64 q5) (.int .i64 q6)⟩)
   have hcells:=Hres2.out.put9_heap (.string fr) (.string orr) (.int .i64 q0) (.int .i64 q1) (.int .i64 q2) (.int .i64 q3) (.int .i64 q4) (.int .i64 q5) (.int .i64 q6)
   generalize (((((((((w8).setCell ⟨w.heap.size+1+1,0,none⟩ (.string fr)).setCell ⟨w.heap.size+1+1,1,none⟩ (.string orr)).setCell ⟨w.heap.size+1+1,2,none⟩ (.int .i64 q0)).setCell ⟨w.heap.size+1+1,3,none⟩ (.int .i64 q1)).setCell ⟨w.heap.size+1+1,4,none⟩ (.int .i64 q2)).setCell ⟨w.heap.size+1+1,5,none⟩ (.int .i64 q3)).setCell ⟨w.heap.size+1+1,6,none⟩ (.int .i64 q4)).setCell ⟨w.heap.size+1+1,7,none⟩ (.int .i64 q5)).setCell ⟨w.heap.size+1+1,8,none⟩ (.int .i64 q6)=WW at hcells hfin ⊢
   have c0:=ceh hcells 0
   have c1:=ceh hcells 1
   have c2:=ceh hcells 2
   have c3:=ceh hcells 3
   have c4:=ceh hcells 4
   have c5:=ceh hcells 5
   have c6:=ceh hcells 6
   have c7:=ceh hcells 7
   have c8:=ceh hcells 8
   refine bodyPost_ret (v:=.tuple #[.agg #[.string fr,.string orr,.int .i64 q0,.int .i64 q1,.int .i64 q2,.int .i64 q3,.int .i64 q4,.int .i64 q5,.int .i64 q6],.int .i64 res.2]) (by simp [results,Tryz.results117,go_sem,c0,c1,c2,c3,c4,c5,c6,c7,c8]) rfl ?_
   exact hfin.out _ rfl
end Go.Proofs.YtigicjakloiliaaGreatDoor
