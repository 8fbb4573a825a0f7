/- Units: Times, Over. -/
import Derived.Test.YtigicjakloiliaaGreatDoorPart19
import Derived.Test.YtigicjakloiliaaGreatDoorBX
set_option maxHeartbeats 1600000
set_option maxRecDepth 100000
namespace Go.Proofs.YtigicjakloiliaaGreatDoor
open Go.RowKit Go.Lib Big
theorem plainIs (f o:ByteArray) (p0 p1 p2 p3 p4 p5 p6:Int) (w:World) (htab:Tab w) (b:Bool) (h:plainT (tU f o p0 p1 p2 p3 p4 p5 p6)=b):PlainIs w (.agg #[.string f,.string o,.int .i64 p0,.int .i64 p1,.int .i64 p2,.int .i64 p3,.int .i64 p4,.int .i64 p5,.int .i64 p6]) b:=fun W hW=>hiD (by
 have:=isPlain_any f o p0 p1 p2 p3 p4 p5 p6 W (htab.below hW)
 rwa [h] at this)
theorem combined_any (f o:ByteArray) (p0 p1 p2 p3 p4 p5 p6:Int) (f' o':ByteArray) (r0 r1 r2 r3 r4 r5 r6:Int) (n:Int) (hn:n=1∨n=-1) (w:World) (htab:Tab w):Calls Tryz.prog 117 #[.agg #[.string f,.string o,.int .i64 p0,.int .i64 p1,.int .i64 p2,.int .i64 p3,.int .i64 p4,.int .i64 p5,.int .i64 p6],.agg #[.string f',.string o',.int .i64 r0,.int .i64 r1,.int .i64 r2,.int .i64 r3,.int .i64 r4,.int .i64 r5,.int .i64 r6],.int .i64 n] w (UnitPost (combT (tU f o p0 p1 p2 p3 p4 p5 p6) (tU f' o' r0 r1 r2 r3 r4 r5 r6) n) w):=by
 cases hu:plainT (tU f o p0 p1 p2 p3 p4 p5 p6) with
 | false =>
  have h:=combined_no1 f o p0 p1 p2 p3 p4 p5 p6 f' o' r0 r1 r2 r3 r4 r5 r6 n w (plainIs f o p0 p1 p2 p3 p4 p5 p6 w htab _ hu)
  unfold combT;rw [hu];exact h
 | true =>
  cases hv:plainT (tU f' o' r0 r1 r2 r3 r4 r5 r6) with
  | false =>
   have h:=combined_no2 f o p0 p1 p2 p3 p4 p5 p6 f' o' r0 r1 r2 r3 r4 r5 r6 n w (plainIs f o p0 p1 p2 p3 p4 p5 p6 w htab _ hu) (plainIs f' o' r0 r1 r2 r3 r4 r5 r6 w htab _ hv)
   unfold combT;rw [hu,hv];exact h
  | true =>
   obtain ⟨u1,u2,u3,u4⟩:=plainT_iff.1 hu
   obtain ⟨v1,v2,v3,v4⟩:=plainT_iff.1 hv
   have h:=combined_ok f o p0 p1 p2 p3 p4 p5 p6 f' o' r0 r1 r2 r3 r4 r5 r6 n _ _ hn u3 v3 u1 v1 (by grind) w htab (plainIs f o p0 p1 p2 p3 p4 p5 p6 w htab _ hu) (plainIs f' o' r0 r1 r2 r3 r4 r5 r6 w htab _ hv)
   unfold combT;rw [hu,hv];exact h
theorem times_any (f o:ByteArray) (p0 p1 p2 p3 p4 p5 p6:Int) (f' o':ByteArray) (r0 r1 r2 r3 r4 r5 r6:Int) (w:World) (htab:Tab w):Calls Tryz.prog 60 #[.agg #[.string f,.string o,.int .i64 p0,.int .i64 p1,.int .i64 p2,.int .i64 p3,.int .i64 p4,.int .i64 p5,.int .i64 p6],.agg #[.string f',.string o',.int .i64 r0,.int .i64 r1,.int .i64 r2,.int .i64 r3,.int .i64 r4,.int .i64 r5,.int .i64 r6]] w (UnitPost (combT (tU f o p0 p1 p2 p3 p4 p5 p6) (tU f' o' r0 r1 r2 r3 r4 r5 r6) (1)) w):=by
 have hk0:Hid (Keep w (((w.alloc (.cells #[.string f,.string o,.int .i64 p0,.int .i64 p1,.int .i64 p2,.int .i64 p3,.int .i64 p4,.int .i64 p5,.int .i64 p6] 53)).alloc (.cells #[.string f',.string o',.int .i64 r0,.int .i64 r1,.int .i64 r2,.int .i64 r3,.int .i64 r4,.int .i64 r5,.int .i64 r6] 53)).alloc (.cells #[.string ⟨#[]⟩,.string ⟨#[]⟩,.int .i64 0,.int .i64 0,.int .i64 0,.int .i64 0,.int .i64 0,.int .i64 0,.int .i64 0] 53)) [(w.heap.size+1+1,#[.string ⟨#[]⟩,.string ⟨#[]⟩,.int .i64 0,.int .i64 0,.int .i64 0,.int .i64 0,.int .i64 0,.int .i64 0,.int .i64 0],53),(w.heap.size+1,#[.string f',.string o',.int .i64 r0,.int .i64 r1,.int .i64 r2,.int .i64 r3,.int .i64 r4,.int .i64 r5,.int .i64 r6],53),(w.heap.size,#[.string f,.string o,.int .i64 p0,.int .i64 p1,.int .i64 p2,.int .i64 p3,.int .i64 p4,.int .i64 p5,.int .i64 p6],53)]):=hiD (Keep.three w _ _ _ 53 53 53)
 have hcm:=hiD (combined_any f o p0 p1 p2 p3 p4 p5 p6 f' o' r0 r1 r2 r3 r4 r5 r6 (1) (by decide) (((w.alloc (.cells #[.string f,.string o,.int .i64 p0,.int .i64 p1,.int .i64 p2,.int .i64 p3,.int .i64 p4,.int .i64 p5,.int .i64 p6] 53)).alloc (.cells #[.string f',.string o',.int .i64 r0,.int .i64 r1,.int .i64 r2,.int .i64 r3,.int .i64 r4,.int .i64 r5,.int .i64 r6] 53)).alloc (.cells #[.string ⟨#[]⟩,.string ⟨#[]⟩,.int .i64 0,.int .i64 0,.int .i64 0,.int .i64 0,.int .i64 0,.int .i64 0,.int .i64 0] 53)) (htab.below hk0.out.below))
 generalize combT (tU f o p0 p1 p2 p3 p4 p5 p6) (tU f' o' r0 r1 r2 r3 r4 r5 r6) (1)=res at hcm ⊢
 clear htab
 go_enter Tryz.func60,Tryz.ntmps60
 go_wp2_with fail
 refine (hcm.out).mono ?_
 rintro e w2 ⟨fr,orr,q0,q1,q2,q3,q4,q5,q6,rfl,htU,hb2⟩
 have Hres2:=hiD (keep_resU (hk0.out.next hb2))
 obtain ⟨z0,z1,z2,z3,z4,z5,z6,z7,z8,⟨l0,l1,l2,l3,l4,l5,l6,l7,l8⟩,⟨f0,f1,f2,f3,f4,f5,f6,f7,f8⟩⟩:=Hres2.out.slots
 have hfin:Hid (∀ W,W=((((((((((w2).setCell ⟨w.heap.size+1+1,0,none⟩ (.string fr)).setCell ⟨w.heap.size+1+1,1,none⟩ (.string orr)).setCell ⟨w.heap.size+1+1,2,none⟩ (.int .i64 q0)).setCell ⟨w.heap.size+1+1,3,none⟩ (.int .i64 q1)).setCell ⟨w.heap.size+1+1,4,none⟩ (.int .i64 q2)).setCell ⟨w.heap.size+1+1,5,none⟩ (.int .i64 q3)).setCell ⟨w.heap.size+1+1,6,none⟩ (.int .i64 q4)).setCell ⟨w.heap.size+1+1,7,none⟩ (.int .i64 q5)).setCell ⟨w.heap.size+1+1,8,none⟩ (.int .i64 q6))→UnitPost res w (.returned (.tuple #[.agg #[.string fr,.string orr,.int .i64 q0,.int .i64 q1,.int .i64 q2,.int .i64 q3,.int .i64 q4,.int .i64 q5,.int .i64 q6],.int .i64 res.2])) W):=hiD (by
  rintro W rfl
  exact ⟨_,_,_,_,_,_,_,_,_,rfl,htU,Hres2.out.put9 (by first|omega|(simp;done)|(simp;omega)) (.string fr) (.string orr) (.int .i64 q0) (.int .i64 q1) (.int .i64 q2) (.int .i64 q3) (.int .i64 q4) (.int .i64 q5) (.int .i64 q6)⟩)
 clear hb2
 go_wp2_with fail
 have hcells:=Hres2.out.put9_heap (.string fr) (.string orr) (.int .i64 q0) (.int .i64 q1) (.int .i64 q2) (.int .i64 q3) (.int .i64 q4) (.int .i64 q5) (.int .i64 q6)
 generalize (((((((((w2).setCell ⟨w.heap.size+1+1,0,none⟩ (.string fr)).setCell ⟨w.heap.size+1+1,1,none⟩ (.string orr)).setCell ⟨w.heap.size+1+1,2,none⟩ (.int .i64 q0)).setCell ⟨w.heap.size+1+1,3,none⟩ (.int .i64 q1)).setCell ⟨w.heap.size+1+1,4,none⟩ (.int .i64 q2)).setCell ⟨w.heap.size+1+1,5,none⟩ (.int .i64 q3)).setCell ⟨w.heap.size+1+1,6,none⟩ (.int .i64 q4)).setCell ⟨w.heap.size+1+1,7,none⟩ (.int .i64 q5)).setCell ⟨w.heap.size+1+1,8,none⟩ (.int .i64 q6)=WW at hcells hfin ⊢
 have c0:=ceh hcells 0
 have c1:=ceh hcells 1
 have c2:=ceh hcells 2
 have c3:=ceh hcells 3
 have c4:=ceh hcells 4
 have c5:=ceh hcells 5
 have c6:=ceh hcells 6
 have c7:=ceh hcells 7
 have c8:=ceh hcells 8
 refine bodyPost_ret (v:=.tuple #[.agg #[.string fr,.string orr,.int .i64 q0,.int .i64 q1,.int .i64 q2,.int .i64 q3,.int .i64 q4,.int .i64 q5,.int .i64 q6],.int .i64 res.2]) (by simp [results,Tryz.results60,go_sem,c0,c1,c2,c3,c4,c5,c6,c7,c8]) rfl ?_
 exact hfin.out _ rfl
theorem over_any (f o:ByteArray) (p0 p1 p2 p3 p4 p5 p6:Int) (f' o':ByteArray) (r0 r1 r2 r3 r4 r5 r6:Int) (w:World) (htab:Tab w):Calls Tryz.prog 62 #[.agg #[.string f,.string o,.int .i64 p0,.int .i64 p1,.int .i64 p2,.int .i64 p3,.int .i64 p4,.int .i64 p5,.int .i64 p6],.agg #[.string f',.string o',.int .i64 r0,.int .i64 r1,.int .i64 r2,.int .i64 r3,.int .i64 r4,.int .i64 r5,.int .i64 r6]] w (UnitPost (combT (tU f o p0 p1 p2 p3 p4 p5 p6) (tU f' o' r0 r1 r2 r3 r4 r5 r6) (-1)) w):=by
 have hk0:Hid (Keep w (((w.alloc (.cells #[.string f,.string o,.int .i64 p0,.int .i64 p1,.int .i64 p2,.int .i64 p3,.int .i64 p4,.int .i64 p5,.int .i64 p6] 53)).alloc (.cells #[.string f',.string o',.int .i64 r0,.int .i64 r1,.int .i64 r2,.int .i64 r3,.int .i64 r4,.int .i64 r5,.int .i64 r6] 53)).alloc (.cells #[.string ⟨#[]⟩,.string ⟨#[]⟩,.int .i64 0,.int .i64 0,.int .i64 0,.int .i64 0,.int .i64 0,.int .i64 0,.int .i64 0] 53)) [(w.heap.size+1+1,#[.string ⟨#[]⟩,.string ⟨#[]⟩,.int .i64 0,.int .i64 0,.int .i64 0,.int .i64 0,.int .i64 0,.int .i64 0,.int .i64 0],53),(w.heap.size+1,#[.string f',.string o',.int .i64 r0,.int .i64 r1,.int .i64 r2,.int .i64 r3,.int .i64 r4,.int .i64 r5,.int .i64 r6],53),(w.heap.size,#[.string f,.string o,.int .i64 p0,.int .i64 p1,.int .i64 p2,.int .i64 p3,.int .i64 p4,.int .i64 p5,.int .i64 p6],53)]):=hiD (Keep.three w _ _ _ 53 53 53)
 have hcm:=hiD (combined_any f o p0 p1 p2 p3 p4 p5 p6 f' o' r0 r1 r2 r3 r4 r5 r6 (-1) (by decide) (((w.alloc (.cells #[.string f,.string o,.int .i64 p0,.int .i64 p1,.int .i64 p2,.int .i64 p3,.int .i64 p4,.int .i64 p5,.int .i64 p6] 53)).alloc (.cells #[.string f',.string o',.int .i64 r0,.int .i64 r1,.int .i64 r2,.int .i64 r3,.int .i64 r4,.int .i64 r5,.int .i64 r6] 53)).alloc (.cells #[.string ⟨#[]⟩,.string ⟨#[]⟩,.int .i64 0,.int .i64 0,.int .i64 0,.int .i64 0,.int .i64 0,.int .i64 0,.int .i64 0] 53)) (htab.below hk0.out.below))
 generalize combT (tU f o p0 p1 p2 p3 p4 p5 p6) (tU f' o' r0 r1 r2 r3 r4 r5 r6) (-1)=res at hcm ⊢
 clear htab
 go_enter Tryz.func62,Tryz.ntmps62
 go_wp2_with fail
 refine (hcm.out).mono ?_
 rintro e w2 ⟨fr,orr,q0,q1,q2,q3,q4,q5,q6,rfl,htU,hb2⟩
 have Hres2:=hiD (keep_resU (hk0.out.next hb2))
 obtain ⟨z0,z1,z2,z3,z4,z5,z6,z7,z8,⟨l0,l1,l2,l3,l4,l5,l6,l7,l8⟩,⟨f0,f1,f2,f3,f4,f5,f6,f7,f8⟩⟩:=Hres2.out.slots
 have hfin:Hid (∀ W,W=((((((((((w2).setCell ⟨w.heap.size+1+1,0,none⟩ (.string fr)).setCell ⟨w.heap.size+1+1,1,none⟩ (.string orr)).setCell ⟨w.heap.size+1+1,2,none⟩ (.int .i64 q0)).setCell ⟨w.heap.size+1+1,3,none⟩ (.int .i64 q1)).setCell ⟨w.heap.size+1+1,4,none⟩ (.int .i64 q2)).setCell ⟨w.heap.size+1+1,5,none⟩ (.int .i64 q3)).setCell ⟨w.heap.size+1+1,6,none⟩ (.int .i64 q4)).setCell ⟨w.heap.size+1+1,7,none⟩ (.int .i64 q5)).setCell ⟨w.heap.size+1+1,8,none⟩ (.int .i64 q6))→UnitPost res w (.returned (.tuple #[.agg #[.string fr,.string orr,.int .i64 q0,.int .i64 q1,.int .i64 q2,.int .i64 q3,.int .i64 q4,.int .i64 q5,.int .i64 q6],.int .i64 res.2])) W):=hiD (by
  rintro W rfl
  exact ⟨_,_,_,_,_,_,_,_,_,rfl,htU,Hres2.out.put9 (by first|omega|(simp;done)|(simp;omega)) (.string fr) (.string orr) (.int .i64 q0) (.int .i64 q1) (.int .i64 q2) (.int .i64 q3) (.int .i64 q4) (.int .i64 q5) (.int .i64 q6)⟩)
 clear hb2
 go_wp2_with fail
 have hcells:=Hres2.out.put9_heap (.string fr) (.string orr) (.int .i64 q0) (.int .i64 q1) (.int .i64 q2) (.int .i64 q3) (.int .i64 q4) (.int .i64 q5) (.int .i64 q6)
 generalize (((((((((w2).setCell ⟨w.heap.size+1+1,0,none⟩ (.string fr)).setCell ⟨w.heap.size+1+1,1,none⟩ (.string orr)).setCell ⟨w.heap.size+1+1,2,none⟩ (.int .i64 q0)).setCell ⟨w.heap.size+1+1,3,none⟩ (.int .i64 q1)).setCell ⟨w.heap.size+1+1,4,none⟩ (.int .i64 q2)).setCell ⟨w.heap.size+1+1,5,none⟩ (.int .i64 q3)).setCell ⟨w.heap.size+1+1,6,none⟩ (.int .i64 q4)).setCell ⟨w.heap.size+1+1,7,none⟩ (.int .i64 q5)).setCell ⟨w.heap.size+1+1,8,none⟩ (.int .i64 q6)=WW at hcells hfin ⊢
 have c0:=ceh hcells 0
 have c1:=ceh hcells 1
 have c2:=ceh hcells 2
 have c3:=ceh hcells 3
 have c4:=ceh hcells 4
 have c5:=ceh hcells 5
 have c6:=ceh hcells 6
 have c7:=ceh hcells 7
 have c8:=ceh hcells 8
 refine bodyPost_ret (v:=.tuple #[.agg #[.string fr,.string orr,.int .i64 q0,.int .i64 q1,.int .i64 q2,.int .i64 q3,.int .i64 q4,.int .i64 q5,.int .i64 q6],.int .i64 res.2]) (by simp [results,Tryz.results62,go_sem,c0,c1,c2,c3,c4,c5,c6,c7,c8]) rfl ?_
 exact hfin.out _ rfl
theorem Keep.two (w:World) (c1 c2:Array Value) (t1 t2:TypeId):Keep w ((w.alloc (.cells c1 t1)).alloc (.cells c2 t2)) [(w.heap.size+1,c2,t2),(w.heap.size,c1,t1)]:=by
 have h:=((Keep.nil w).more c1 t1).more c2 t2
 rwa [show (w.alloc (.cells c1 t1)).heap.size=w.heap.size+1 from by simp] at h
theorem isPow_bd {n:Int} (h:isPow n=true):-12≤n∧n≤12:=by
 unfold isPow at h
 rw [Bool.and_eq_true,decide_eq_true_iff,decide_eq_true_iff] at h
 exact h
theorem wrap_mul {p n:Int} (hp:-12≤p∧p≤12) (hn:-12≤n∧n≤12):IntKind.i64.wrap (p*n)=p*n:=by
 have h:(p*n).natAbs≤12*12:=by
  rw [Int.natAbs_mul]
  exact Nat.mul_le_mul (show p.natAbs≤12 by omega) (show n.natAbs≤12 by omega)
 revert h
 generalize p*n=z
 intro h
 exact IntWalk.i64_in _ (by omega)
def powL (ps:List Int) (n:Int) (k:Nat):List Int:=(ps.map fun p=>p*n).take k++ps.drop k
theorem pow_all {w W:World} {g:Nat} {f o:ByteArray} {p0 p1 p2 p3 p4 p5 p6:Int} {n:Int} (h:Keep w W [(g,#[.int .i64 (p0*n),.int .i64 (p1*n),.int .i64 (p2*n),.int .i64 (p3*n),.int .i64 (p4*n),.int .i64 (p5*n),.int .i64 (p6*n)],51),(w.heap.size,#[.string f,.string o,.int .i64 p0,.int .i64 p1,.int .i64 p2,.int .i64 p3,.int .i64 p4,.int .i64 p5,.int .i64 p6],53)]) (hr:ResU (w.heap.size+1) w W):Keep w W [(g,#[.int .i64 (p0*n),.int .i64 (p1*n),.int .i64 (p2*n),.int .i64 (p3*n),.int .i64 (p4*n),.int .i64 (p5*n),.int .i64 (p6*n)],51),(w.heap.size,#[.string f,.string o,.int .i64 p0,.int .i64 p1,.int .i64 p2,.int .i64 p3,.int .i64 p4,.int .i64 p5,.int .i64 p6],53)]∧ResU (w.heap.size+1) w W∧W.cell? ⟨w.heap.size,0,none⟩=some (.string f)∧W.cell? ⟨w.heap.size,1,none⟩=some (.string o)∧W.cell? ⟨w.heap.size,2,none⟩=some (.int .i64 p0)∧W.cell? ⟨w.heap.size,3,none⟩=some (.int .i64 p1)∧W.cell? ⟨w.heap.size,4,none⟩=some (.int .i64 p2)∧W.cell? ⟨w.heap.size,5,none⟩=some (.int .i64 p3)∧W.cell? ⟨w.heap.size,6,none⟩=some (.int .i64 p4)∧W.cell? ⟨w.heap.size,7,none⟩=some (.int .i64 p5)∧W.cell? ⟨w.heap.size,8,none⟩=some (.int .i64 p6)∧W.cell? ⟨g,0,none⟩=some (.int .i64 (p0*n))∧W.cell? ⟨g,1,none⟩=some (.int .i64 (p1*n))∧W.cell? ⟨g,2,none⟩=some (.int .i64 (p2*n))∧W.cell? ⟨g,3,none⟩=some (.int .i64 (p3*n))∧W.cell? ⟨g,4,none⟩=some (.int .i64 (p4*n))∧W.cell? ⟨g,5,none⟩=some (.int .i64 (p5*n))∧W.cell? ⟨g,6,none⟩=some (.int .i64 (p6*n)) :=
 ⟨h,hr,ceh (h.one _ (List.mem_cons_of_mem _ (List.mem_cons_self ..))) 0,ceh (h.one _ (List.mem_cons_of_mem _ (List.mem_cons_self ..))) 1,ceh (h.one _ (List.mem_cons_of_mem _ (List.mem_cons_self ..))) 2,ceh (h.one _ (List.mem_cons_of_mem _ (List.mem_cons_self ..))) 3,ceh (h.one _ (List.mem_cons_of_mem _ (List.mem_cons_self ..))) 4,ceh (h.one _ (List.mem_cons_of_mem _ (List.mem_cons_self ..))) 5,ceh (h.one _ (List.mem_cons_of_mem _ (List.mem_cons_self ..))) 6,ceh (h.one _ (List.mem_cons_of_mem _ (List.mem_cons_self ..))) 7,ceh (h.one _ (List.mem_cons_of_mem _ (List.mem_cons_self ..))) 8,ceh (h.one _ (List.mem_cons_self ..)) 0,ceh (h.one _ (List.mem_cons_self ..)) 1,ceh (h.one _ (List.mem_cons_self ..)) 2,ceh (h.one _ (List.mem_cons_self ..)) 3,ceh (h.one _ (List.mem_cons_self ..)) 4,ceh (h.one _ (List.mem_cons_self ..)) 5,ceh (h.one _ (List.mem_cons_self ..)) 6⟩
theorem power_no1 (f o:ByteArray) (p0 p1 p2 p3 p4 p5 p6:Int) (n:Int) (w:World) (hu:PlainIs w (.agg #[.string f,.string o,.int .i64 p0,.int .i64 p1,.int .i64 p2,.int .i64 p3,.int .i64 p4,.int .i64 p5,.int .i64 p6]) false):Calls Tryz.prog 64 #[.agg #[.string f,.string o,.int .i64 p0,.int .i64 p1,.int .i64 p2,.int .i64 p3,.int .i64 p4,.int .i64 p5,.int .i64 p6],.int .i64 n] w (UnitPost (zeroU,10) w):=by
 have hk0:Hid (Keep w ((w.alloc (.cells #[.string f,.string o,.int .i64 p0,.int .i64 p1,.int .i64 p2,.int .i64 p3,.int .i64 p4,.int .i64 p5,.int .i64 p6] 53)).alloc (.cells #[.string ⟨#[]⟩,.string ⟨#[]⟩,.int .i64 0,.int .i64 0,.int .i64 0,.int .i64 0,.int .i64 0,.int .i64 0,.int .i64 0] 53)) [(w.heap.size+1,#[.string ⟨#[]⟩,.string ⟨#[]⟩,.int .i64 0,.int .i64 0,.int .i64 0,.int .i64 0,.int .i64 0,.int .i64 0,.int .i64 0],53),(w.heap.size,#[.string f,.string o,.int .i64 p0,.int .i64 p1,.int .i64 p2,.int .i64 p3,.int .i64 p4,.int .i64 p5,.int .i64 p6],53)]):=hiD (Keep.two w _ _ 53 53)
 have h1:=hu _ hk0.out.below
 clear hu
 go_enter Tryz.func64,Tryz.ntmps64
 go_wp2_with fail
 refine h1.out.mono ?_
 rintro e w2 ⟨rfl,hb2⟩
 have Hres2:=hiD (keep_resU (hk0.out.next hb2))
 obtain ⟨z0,z1,z2,z3,z4,z5,z6,z7,z8,⟨l0,l1,l2,l3,l4,l5,l6,l7,l8⟩,⟨f0,f1,f2,f3,f4,f5,f6,f7,f8⟩⟩:=Hres2.out.slots
 have hfin:Hid (∀ W,W=((((((((((w2).setCell ⟨w.heap.size+1,0,none⟩ (.string ⟨#[]⟩)).setCell ⟨w.heap.size+1,1,none⟩ (.string ⟨#[]⟩)).setCell ⟨w.heap.size+1,2,none⟩ (.int .i64 0)).setCell ⟨w.heap.size+1,3,none⟩ (.int .i64 0)).setCell ⟨w.heap.size+1,4,none⟩ (.int .i64 0)).setCell ⟨w.heap.size+1,5,none⟩ (.int .i64 0)).setCell ⟨w.heap.size+1,6,none⟩ (.int .i64 0)).setCell ⟨w.heap.size+1,7,none⟩ (.int .i64 0)).setCell ⟨w.heap.size+1,8,none⟩ (.int .i64 0))→UnitPost (zeroU,10) w (.returned (.tuple #[.agg #[.string ⟨#[]⟩,.string ⟨#[]⟩,.int .i64 0,.int .i64 0,.int .i64 0,.int .i64 0,.int .i64 0,.int .i64 0,.int .i64 0],.int .i64 10])) W):=hiD (by
  rintro W rfl
  exact ⟨_,_,_,_,_,_,_,_,_,rfl,rfl,Hres2.out.put9 (by first|omega|(simp;done)|(simp;omega)) (.string ⟨#[]⟩) (.string ⟨#[]⟩) (.int .i64 0) (.int .i64 0) (.int .i64 0) (.int .i64 0) (.int .i64 0) (.int .i64 0) (.int .i64 0)⟩)
 clear hb2
 go_wp2_with fail
 have hcells:=Hres2.out.put9_heap (.string ⟨#[]⟩) (.string ⟨#[]⟩) (.int .i64 0) (.int .i64 0) (.int .i64 0) (.int .i64 0) (.int .i64 0) (.int .i64 0) (.int .i64 0)
 generalize (((((((((w2).setCell ⟨w.heap.size+1,0,none⟩ (.string ⟨#[]⟩)).setCell ⟨w.heap.size+1,1,none⟩ (.string ⟨#[]⟩)).setCell ⟨w.heap.size+1,2,none⟩ (.int .i64 0)).setCell ⟨w.heap.size+1,3,none⟩ (.int .i64 0)).setCell ⟨w.heap.size+1,4,none⟩ (.int .i64 0)).setCell ⟨w.heap.size+1,5,none⟩ (.int .i64 0)).setCell ⟨w.heap.size+1,6,none⟩ (.int .i64 0)).setCell ⟨w.heap.size+1,7,none⟩ (.int .i64 0)).setCell ⟨w.heap.size+1,8,none⟩ (.int .i64 0)=WW at hcells hfin ⊢
 have c0:=ceh hcells 0
 have c1:=ceh hcells 1
 have c2:=ceh hcells 2
 have c3:=ceh hcells 3
 have c4:=ceh hcells 4
 have c5:=ceh hcells 5
 have c6:=ceh hcells 6
 have c7:=ceh hcells 7
 have c8:=ceh hcells 8
 refine bodyPost_ret (v:=.tuple #[.agg #[.string ⟨#[]⟩,.string ⟨#[]⟩,.int .i64 0,.int .i64 0,.int .i64 0,.int .i64 0,.int .i64 0,.int .i64 0,.int .i64 0],.int .i64 10]) (by simp [results,Tryz.results64,go_sem,c0,c1,c2,c3,c4,c5,c6,c7,c8]) rfl ?_
 exact hfin.out _ rfl
theorem power_no2 (f o:ByteArray) (p0 p1 p2 p3 p4 p5 p6:Int) (n:Int) (w:World) (hu:PlainIs w (.agg #[.string f,.string o,.int .i64 p0,.int .i64 p1,.int .i64 p2,.int .i64 p3,.int .i64 p4,.int .i64 p5,.int .i64 p6]) true) (hn:Hid (isPow n=false)):Calls Tryz.prog 64 #[.agg #[.string f,.string o,.int .i64 p0,.int .i64 p1,.int .i64 p2,.int .i64 p3,.int .i64 p4,.int .i64 p5,.int .i64 p6],.int .i64 n] w (UnitPost (zeroU,2) w):=by
 have hk0:Hid (Keep w ((w.alloc (.cells #[.string f,.string o,.int .i64 p0,.int .i64 p1,.int .i64 p2,.int .i64 p3,.int .i64 p4,.int .i64 p5,.int .i64 p6] 53)).alloc (.cells #[.string ⟨#[]⟩,.string ⟨#[]⟩,.int .i64 0,.int .i64 0,.int .i64 0,.int .i64 0,.int .i64 0,.int .i64 0,.int .i64 0] 53)) [(w.heap.size+1,#[.string ⟨#[]⟩,.string ⟨#[]⟩,.int .i64 0,.int .i64 0,.int .i64 0,.int .i64 0,.int .i64 0,.int .i64 0,.int .i64 0],53),(w.heap.size,#[.string f,.string o,.int .i64 p0,.int .i64 p1,.int .i64 p2,.int .i64 p3,.int .i64 p4,.int .i64 p5,.int .i64 p6],53)]):=hiD (Keep.two w _ _ 53 53)
 have h1:=hu _ hk0.out.below
 clear hu
 have hpw:=hiD (fun W=>isPower_any n W)
 rw [hn.out] at hpw
 go_enter Tryz.func64,Tryz.ntmps64
 go_wp2_with fail
 refine h1.out.mono ?_
 rintro e w2 ⟨rfl,hb2⟩
 have Hres2:=hiD (keep_resU (hk0.out.next hb2))
 obtain ⟨z0,z1,z2,z3,z4,z5,z6,z7,z8,⟨l0,l1,l2,l3,l4,l5,l6,l7,l8⟩,⟨f0,f1,f2,f3,f4,f5,f6,f7,f8⟩⟩:=Hres2.out.slots
 have hfin:Hid (∀ W,W=((((((((((w2).setCell ⟨w.heap.size+1,0,none⟩ (.string ⟨#[]⟩)).setCell ⟨w.heap.size+1,1,none⟩ (.string ⟨#[]⟩)).setCell ⟨w.heap.size+1,2,none⟩ (.int .i64 0)).setCell ⟨w.heap.size+1,3,none⟩ (.int .i64 0)).setCell ⟨w.heap.size+1,4,none⟩ (.int .i64 0)).setCell ⟨w.heap.size+1,5,none⟩ (.int .i64 0)).setCell ⟨w.heap.size+1,6,none⟩ (.int .i64 0)).setCell ⟨w.heap.size+1,7,none⟩ (.int .i64 0)).setCell ⟨w.heap.size+1,8,none⟩ (.int .i64 0))→UnitPost (zeroU,2) w (.returned (.tuple #[.agg #[.string ⟨#[]⟩,.string ⟨#[]⟩,.int .i64 0,.int .i64 0,.int .i64 0,.int .i64 0,.int .i64 0,.int .i64 0,.int .i64 0],.int .i64 2])) W):=hiD (by
  rintro W rfl
  exact ⟨_,_,_,_,_,_,_,_,_,rfl,rfl,Hres2.out.put9 (by first|omega|(simp;done)|(simp;omega)) (.string ⟨#[]⟩) (.string ⟨#[]⟩) (.int .i64 0) (.int .i64 0) (.int .i64 0) (.int .i64 0) (.int .i64 0) (.int .i64 0) (.int .i64 0)⟩)
 clear hb2
 go_wp2_with fail
 refine (hpw.out _).mono ?_
 rintro e w3 ⟨rfl,rfl⟩
 go_wp2_with fail
 have hcells:=Hres2.out.put9_heap (.string ⟨#[]⟩) (.string ⟨#[]⟩) (.int .i64 0) (.int .i64 0) (.int .i64 0) (.int .i64 0) (.int .i64 0) (.int .i64 0) (.int .i64 0)
 generalize (((((((((w2).setCell ⟨w.heap.size+1,0,none⟩ (.string ⟨#[]⟩)).setCell ⟨w.heap.size+1,1,none⟩ (.string ⟨#[]⟩)).setCell ⟨w.heap.size+1,2,none⟩ (.int .i64 0)).setCell ⟨w.heap.size+1,3,none⟩ (.int .i64 0)).setCell ⟨w.heap.size+1,4,none⟩ (.int .i64 0)).setCell ⟨w.heap.size+1,5,none⟩ (.int .i64 0)).setCell ⟨w.heap.size+1,6,none⟩ (.int .i64 0)).setCell ⟨w.heap.size+1,7,none⟩ (.int .i64 0)).setCell ⟨w.heap.size+1,8,none⟩ (.int .i64 0)=WW at hcells hfin ⊢
 have c0:=ceh hcells 0
 have c1:=ceh hcells 1
 have c2:=ceh hcells 2
 have c3:=ceh hcells 3
 have c4:=ceh hcells 4
 have c5:=ceh hcells 5
 have c6:=ceh hcells 6
 have c7:=ceh hcells 7
 have c8:=ceh hcells 8
 refine bodyPost_ret (v:=.tuple #[.agg #[.string ⟨#[]⟩,.string ⟨#[]⟩,.int .i64 0,.int .i64 0,.int .i64 0,.int .i64 0,.int .i64 0,.int .i64 0,.int .i64 0],.int .i64 2]) (by simp [results,Tryz.results64,go_sem,c0,c1,c2,c3,c4,c5,c6,c7,c8]) rfl ?_
 exact hfin.out _ rfl
theorem power_ok (f o:ByteArray) (p0 p1 p2 p3 p4 p5 p6:Int) (n:Int) (w:World) (a:Rat) (ha0:a≠0) (hp:inR [p0,p1,p2,p3,p4,p5,p6]=true) (hnf:num f.data.toList=some a) (htab:Tab w) (hu:PlainIs w (.agg #[.string f,.string o,.int .i64 p0,.int .i64 p1,.int .i64 p2,.int .i64 p3,.int .i64 p4,.int .i64 p5,.int .i64 p6]) true) (hn:isPow n=true):Calls Tryz.prog 64 #[.agg #[.string f,.string o,.int .i64 p0,.int .i64 p1,.int .i64 p2,.int .i64 p3,.int .i64 p4,.int .i64 p5,.int .i64 p6],.int .i64 n] w (UnitPost (mkT (a^n) [p0*n,p1*n,p2*n,p3*n,p4*n,p5*n,p6*n]) w):=by
 have hk0:Hid (Keep w ((w.alloc (.cells #[.string f,.string o,.int .i64 p0,.int .i64 p1,.int .i64 p2,.int .i64 p3,.int .i64 p4,.int .i64 p5,.int .i64 p6] 53)).alloc (.cells #[.string ⟨#[]⟩,.string ⟨#[]⟩,.int .i64 0,.int .i64 0,.int .i64 0,.int .i64 0,.int .i64 0,.int .i64 0,.int .i64 0] 53)) [(w.heap.size+1,#[.string ⟨#[]⟩,.string ⟨#[]⟩,.int .i64 0,.int .i64 0,.int .i64 0,.int .i64 0,.int .i64 0,.int .i64 0,.int .i64 0],53),(w.heap.size,#[.string f,.string o,.int .i64 p0,.int .i64 p1,.int .i64 p2,.int .i64 p3,.int .i64 p4,.int .i64 p5,.int .i64 p6],53)]):=hiD (Keep.two w _ _ 53 53)
 have h1:=hu _ hk0.out.below
 have hnb:=isPow_bd hn
 have hfu:Hid (∀ W,Below w.heap.size w W→Calls Tryz.prog 121 #[.agg #[.string f,.string o,.int .i64 p0,.int .i64 p1,.int .i64 p2,.int .i64 p3,.int .i64 p4,.int .i64 p5,.int .i64 p6]] W (IsPost a 20 W)):=hiD fun W h=>factorOf_is f o p0 p1 p2 p3 p4 p5 p6 a W (htab.below h) hnf
 have hpw:Hid (∀ W x,RatIs W x a 20→Calls Tryz.prog 122 #[x,.int .i64 n] W (IsPost (a^n) 1000 W)):=hiD fun W x hx=>(pow_is x a n 20 W (by omega) (by omega) (by omega) (by omega) (fun _=>ha0) hx).mono fun e w' h=>by
  obtain ⟨y,h1,h2,h3⟩:=h
  exact ⟨y,h1,h2.more (by omega),h3⟩
 have hpl:Hid (∀ W x,Below w.heap.size w W→RatIs W x (a^n) 1000→Calls Tryz.prog 120 #[x,.agg #[.int .i64 (p0*n),.int .i64 (p1*n),.int .i64 (p2*n),.int .i64 (p3*n),.int .i64 (p4*n),.int .i64 (p5*n),.int .i64 (p6*n)]] W (UnitPost (mkT (a^n) [p0*n,p1*n,p2*n,p3*n,p4*n,p5*n,p6*n]) W)):=hiD fun W x hW hx=>plain_is x (p0*n) (p1*n) (p2*n) (p3*n) (p4*n) (p5*n) (p6*n) (a^n) 1000 W (by omega) (htab.below hW) hx
 have hip:=hiD (fun W=>isPower_any n W)
 rw [hn] at hip
 have hw:Hid (IntKind.i64.wrap (p0*n)=p0*n∧IntKind.i64.wrap (p1*n)=p1*n∧IntKind.i64.wrap (p2*n)=p2*n∧IntKind.i64.wrap (p3*n)=p3*n∧IntKind.i64.wrap (p4*n)=p4*n∧IntKind.i64.wrap (p5*n)=p5*n∧IntKind.i64.wrap (p6*n)=p6*n):=hiD ⟨wrap_mul (inR_bd hp (by simp)) hnb,wrap_mul (inR_bd hp (by simp)) hnb,wrap_mul (inR_bd hp (by simp)) hnb,wrap_mul (inR_bd hp (by simp)) hnb,wrap_mul (inR_bd hp (by simp)) hnb,wrap_mul (inR_bd hp (by simp)) hnb,wrap_mul (inR_bd hp (by simp)) hnb⟩
 generalize mkT (a^n) [p0*n,p1*n,p2*n,p3*n,p4*n,p5*n,p6*n]=res at hpl ⊢
 generalize hq:a^n=bn at hpw hpl
 clear hq htab hnf hu hp ha0 hn hnb
 go_enter Tryz.func64,Tryz.ntmps64
 go_wp2_with fail
 refine h1.out.mono ?_
 rintro e w3 ⟨rfl,hb2⟩
 have hk3:=hiD (hk0.out.next hb2)
 have hne:Hid (∀ x ∈ ([(w.heap.size+1,#[.string ⟨#[]⟩,.string ⟨#[]⟩,.int .i64 0,.int .i64 0,.int .i64 0,.int .i64 0,.int .i64 0,.int .i64 0,.int .i64 0],53),(w.heap.size,#[.string f,.string o,.int .i64 p0,.int .i64 p1,.int .i64 p2,.int .i64 p3,.int .i64 p4,.int .i64 p5,.int .i64 p6],53)]:List Blk),x.1≠w3.heap.size):=hiD (by
  have:=hk3.out.lt (List.mem_cons_self ..)
  intro x hx
  simp only [List.mem_cons,List.not_mem_nil,or_false] at hx
  dsimp only at this
  rcases hx with rfl|rfl<;>dsimp only<;>omega)
 have hge:Hid (w.heap.size≤w3.heap.size):=hiD hk3.out.below.size
 have hk4:Hid (Keep w (w3.alloc (.cells #[.int .i64 p0,.int .i64 p1,.int .i64 p2,.int .i64 p3,.int .i64 p4,.int .i64 p5,.int .i64 p6] 51)) ((w3.heap.size,i64c (powL [p0,p1,p2,p3,p4,p5,p6] n 0),51)::[(w.heap.size+1,#[.string ⟨#[]⟩,.string ⟨#[]⟩,.int .i64 0,.int .i64 0,.int .i64 0,.int .i64 0,.int .i64 0,.int .i64 0,.int .i64 0],53),(w.heap.size,#[.string f,.string o,.int .i64 p0,.int .i64 p1,.int .i64 p2,.int .i64 p3,.int .i64 p4,.int .i64 p5,.int .i64 p6],53)])):=hiD (hk3.out.more _ 51)
 have hx:=hk3.out.one _ (List.mem_cons_of_mem _ (List.mem_cons_self ..))
 dsimp only at hx
 have d0:=ceh hx 0
 have d1:=ceh hx 1
 have d2:=ceh hx 2
 have d3:=ceh hx 3
 have d4:=ceh hx 4
 have d5:=ceh hx 5
 have d6:=ceh hx 6
 have d7:=ceh hx 7
 have d8:=ceh hx 8
 clear hb2 hx
 go_wp2_with fail
 refine (hip.out _).mono ?_
 rintro e w4 ⟨rfl,rfl⟩
 go_wp2_with fail
 go_loopw [18] (fun i wr=>∃ k:Nat,k≤7∧i=.int .i64 k∧Hid (Keep w wr ((w3.heap.size,i64c (powL [p0,p1,p2,p3,p4,p5,p6] n k),51)::[(w.heap.size+1,#[.string ⟨#[]⟩,.string ⟨#[]⟩,.int .i64 0,.int .i64 0,.int .i64 0,.int .i64 0,.int .i64 0,.int .i64 0,.int .i64 0],53),(w.heap.size,#[.string f,.string o,.int .i64 p0,.int .i64 p1,.int .i64 p2,.int .i64 p3,.int .i64 p4,.int .i64 p5,.int .i64 p6],53)]))) (fun i _=>7-(intOf i).toNat)
 case atStart=>exact ⟨0,by omega,rfl,hk4⟩
 case round =>
  obtain ⟨k,hk,rfl,hkp⟩:=hrel
  match k,hk,hkp with
  | 0,_,hkp =>
   have hxg:wr.heap[w3.heap.size]?=some (.cells #[.int .i64 (p0),.int .i64 (p1),.int .i64 (p2),.int .i64 (p3),.int .i64 (p4),.int .i64 (p5),.int .i64 (p6)] 51 (0,0)):=hkp.out.one _ (List.mem_cons_self ..)
   have eg:=ceh hxg 0
   have fg:=foh hxg 0
   have hw1:=hw.out.1
   clear hxg
   go_wp2_with fail
   go_roundw
   case rel=>exact ⟨1,by omega,by go_num,hiD (hkp.out.put hge.out hne.out 0 (.int .i64 (p0*n)))⟩
   case measure=>(simp [intOf])<;>omega
  | 1,_,hkp =>
   have hxg:wr.heap[w3.heap.size]?=some (.cells #[.int .i64 (p0*n),.int .i64 (p1),.int .i64 (p2),.int .i64 (p3),.int .i64 (p4),.int .i64 (p5),.int .i64 (p6)] 51 (0,0)):=hkp.out.one _ (List.mem_cons_self ..)
   have eg:=ceh hxg 1
   have fg:=foh hxg 1
   have hw1:=hw.out.2.1
   clear hxg
   go_wp2_with fail
   go_roundw
   case rel=>exact ⟨2,by omega,by go_num,hiD (hkp.out.put hge.out hne.out 1 (.int .i64 (p1*n)))⟩
   case measure=>(simp [intOf])<;>omega
  | 2,_,hkp =>
   have hxg:wr.heap[w3.heap.size]?=some (.cells #[.int .i64 (p0*n),.int .i64 (p1*n),.int .i64 (p2),.int .i64 (p3),.int .i64 (p4),.int .i64 (p5),.int .i64 (p6)] 51 (0,0)):=hkp.out.one _ (List.mem_cons_self ..)
   have eg:=ceh hxg 2
   have fg:=foh hxg 2
   have hw1:=hw.out.2.2.1
   clear hxg
   go_wp2_with fail
   go_roundw
   case rel=>exact ⟨3,by omega,by go_num,hiD (hkp.out.put hge.out hne.out 2 (.int .i64 (p2*n)))⟩
   case measure=>(simp [intOf])<;>omega
  | 3,_,hkp =>
   have hxg:wr.heap[w3.heap.size]?=some (.cells #[.int .i64 (p0*n),.int .i64 (p1*n),.int .i64 (p2*n),.int .i64 (p3),.int .i64 (p4),.int .i64 (p5),.int .i64 (p6)] 51 (0,0)):=hkp.out.one _ (List.mem_cons_self ..)
   have eg:=ceh hxg 3
   have fg:=foh hxg 3
   have hw1:=hw.out.2.2.2.1
   clear hxg
   go_wp2_with fail
   go_roundw
   case rel=>exact ⟨4,by omega,by go_num,hiD (hkp.out.put hge.out hne.out 3 (.int .i64 (p3*n)))⟩
   case measure=>(simp [intOf])<;>omega
  | 4,_,hkp =>
   have hxg:wr.heap[w3.heap.size]?=some (.cells #[.int .i64 (p0*n),.int .i64 (p1*n),.int .i64 (p2*n),.int .i64 (p3*n),.int .i64 (p4),.int .i64 (p5),.int .i64 (p6)] 51 (0,0)):=hkp.out.one _ (List.mem_cons_self ..)
   have eg:=ceh hxg 4
   have fg:=foh hxg 4
   have hw1:=hw.out.2.2.2.2.1
   clear hxg
   go_wp2_with fail
   go_roundw
   case rel=>exact ⟨5,by omega,by go_num,hiD (hkp.out.put hge.out hne.out 4 (.int .i64 (p4*n)))⟩
   case measure=>(simp [intOf])<;>omega
  | 5,_,hkp =>
   have hxg:wr.heap[w3.heap.size]?=some (.cells #[.int .i64 (p0*n),.int .i64 (p1*n),.int .i64 (p2*n),.int .i64 (p3*n),.int .i64 (p4*n),.int .i64 (p5),.int .i64 (p6)] 51 (0,0)):=hkp.out.one _ (List.mem_cons_self ..)
   have eg:=ceh hxg 5
   have fg:=foh hxg 5
   have hw1:=hw.out.2.2.2.2.2.1
   clear hxg
   go_wp2_with fail
   go_roundw
   case rel=>exact ⟨6,by omega,by go_num,hiD (hkp.out.put hge.out hne.out 5 (.int .i64 (p5*n)))⟩
   case measure=>(simp [intOf])<;>omega
  | 6,_,hkp =>
   have hxg:wr.heap[w3.heap.size]?=some (.cells #[.int .i64 (p0*n),.int .i64 (p1*n),.int .i64 (p2*n),.int .i64 (p3*n),.int .i64 (p4*n),.int .i64 (p5*n),.int .i64 (p6)] 51 (0,0)):=hkp.out.one _ (List.mem_cons_self ..)
   have eg:=ceh hxg 6
   have fg:=foh hxg 6
   have hw1:=hw.out.2.2.2.2.2.2
   clear hxg
   go_wp2_with fail
   go_roundw
   case rel=>exact ⟨7,by omega,by go_num,hiD (hkp.out.put hge.out hne.out 6 (.int .i64 (p6*n)))⟩
   case measure=>(simp [intOf])<;>omega
  | 7,_,hkp =>
   have hk7:Hid (Keep w wr [(w3.heap.size,#[.int .i64 (p0*n),.int .i64 (p1*n),.int .i64 (p2*n),.int .i64 (p3*n),.int .i64 (p4*n),.int .i64 (p5*n),.int .i64 (p6*n)],51),(w.heap.size,#[.string f,.string o,.int .i64 p0,.int .i64 p1,.int .i64 p2,.int .i64 p3,.int .i64 p4,.int .i64 p5,.int .i64 p6],53)]):=hiD (hkp.out.sub (by intro x hx;simp only [List.mem_cons,List.not_mem_nil,or_false] at hx ⊢;rcases hx with rfl|rfl;exact .inl rfl;exact .inr (.inr rfl)))
   have hr7:Hid (ResU (w.heap.size+1) w wr):=hiD (keep_resU (hkp.out.sub (M:=[(w.heap.size+1,#[.string ⟨#[]⟩,.string ⟨#[]⟩,.int .i64 0,.int .i64 0,.int .i64 0,.int .i64 0,.int .i64 0,.int .i64 0,.int .i64 0],53)]) (by intro x hx;simp only [List.mem_cons,List.not_mem_nil,or_false] at hx ⊢;exact .inr (.inl hx))))
   have hne3:Hid (∀ x ∈ ([(w3.heap.size,#[.int .i64 (p0*n),.int .i64 (p1*n),.int .i64 (p2*n),.int .i64 (p3*n),.int .i64 (p4*n),.int .i64 (p5*n),.int .i64 (p6*n)],51),(w.heap.size,#[.string f,.string o,.int .i64 p0,.int .i64 p1,.int .i64 p2,.int .i64 p3,.int .i64 p4,.int .i64 p5,.int .i64 p6],53)]:List Blk),x.1≠w.heap.size+1):=hiD (by
    have h3:=hne.out _ (List.mem_cons_self ..)
    intro x hx
    simp only [List.mem_cons,List.not_mem_nil,or_false] at hx
    dsimp only at h3
    rcases hx with rfl|rfl<;>dsimp only<;>omega)
   have hle:w.heap.size≤w.heap.size+1:=by omega
   clear hkp
   go_wp2_with fail
   go_region_held3 (fun w'=>Keep w w' [(w3.heap.size,#[.int .i64 (p0*n),.int .i64 (p1*n),.int .i64 (p2*n),.int .i64 (p3*n),.int .i64 (p4*n),.int .i64 (p5*n),.int .i64 (p6*n)],51),(w.heap.size,#[.string f,.string o,.int .i64 p0,.int .i64 p1,.int .i64 p2,.int .i64 p3,.int .i64 p4,.int .i64 p5,.int .i64 p6],53)]∧ResU (w.heap.size+1) w w'∧w'.cell? ⟨w.heap.size,0,none⟩=some (.string f)∧w'.cell? ⟨w.heap.size,1,none⟩=some (.string o)∧w'.cell? ⟨w.heap.size,2,none⟩=some (.int .i64 p0)∧w'.cell? ⟨w.heap.size,3,none⟩=some (.int .i64 p1)∧w'.cell? ⟨w.heap.size,4,none⟩=some (.int .i64 p2)∧w'.cell? ⟨w.heap.size,5,none⟩=some (.int .i64 p3)∧w'.cell? ⟨w.heap.size,6,none⟩=some (.int .i64 p4)∧w'.cell? ⟨w.heap.size,7,none⟩=some (.int .i64 p5)∧w'.cell? ⟨w.heap.size,8,none⟩=some (.int .i64 p6)∧w'.cell? ⟨w3.heap.size,0,none⟩=some (.int .i64 (p0*n))∧w'.cell? ⟨w3.heap.size,1,none⟩=some (.int .i64 (p1*n))∧w'.cell? ⟨w3.heap.size,2,none⟩=some (.int .i64 (p2*n))∧w'.cell? ⟨w3.heap.size,3,none⟩=some (.int .i64 (p3*n))∧w'.cell? ⟨w3.heap.size,4,none⟩=some (.int .i64 (p4*n))∧w'.cell? ⟨w3.heap.size,5,none⟩=some (.int .i64 (p5*n))∧w'.cell? ⟨w3.heap.size,6,none⟩=some (.int .i64 (p6*n)))
    (first|with_reducible exact pow_all (Keep.put9_far hkk8 hle hne3.out _ _ _ _ _ _ _ _ _) (ResU.put9R hrs8 hle _ _ _ _ _ _ _ _ _)|with_reducible exact pow_all (Keep.drew hk7.out) (ResU.drew hr7.out)|(go_split_ands;with_reducible exact pow_all (Keep.next (by assumption) hb4) (ResU.next (by assumption) hb4))|(go_split_ands;with_reducible exact pow_all (Keep.next (by assumption) hb6) (ResU.next (by assumption) hb6))|(go_split_ands;with_reducible exact pow_all (Keep.next (by assumption) hb8) (ResU.next (by assumption) hb8)))
    (first|(go_at_call 121;go_split_ands;refine (hfu.out _ (Keep.below (by assumption))).mono ?_;rintro e w4 ⟨xu,rfl,hxu,hb4⟩)|(go_at_call 122;refine (hpw.out _ _ hxu).mono ?_;rintro e w6 ⟨xp,rfl,hxp,hb6⟩)|(go_at_call 120;go_split_ands;refine (hpl.out _ _ (Keep.below (by assumption)) hxp).mono ?_;rintro e w8 ⟨fr,orr,q0,q1,q2,q3,q4,q5,q6,rfl,htU,hb8⟩;have hrs8:=ResU.next (by assumption) hb8;have hkk8:=Keep.next (by assumption) hb8;obtain ⟨z0,z1,z2,z3,z4,z5,z6,z7,z8,⟨l0,l1,l2,l3,l4,l5,l6,l7,l8⟩,⟨f0,f1,f2,f3,f4,f5,f6,f7,f8⟩⟩:=ResU.slots hrs8))
   go_wp2_with fail
   have Hres2:=hiD hrs8
   have hfin:Hid (∀ W,W=((((((((((w8).setCell ⟨w.heap.size+1,0,none⟩ (.string fr)).setCell ⟨w.heap.size+1,1,none⟩ (.string orr)).setCell ⟨w.heap.size+1,2,none⟩ (.int .i64 q0)).setCell ⟨w.heap.size+1,3,none⟩ (.int .i64 q1)).setCell ⟨w.heap.size+1,4,none⟩ (.int .i64 q2)).setCell ⟨w.heap.size+1,5,none⟩ (.int .i64 q3)).setCell ⟨w.heap.size+1,6,none⟩ (.int .i64 q4)).setCell ⟨w.heap.size+1,7,none⟩ (.int .i64 q5)).setCell ⟨w.heap.size+1,8,none⟩ (.int .i64 q6))→UnitPost res w (.returned (.tuple #[.agg #[.string fr,.string orr,.int .i64 q0,.int .i64 q1,.int .i64 q2,.int .i64 q3,.int .i64 q4,.int .i64 q5,.int .i64 q6],.int .i64 res.2])) W):=hiD (by
    rintro W rfl
    exact ⟨_,_,_,_,_,_,_,_,_,rfl,htU,Hres2.out.put9 (by first|omega|(simp;done)|(simp;omega)) (.string fr) (.string orr) (.int .i64 q0) (.int .i64 q1) (.int .i64 q2) (.int .i64 q3) (.int .i64 q4) (.int .i64 q5) (.int .i64 q6)⟩)
   have hcells:=Hres2.out.put9_heap (.string fr) (.string orr) (.int .i64 q0) (.int .i64 q1) (.int .i64 q2) (.int .i64 q3) (.int .i64 q4) (.int .i64 q5) (.int .i64 q6)
   generalize (((((((((w8).setCell ⟨w.heap.size+1,0,none⟩ (.string fr)).setCell ⟨w.heap.size+1,1,none⟩ (.string orr)).setCell ⟨w.heap.size+1,2,none⟩ (.int .i64 q0)).setCell ⟨w.heap.size+1,3,none⟩ (.int .i64 q1)).setCell ⟨w.heap.size+1,4,none⟩ (.int .i64 q2)).setCell ⟨w.heap.size+1,5,none⟩ (.int .i64 q3)).setCell ⟨w.heap.size+1,6,none⟩ (.int .i64 q4)).setCell ⟨w.heap.size+1,7,none⟩ (.int .i64 q5)).setCell ⟨w.heap.size+1,8,none⟩ (.int .i64 q6)=WW at hcells hfin ⊢
   have c0:=ceh hcells 0
   have c1:=ceh hcells 1
   have c2:=ceh hcells 2
   have c3:=ceh hcells 3
   have c4:=ceh hcells 4
   have c5:=ceh hcells 5
   have c6:=ceh hcells 6
   have c7:=ceh hcells 7
   have c8:=ceh hcells 8
   refine bodyPost_ret (v:=.tuple #[.agg #[.string fr,.string orr,.int .i64 q0,.int .i64 q1,.int .i64 q2,.int .i64 q3,.int .i64 q4,.int .i64 q5,.int .i64 q6],.int .i64 res.2]) (by simp [results,Tryz.results64,go_sem,c0,c1,c2,c3,c4,c5,c6,c7,c8]) rfl ?_
   exact hfin.out _ rfl
theorem powerU_any (f o:ByteArray) (p0 p1 p2 p3 p4 p5 p6:Int) (n:Int) (w:World) (htab:Tab w):Calls Tryz.prog 64 #[.agg #[.string f,.string o,.int .i64 p0,.int .i64 p1,.int .i64 p2,.int .i64 p3,.int .i64 p4,.int .i64 p5,.int .i64 p6],.int .i64 n] w (UnitPost (powT (tU f o p0 p1 p2 p3 p4 p5 p6) n) w):=by
 cases hu:plainT (tU f o p0 p1 p2 p3 p4 p5 p6) with
 | false =>
  have h:=power_no1 f o p0 p1 p2 p3 p4 p5 p6 n w (plainIs f o p0 p1 p2 p3 p4 p5 p6 w htab _ hu)
  unfold powT;rw [hu];exact h
 | true =>
  cases hn:isPow n with
  | false =>
   have h:=power_no2 f o p0 p1 p2 p3 p4 p5 p6 n w (plainIs f o p0 p1 p2 p3 p4 p5 p6 w htab _ hu) (hiD hn)
   unfold powT;rw [hu,hn];exact h
  | true =>
   obtain ⟨u1,u2,u3,u4⟩:=plainT_iff.1 hu
   have h:=power_ok f o p0 p1 p2 p3 p4 p5 p6 n w _ (by grind) u3 u1 htab (plainIs f o p0 p1 p2 p3 p4 p5 p6 w htab _ hu) hn
   unfold powT;rw [hu,hn];exact h
end Go.Proofs.YtigicjakloiliaaGreatDoor
