/- Same of both. -/
import Derived.Test.YtigicjakloiliaaGreatDoorUP
import Derived.Laws.StructEq
import Derived.ChangeKeysEq
set_option maxHeartbeats 3200000
set_option maxRecDepth 100000
namespace Go.Proofs.YtigicjakloiliaaGreatDoor
open Go.RowKit Big
open Go.Lib
theorem powers_eq9 (p0 p1 p2 p3 p4 p5 p6 r0 r1 r2 r3 r4 r5 r6:Int) (W:World):(Op.equalIn 9999 51 (.agg #[.int .i64 p0,.int .i64 p1,.int .i64 p2,.int .i64 p3,.int .i64 p4,.int .i64 p5,.int .i64 p6]) (.agg #[.int .i64 r0,.int .i64 r1,.int .i64 r2,.int .i64 r3,.int .i64 r4,.int .i64 r5,.int .i64 r6])).run Tryz.prog W=.ok (decide ([p0,p1,p2,p3,p4,p5,p6]=[r0,r1,r2,r3,r4,r5,r6])) W:=by
 obtain ⟨i,hi⟩:=Option.isSome_iff_exists.1 (by kernel_rfl:(Tryz.prog.info? 3).isSome=true)
 have u3:=Tryz.underlying3
 rw [show (9999:Nat)=9998+1 from rfl,run_equalIn_array W 9998 _ _ Tryz.underlying51 hi]
 simp only [show List.range 7=[0,1,2,3,4,5,6] from rfl]
 have hc:Tryz.prog.cellsOf 3=1:=by kernel_rfl
 simp only [Op.eqItems,hc]
 go_simp
 by_cases h0:p0=r0
 ·by_cases h1:p1=r1
  ·by_cases h2:p2=r2
   ·by_cases h3:p3=r3
    ·by_cases h4:p4=r4
     ·by_cases h5:p5=r5
      ·by_cases h6:p6=r6
       ·simp [h0,h1,h2,h3,h4,h5,h6]
       ·simp [h0,h1,h2,h3,h4,h5,h6]
      ·simp [h0,h1,h2,h3,h4,h5]
     ·simp [h0,h1,h2,h3,h4]
    ·simp [h0,h1,h2,h3]
   ·simp [h0,h1,h2]
  ·simp [h0,h1]
 ·simp [h0]
theorem psame_0 (fu ou:ByteArray) (u0 u1 u2 u3 u4 u5 u6:Int) (fv ov:ByteArray) (v0 v1 v2 v3 v4 v5 v6:Int) (w:World) (hb1:(fu.toList==fv.toList)=false) :Calls Tryz.prog 59 #[.agg #[.string fu,.string ou,.int .i64 u0,.int .i64 u1,.int .i64 u2,.int .i64 u3,.int .i64 u4,.int .i64 u5,.int .i64 u6],.agg #[.string fv,.string ov,.int .i64 v0,.int .i64 v1,.int .i64 v2,.int .i64 v3,.int .i64 v4,.int .i64 v5,.int .i64 v6]] w fun e w'=>e=.returned (.bool false)∧Below w.heap.size w w':=by
 have K0:Hid (Keep w ((w.alloc (.cells #[.string fu,.string ou,.int .i64 u0,.int .i64 u1,.int .i64 u2,.int .i64 u3,.int .i64 u4,.int .i64 u5,.int .i64 u6] 53)).alloc (.cells #[.string fv,.string ov,.int .i64 v0,.int .i64 v1,.int .i64 v2,.int .i64 v3,.int .i64 v4,.int .i64 v5,.int .i64 v6] 53)) [(w.heap.size+1,#[.string fv,.string ov,.int .i64 v0,.int .i64 v1,.int .i64 v2,.int .i64 v3,.int .i64 v4,.int .i64 v5,.int .i64 v6],53),(w.heap.size,#[.string fu,.string ou,.int .i64 u0,.int .i64 u1,.int .i64 u2,.int .i64 u3,.int .i64 u4,.int .i64 u5,.int .i64 u6],53)]):=hiD (Keep.two w _ _ 53 53)
 have hu:=K0.out.one _ (List.mem_cons_of_mem _ (List.mem_cons_self ..))
 have hu_0:=ceh hu 0
 have hu_1:=ceh hu 1
 have hu_2:=ceh hu 2
 have hu_3:=ceh hu 3
 have hu_4:=ceh hu 4
 have hu_5:=ceh hu 5
 have hu_6:=ceh hu 6
 have hu_7:=ceh hu 7
 have hu_8:=ceh hu 8
 clear hu
 have hv:=K0.out.one _ (List.mem_cons_self ..)
 have hv_0:=ceh hv 0
 have hv_1:=ceh hv 1
 have hv_2:=ceh hv 2
 have hv_3:=ceh hv 3
 have hv_4:=ceh hv 4
 have hv_5:=ceh hv 5
 have hv_6:=ceh hv 6
 have hv_7:=ceh hv 7
 have hv_8:=ceh hv 8
 clear hv
 go_enter Tryz.func59,Tryz.ntmps59
 go_wp2_with fail
 go_ret
 exact ⟨rfl,K0.out.below⟩
theorem psame_1 (fu ou:ByteArray) (u0 u1 u2 u3 u4 u5 u6:Int) (fv ov:ByteArray) (v0 v1 v2 v3 v4 v5 v6:Int) (w:World) (hb1:(fu.toList==fv.toList)=true) (hb2:(ou.toList==ov.toList)=false) :Calls Tryz.prog 59 #[.agg #[.string fu,.string ou,.int .i64 u0,.int .i64 u1,.int .i64 u2,.int .i64 u3,.int .i64 u4,.int .i64 u5,.int .i64 u6],.agg #[.string fv,.string ov,.int .i64 v0,.int .i64 v1,.int .i64 v2,.int .i64 v3,.int .i64 v4,.int .i64 v5,.int .i64 v6]] w fun e w'=>e=.returned (.bool false)∧Below w.heap.size w w':=by
 have K0:Hid (Keep w ((w.alloc (.cells #[.string fu,.string ou,.int .i64 u0,.int .i64 u1,.int .i64 u2,.int .i64 u3,.int .i64 u4,.int .i64 u5,.int .i64 u6] 53)).alloc (.cells #[.string fv,.string ov,.int .i64 v0,.int .i64 v1,.int .i64 v2,.int .i64 v3,.int .i64 v4,.int .i64 v5,.int .i64 v6] 53)) [(w.heap.size+1,#[.string fv,.string ov,.int .i64 v0,.int .i64 v1,.int .i64 v2,.int .i64 v3,.int .i64 v4,.int .i64 v5,.int .i64 v6],53),(w.heap.size,#[.string fu,.string ou,.int .i64 u0,.int .i64 u1,.int .i64 u2,.int .i64 u3,.int .i64 u4,.int .i64 u5,.int .i64 u6],53)]):=hiD (Keep.two w _ _ 53 53)
 have hu:=K0.out.one _ (List.mem_cons_of_mem _ (List.mem_cons_self ..))
 have hu_0:=ceh hu 0
 have hu_1:=ceh hu 1
 have hu_2:=ceh hu 2
 have hu_3:=ceh hu 3
 have hu_4:=ceh hu 4
 have hu_5:=ceh hu 5
 have hu_6:=ceh hu 6
 have hu_7:=ceh hu 7
 have hu_8:=ceh hu 8
 clear hu
 have hv:=K0.out.one _ (List.mem_cons_self ..)
 have hv_0:=ceh hv 0
 have hv_1:=ceh hv 1
 have hv_2:=ceh hv 2
 have hv_3:=ceh hv 3
 have hv_4:=ceh hv 4
 have hv_5:=ceh hv 5
 have hv_6:=ceh hv 6
 have hv_7:=ceh hv 7
 have hv_8:=ceh hv 8
 clear hv
 go_enter Tryz.func59,Tryz.ntmps59
 go_wp2_with fail
 go_ret
 exact ⟨rfl,K0.out.below⟩
theorem psame_2 (fu ou:ByteArray) (u0 u1 u2 u3 u4 u5 u6:Int) (fv ov:ByteArray) (v0 v1 v2 v3 v4 v5 v6:Int) (w:World) (hb1:(fu.toList==fv.toList)=true) (hb2:(ou.toList==ov.toList)=true) (hb3:[u0,u1,u2,u3,u4,u5,u6]≠[v0,v1,v2,v3,v4,v5,v6]) :Calls Tryz.prog 59 #[.agg #[.string fu,.string ou,.int .i64 u0,.int .i64 u1,.int .i64 u2,.int .i64 u3,.int .i64 u4,.int .i64 u5,.int .i64 u6],.agg #[.string fv,.string ov,.int .i64 v0,.int .i64 v1,.int .i64 v2,.int .i64 v3,.int .i64 v4,.int .i64 v5,.int .i64 v6]] w fun e w'=>e=.returned (.bool false)∧Below w.heap.size w w':=by
 have hq:=powers_eq9 u0 u1 u2 u3 u4 u5 u6 v0 v1 v2 v3 v4 v5 v6
 rw [decide_eq_false hb3] at hq
 have K0:Hid (Keep w ((w.alloc (.cells #[.string fu,.string ou,.int .i64 u0,.int .i64 u1,.int .i64 u2,.int .i64 u3,.int .i64 u4,.int .i64 u5,.int .i64 u6] 53)).alloc (.cells #[.string fv,.string ov,.int .i64 v0,.int .i64 v1,.int .i64 v2,.int .i64 v3,.int .i64 v4,.int .i64 v5,.int .i64 v6] 53)) [(w.heap.size+1,#[.string fv,.string ov,.int .i64 v0,.int .i64 v1,.int .i64 v2,.int .i64 v3,.int .i64 v4,.int .i64 v5,.int .i64 v6],53),(w.heap.size,#[.string fu,.string ou,.int .i64 u0,.int .i64 u1,.int .i64 u2,.int .i64 u3,.int .i64 u4,.int .i64 u5,.int .i64 u6],53)]):=hiD (Keep.two w _ _ 53 53)
 have hu:=K0.out.one _ (List.mem_cons_of_mem _ (List.mem_cons_self ..))
 have hu_0:=ceh hu 0
 have hu_1:=ceh hu 1
 have hu_2:=ceh hu 2
 have hu_3:=ceh hu 3
 have hu_4:=ceh hu 4
 have hu_5:=ceh hu 5
 have hu_6:=ceh hu 6
 have hu_7:=ceh hu 7
 have hu_8:=ceh hu 8
 clear hu
 have hv:=K0.out.one _ (List.mem_cons_self ..)
 have hv_0:=ceh hv 0
 have hv_1:=ceh hv 1
 have hv_2:=ceh hv 2
 have hv_3:=ceh hv 3
 have hv_4:=ceh hv 4
 have hv_5:=ceh hv 5
 have hv_6:=ceh hv 6
 have hv_7:=ceh hv 7
 have hv_8:=ceh hv 8
 clear hv
 go_enter Tryz.func59,Tryz.ntmps59
 go_wp2_with fail
 go_ret
 exact ⟨rfl,K0.out.below⟩
theorem psame_3 (fu ou:ByteArray) (u0 u1 u2 u3 u4 u5 u6:Int) (fv ov:ByteArray) (v0 v1 v2 v3 v4 v5 v6:Int) (b:Bool) (w:World) (hb1:(fu.toList==fv.toList)=true) (hb2:(ou.toList==ov.toList)=true) (hb3:[u0,u1,u2,u3,u4,u5,u6]=[v0,v1,v2,v3,v4,v5,v6]) (h:Hid (∀ W,Below w.heap.size w W→Calls Tryz.prog 55 #[.agg #[.string fu,.string ou,.int .i64 u0,.int .i64 u1,.int .i64 u2,.int .i64 u3,.int .i64 u4,.int .i64 u5,.int .i64 u6]] W fun e w'=>e=.returned (.bool b)∧Below W.heap.size W w')):Calls Tryz.prog 59 #[.agg #[.string fu,.string ou,.int .i64 u0,.int .i64 u1,.int .i64 u2,.int .i64 u3,.int .i64 u4,.int .i64 u5,.int .i64 u6],.agg #[.string fv,.string ov,.int .i64 v0,.int .i64 v1,.int .i64 v2,.int .i64 v3,.int .i64 v4,.int .i64 v5,.int .i64 v6]] w fun e w'=>e=.returned (.bool b)∧Below w.heap.size w w':=by
 have hq:=powers_eq9 u0 u1 u2 u3 u4 u5 u6 v0 v1 v2 v3 v4 v5 v6
 rw [decide_eq_true hb3] at hq
 have K0:Hid (Keep w ((w.alloc (.cells #[.string fu,.string ou,.int .i64 u0,.int .i64 u1,.int .i64 u2,.int .i64 u3,.int .i64 u4,.int .i64 u5,.int .i64 u6] 53)).alloc (.cells #[.string fv,.string ov,.int .i64 v0,.int .i64 v1,.int .i64 v2,.int .i64 v3,.int .i64 v4,.int .i64 v5,.int .i64 v6] 53)) [(w.heap.size+1,#[.string fv,.string ov,.int .i64 v0,.int .i64 v1,.int .i64 v2,.int .i64 v3,.int .i64 v4,.int .i64 v5,.int .i64 v6],53),(w.heap.size,#[.string fu,.string ou,.int .i64 u0,.int .i64 u1,.int .i64 u2,.int .i64 u3,.int .i64 u4,.int .i64 u5,.int .i64 u6],53)]):=hiD (Keep.two w _ _ 53 53)
 have hu:=K0.out.one _ (List.mem_cons_of_mem _ (List.mem_cons_self ..))
 have hu_0:=ceh hu 0
 have hu_1:=ceh hu 1
 have hu_2:=ceh hu 2
 have hu_3:=ceh hu 3
 have hu_4:=ceh hu 4
 have hu_5:=ceh hu 5
 have hu_6:=ceh hu 6
 have hu_7:=ceh hu 7
 have hu_8:=ceh hu 8
 clear hu
 have hv:=K0.out.one _ (List.mem_cons_self ..)
 have hv_0:=ceh hv 0
 have hv_1:=ceh hv 1
 have hv_2:=ceh hv 2
 have hv_3:=ceh hv 3
 have hv_4:=ceh hv 4
 have hv_5:=ceh hv 5
 have hv_6:=ceh hv 6
 have hv_7:=ceh hv 7
 have hv_8:=ceh hv 8
 clear hv
 go_enter Tryz.func59,Tryz.ntmps59
 go_wp2_with fail
 refine (h.out _ K0.out.below).mono ?_
 rintro e w1 ⟨rfl,hb⟩
 have K1:=hiD (K0.out.next hb)
 clear hb K0 hu_0 hu_1 hu_2 hu_3 hu_4 hu_5 hu_6 hu_7 hu_8 hv_0 hv_1 hv_2 hv_3 hv_4 hv_5 hv_6 hv_7 hv_8
 go_wp2_with fail
 go_ret
 exact ⟨rfl,K1.out.below⟩
theorem rsame_n (fu ou:ByteArray) (u0 u1 u2 u3 u4 u5 u6:Int) (fv ov:ByteArray) (v0 v1 v2 v3 v4 v5 v6:Int) (w:World) (h:Hid (∀ W,Below w.heap.size w W→Calls Tryz.prog 58 #[.agg #[.string fu,.string ou,.int .i64 u0,.int .i64 u1,.int .i64 u2,.int .i64 u3,.int .i64 u4,.int .i64 u5,.int .i64 u6]] W fun e w'=>e=.returned (.bool false)∧Below W.heap.size W w')):Calls Tryz.prog 66 #[.agg #[.string fu,.string ou,.int .i64 u0,.int .i64 u1,.int .i64 u2,.int .i64 u3,.int .i64 u4,.int .i64 u5,.int .i64 u6],.agg #[.string fv,.string ov,.int .i64 v0,.int .i64 v1,.int .i64 v2,.int .i64 v3,.int .i64 v4,.int .i64 v5,.int .i64 v6]] w fun e w'=>e=.returned (.bool false)∧Below w.heap.size w w':=by
 have K0:Hid (Keep w ((w.alloc (.cells #[.string fu,.string ou,.int .i64 u0,.int .i64 u1,.int .i64 u2,.int .i64 u3,.int .i64 u4,.int .i64 u5,.int .i64 u6] 53)).alloc (.cells #[.string fv,.string ov,.int .i64 v0,.int .i64 v1,.int .i64 v2,.int .i64 v3,.int .i64 v4,.int .i64 v5,.int .i64 v6] 53)) [(w.heap.size+1,#[.string fv,.string ov,.int .i64 v0,.int .i64 v1,.int .i64 v2,.int .i64 v3,.int .i64 v4,.int .i64 v5,.int .i64 v6],53),(w.heap.size,#[.string fu,.string ou,.int .i64 u0,.int .i64 u1,.int .i64 u2,.int .i64 u3,.int .i64 u4,.int .i64 u5,.int .i64 u6],53)]):=hiD (Keep.two w _ _ 53 53)
 have hu:=K0.out.one _ (List.mem_cons_of_mem _ (List.mem_cons_self ..))
 have hu_0:=ceh hu 0
 have hu_1:=ceh hu 1
 have hu_2:=ceh hu 2
 have hu_3:=ceh hu 3
 have hu_4:=ceh hu 4
 have hu_5:=ceh hu 5
 have hu_6:=ceh hu 6
 have hu_7:=ceh hu 7
 have hu_8:=ceh hu 8
 clear hu
 have hv:=K0.out.one _ (List.mem_cons_self ..)
 have hv_0:=ceh hv 0
 have hv_1:=ceh hv 1
 have hv_2:=ceh hv 2
 have hv_3:=ceh hv 3
 have hv_4:=ceh hv 4
 have hv_5:=ceh hv 5
 have hv_6:=ceh hv 6
 have hv_7:=ceh hv 7
 have hv_8:=ceh hv 8
 clear hv
 go_enter Tryz.func66,Tryz.ntmps66
 go_wp2_with fail
 refine (h.out _ K0.out.below).mono ?_
 rintro e w1 ⟨rfl,hb⟩
 have K1:=hiD (K0.out.next hb)
 clear hb K0 hu_0 hu_1 hu_2 hu_3 hu_4 hu_5 hu_6 hu_7 hu_8 hv_0 hv_1 hv_2 hv_3 hv_4 hv_5 hv_6 hv_7 hv_8
 go_wp2_with fail
 go_ret
 exact ⟨rfl,K1.out.below⟩
theorem rsame_0 (fu ou:ByteArray) (u0 u1 u2 u3 u4 u5 u6:Int) (fv ov:ByteArray) (v0 v1 v2 v3 v4 v5 v6:Int) (w:World) (hb1:(fu.toList==fv.toList)=false) (h:Hid (∀ W,Below w.heap.size w W→Calls Tryz.prog 58 #[.agg #[.string fu,.string ou,.int .i64 u0,.int .i64 u1,.int .i64 u2,.int .i64 u3,.int .i64 u4,.int .i64 u5,.int .i64 u6]] W fun e w'=>e=.returned (.bool true)∧Below W.heap.size W w')):Calls Tryz.prog 66 #[.agg #[.string fu,.string ou,.int .i64 u0,.int .i64 u1,.int .i64 u2,.int .i64 u3,.int .i64 u4,.int .i64 u5,.int .i64 u6],.agg #[.string fv,.string ov,.int .i64 v0,.int .i64 v1,.int .i64 v2,.int .i64 v3,.int .i64 v4,.int .i64 v5,.int .i64 v6]] w fun e w'=>e=.returned (.bool false)∧Below w.heap.size w w':=by
 have K0:Hid (Keep w ((w.alloc (.cells #[.string fu,.string ou,.int .i64 u0,.int .i64 u1,.int .i64 u2,.int .i64 u3,.int .i64 u4,.int .i64 u5,.int .i64 u6] 53)).alloc (.cells #[.string fv,.string ov,.int .i64 v0,.int .i64 v1,.int .i64 v2,.int .i64 v3,.int .i64 v4,.int .i64 v5,.int .i64 v6] 53)) [(w.heap.size+1,#[.string fv,.string ov,.int .i64 v0,.int .i64 v1,.int .i64 v2,.int .i64 v3,.int .i64 v4,.int .i64 v5,.int .i64 v6],53),(w.heap.size,#[.string fu,.string ou,.int .i64 u0,.int .i64 u1,.int .i64 u2,.int .i64 u3,.int .i64 u4,.int .i64 u5,.int .i64 u6],53)]):=hiD (Keep.two w _ _ 53 53)
 have hu:=K0.out.one _ (List.mem_cons_of_mem _ (List.mem_cons_self ..))
 have hu_0:=ceh hu 0
 have hu_1:=ceh hu 1
 have hu_2:=ceh hu 2
 have hu_3:=ceh hu 3
 have hu_4:=ceh hu 4
 have hu_5:=ceh hu 5
 have hu_6:=ceh hu 6
 have hu_7:=ceh hu 7
 have hu_8:=ceh hu 8
 clear hu
 have hv:=K0.out.one _ (List.mem_cons_self ..)
 have hv_0:=ceh hv 0
 have hv_1:=ceh hv 1
 have hv_2:=ceh hv 2
 have hv_3:=ceh hv 3
 have hv_4:=ceh hv 4
 have hv_5:=ceh hv 5
 have hv_6:=ceh hv 6
 have hv_7:=ceh hv 7
 have hv_8:=ceh hv 8
 clear hv
 go_enter Tryz.func66,Tryz.ntmps66
 go_wp2_with fail
 refine (h.out _ K0.out.below).mono ?_
 rintro e w1 ⟨rfl,hb⟩
 have K1:=hiD (K0.out.next hb)
 clear hb K0 hu_0 hu_1 hu_2 hu_3 hu_4 hu_5 hu_6 hu_7 hu_8 hv_0 hv_1 hv_2 hv_3 hv_4 hv_5 hv_6 hv_7 hv_8
 have hu:=K1.out.one _ (List.mem_cons_of_mem _ (List.mem_cons_self ..))
 have hu_0:=ceh hu 0
 have hu_1:=ceh hu 1
 have hu_2:=ceh hu 2
 have hu_3:=ceh hu 3
 have hu_4:=ceh hu 4
 have hu_5:=ceh hu 5
 have hu_6:=ceh hu 6
 have hu_7:=ceh hu 7
 have hu_8:=ceh hu 8
 clear hu
 have hv:=K1.out.one _ (List.mem_cons_self ..)
 have hv_0:=ceh hv 0
 have hv_1:=ceh hv 1
 have hv_2:=ceh hv 2
 have hv_3:=ceh hv 3
 have hv_4:=ceh hv 4
 have hv_5:=ceh hv 5
 have hv_6:=ceh hv 6
 have hv_7:=ceh hv 7
 have hv_8:=ceh hv 8
 clear hv
 go_wp2_with fail
 go_ret
 exact ⟨rfl,K1.out.below⟩
theorem rsame_1 (fu ou:ByteArray) (u0 u1 u2 u3 u4 u5 u6:Int) (fv ov:ByteArray) (v0 v1 v2 v3 v4 v5 v6:Int) (w:World) (hb1:(fu.toList==fv.toList)=true) (hb2:(ou.toList==ov.toList)=false) (h:Hid (∀ W,Below w.heap.size w W→Calls Tryz.prog 58 #[.agg #[.string fu,.string ou,.int .i64 u0,.int .i64 u1,.int .i64 u2,.int .i64 u3,.int .i64 u4,.int .i64 u5,.int .i64 u6]] W fun e w'=>e=.returned (.bool true)∧Below W.heap.size W w')):Calls Tryz.prog 66 #[.agg #[.string fu,.string ou,.int .i64 u0,.int .i64 u1,.int .i64 u2,.int .i64 u3,.int .i64 u4,.int .i64 u5,.int .i64 u6],.agg #[.string fv,.string ov,.int .i64 v0,.int .i64 v1,.int .i64 v2,.int .i64 v3,.int .i64 v4,.int .i64 v5,.int .i64 v6]] w fun e w'=>e=.returned (.bool false)∧Below w.heap.size w w':=by
 have K0:Hid (Keep w ((w.alloc (.cells #[.string fu,.string ou,.int .i64 u0,.int .i64 u1,.int .i64 u2,.int .i64 u3,.int .i64 u4,.int .i64 u5,.int .i64 u6] 53)).alloc (.cells #[.string fv,.string ov,.int .i64 v0,.int .i64 v1,.int .i64 v2,.int .i64 v3,.int .i64 v4,.int .i64 v5,.int .i64 v6] 53)) [(w.heap.size+1,#[.string fv,.string ov,.int .i64 v0,.int .i64 v1,.int .i64 v2,.int .i64 v3,.int .i64 v4,.int .i64 v5,.int .i64 v6],53),(w.heap.size,#[.string fu,.string ou,.int .i64 u0,.int .i64 u1,.int .i64 u2,.int .i64 u3,.int .i64 u4,.int .i64 u5,.int .i64 u6],53)]):=hiD (Keep.two w _ _ 53 53)
 have hu:=K0.out.one _ (List.mem_cons_of_mem _ (List.mem_cons_self ..))
 have hu_0:=ceh hu 0
 have hu_1:=ceh hu 1
 have hu_2:=ceh hu 2
 have hu_3:=ceh hu 3
 have hu_4:=ceh hu 4
 have hu_5:=ceh hu 5
 have hu_6:=ceh hu 6
 have hu_7:=ceh hu 7
 have hu_8:=ceh hu 8
 clear hu
 have hv:=K0.out.one _ (List.mem_cons_self ..)
 have hv_0:=ceh hv 0
 have hv_1:=ceh hv 1
 have hv_2:=ceh hv 2
 have hv_3:=ceh hv 3
 have hv_4:=ceh hv 4
 have hv_5:=ceh hv 5
 have hv_6:=ceh hv 6
 have hv_7:=ceh hv 7
 have hv_8:=ceh hv 8
 clear hv
 go_enter Tryz.func66,Tryz.ntmps66
 go_wp2_with fail
 refine (h.out _ K0.out.below).mono ?_
 rintro e w1 ⟨rfl,hb⟩
 have K1:=hiD (K0.out.next hb)
 clear hb K0 hu_0 hu_1 hu_2 hu_3 hu_4 hu_5 hu_6 hu_7 hu_8 hv_0 hv_1 hv_2 hv_3 hv_4 hv_5 hv_6 hv_7 hv_8
 have hu:=K1.out.one _ (List.mem_cons_of_mem _ (List.mem_cons_self ..))
 have hu_0:=ceh hu 0
 have hu_1:=ceh hu 1
 have hu_2:=ceh hu 2
 have hu_3:=ceh hu 3
 have hu_4:=ceh hu 4
 have hu_5:=ceh hu 5
 have hu_6:=ceh hu 6
 have hu_7:=ceh hu 7
 have hu_8:=ceh hu 8
 clear hu
 have hv:=K1.out.one _ (List.mem_cons_self ..)
 have hv_0:=ceh hv 0
 have hv_1:=ceh hv 1
 have hv_2:=ceh hv 2
 have hv_3:=ceh hv 3
 have hv_4:=ceh hv 4
 have hv_5:=ceh hv 5
 have hv_6:=ceh hv 6
 have hv_7:=ceh hv 7
 have hv_8:=ceh hv 8
 clear hv
 go_wp2_with fail
 go_ret
 exact ⟨rfl,K1.out.below⟩
theorem rsame_2 (fu ou:ByteArray) (u0 u1 u2 u3 u4 u5 u6:Int) (fv ov:ByteArray) (v0 v1 v2 v3 v4 v5 v6:Int) (w:World) (hb1:(fu.toList==fv.toList)=true) (hb2:(ou.toList==ov.toList)=true) (hb3:[u0,u1,u2,u3,u4,u5,u6]≠[v0,v1,v2,v3,v4,v5,v6]) (h:Hid (∀ W,Below w.heap.size w W→Calls Tryz.prog 58 #[.agg #[.string fu,.string ou,.int .i64 u0,.int .i64 u1,.int .i64 u2,.int .i64 u3,.int .i64 u4,.int .i64 u5,.int .i64 u6]] W fun e w'=>e=.returned (.bool true)∧Below W.heap.size W w')):Calls Tryz.prog 66 #[.agg #[.string fu,.string ou,.int .i64 u0,.int .i64 u1,.int .i64 u2,.int .i64 u3,.int .i64 u4,.int .i64 u5,.int .i64 u6],.agg #[.string fv,.string ov,.int .i64 v0,.int .i64 v1,.int .i64 v2,.int .i64 v3,.int .i64 v4,.int .i64 v5,.int .i64 v6]] w fun e w'=>e=.returned (.bool false)∧Below w.heap.size w w':=by
 have hq:=powers_eq9 u0 u1 u2 u3 u4 u5 u6 v0 v1 v2 v3 v4 v5 v6
 rw [decide_eq_false hb3] at hq
 have K0:Hid (Keep w ((w.alloc (.cells #[.string fu,.string ou,.int .i64 u0,.int .i64 u1,.int .i64 u2,.int .i64 u3,.int .i64 u4,.int .i64 u5,.int .i64 u6] 53)).alloc (.cells #[.string fv,.string ov,.int .i64 v0,.int .i64 v1,.int .i64 v2,.int .i64 v3,.int .i64 v4,.int .i64 v5,.int .i64 v6] 53)) [(w.heap.size+1,#[.string fv,.string ov,.int .i64 v0,.int .i64 v1,.int .i64 v2,.int .i64 v3,.int .i64 v4,.int .i64 v5,.int .i64 v6],53),(w.heap.size,#[.string fu,.string ou,.int .i64 u0,.int .i64 u1,.int .i64 u2,.int .i64 u3,.int .i64 u4,.int .i64 u5,.int .i64 u6],53)]):=hiD (Keep.two w _ _ 53 53)
 have hu:=K0.out.one _ (List.mem_cons_of_mem _ (List.mem_cons_self ..))
 have hu_0:=ceh hu 0
 have hu_1:=ceh hu 1
 have hu_2:=ceh hu 2
 have hu_3:=ceh hu 3
 have hu_4:=ceh hu 4
 have hu_5:=ceh hu 5
 have hu_6:=ceh hu 6
 have hu_7:=ceh hu 7
 have hu_8:=ceh hu 8
 clear hu
 have hv:=K0.out.one _ (List.mem_cons_self ..)
 have hv_0:=ceh hv 0
 have hv_1:=ceh hv 1
 have hv_2:=ceh hv 2
 have hv_3:=ceh hv 3
 have hv_4:=ceh hv 4
 have hv_5:=ceh hv 5
 have hv_6:=ceh hv 6
 have hv_7:=ceh hv 7
 have hv_8:=ceh hv 8
 clear hv
 go_enter Tryz.func66,Tryz.ntmps66
 go_wp2_with fail
 refine (h.out _ K0.out.below).mono ?_
 rintro e w1 ⟨rfl,hb⟩
 have K1:=hiD (K0.out.next hb)
 clear hb K0 hu_0 hu_1 hu_2 hu_3 hu_4 hu_5 hu_6 hu_7 hu_8 hv_0 hv_1 hv_2 hv_3 hv_4 hv_5 hv_6 hv_7 hv_8
 have hu:=K1.out.one _ (List.mem_cons_of_mem _ (List.mem_cons_self ..))
 have hu_0:=ceh hu 0
 have hu_1:=ceh hu 1
 have hu_2:=ceh hu 2
 have hu_3:=ceh hu 3
 have hu_4:=ceh hu 4
 have hu_5:=ceh hu 5
 have hu_6:=ceh hu 6
 have hu_7:=ceh hu 7
 have hu_8:=ceh hu 8
 clear hu
 have hv:=K1.out.one _ (List.mem_cons_self ..)
 have hv_0:=ceh hv 0
 have hv_1:=ceh hv 1
 have hv_2:=ceh hv 2
 have hv_3:=ceh hv 3
 have hv_4:=ceh hv 4
 have hv_5:=ceh hv 5
 have hv_6:=ceh hv 6
 have hv_7:=ceh hv 7
 have hv_8:=ceh hv 8
 clear hv
 go_wp2_with fail
 go_ret
 exact ⟨rfl,K1.out.below⟩
theorem rsame_3 (fu ou:ByteArray) (u0 u1 u2 u3 u4 u5 u6:Int) (fv ov:ByteArray) (v0 v1 v2 v3 v4 v5 v6:Int) (w:World) (hb1:(fu.toList==fv.toList)=true) (hb2:(ou.toList==ov.toList)=true) (hb3:[u0,u1,u2,u3,u4,u5,u6]=[v0,v1,v2,v3,v4,v5,v6]) (h:Hid (∀ W,Below w.heap.size w W→Calls Tryz.prog 58 #[.agg #[.string fu,.string ou,.int .i64 u0,.int .i64 u1,.int .i64 u2,.int .i64 u3,.int .i64 u4,.int .i64 u5,.int .i64 u6]] W fun e w'=>e=.returned (.bool true)∧Below W.heap.size W w')):Calls Tryz.prog 66 #[.agg #[.string fu,.string ou,.int .i64 u0,.int .i64 u1,.int .i64 u2,.int .i64 u3,.int .i64 u4,.int .i64 u5,.int .i64 u6],.agg #[.string fv,.string ov,.int .i64 v0,.int .i64 v1,.int .i64 v2,.int .i64 v3,.int .i64 v4,.int .i64 v5,.int .i64 v6]] w fun e w'=>e=.returned (.bool true)∧Below w.heap.size w w':=by
 have hq:=powers_eq9 u0 u1 u2 u3 u4 u5 u6 v0 v1 v2 v3 v4 v5 v6
 rw [decide_eq_true hb3] at hq
 have K0:Hid (Keep w ((w.alloc (.cells #[.string fu,.string ou,.int .i64 u0,.int .i64 u1,.int .i64 u2,.int .i64 u3,.int .i64 u4,.int .i64 u5,.int .i64 u6] 53)).alloc (.cells #[.string fv,.string ov,.int .i64 v0,.int .i64 v1,.int .i64 v2,.int .i64 v3,.int .i64 v4,.int .i64 v5,.int .i64 v6] 53)) [(w.heap.size+1,#[.string fv,.string ov,.int .i64 v0,.int .i64 v1,.int .i64 v2,.int .i64 v3,.int .i64 v4,.int .i64 v5,.int .i64 v6],53),(w.heap.size,#[.string fu,.string ou,.int .i64 u0,.int .i64 u1,.int .i64 u2,.int .i64 u3,.int .i64 u4,.int .i64 u5,.int .i64 u6],53)]):=hiD (Keep.two w _ _ 53 53)
 have hu:=K0.out.one _ (List.mem_cons_of_mem _ (List.mem_cons_self ..))
 have hu_0:=ceh hu 0
 have hu_1:=ceh hu 1
 have hu_2:=ceh hu 2
 have hu_3:=ceh hu 3
 have hu_4:=ceh hu 4
 have hu_5:=ceh hu 5
 have hu_6:=ceh hu 6
 have hu_7:=ceh hu 7
 have hu_8:=ceh hu 8
 clear hu
 have hv:=K0.out.one _ (List.mem_cons_self ..)
 have hv_0:=ceh hv 0
 have hv_1:=ceh hv 1
 have hv_2:=ceh hv 2
 have hv_3:=ceh hv 3
 have hv_4:=ceh hv 4
 have hv_5:=ceh hv 5
 have hv_6:=ceh hv 6
 have hv_7:=ceh hv 7
 have hv_8:=ceh hv 8
 clear hv
 go_enter Tryz.func66,Tryz.ntmps66
 go_wp2_with fail
 refine (h.out _ K0.out.below).mono ?_
 rintro e w1 ⟨rfl,hb⟩
 have K1:=hiD (K0.out.next hb)
 clear hb K0 hu_0 hu_1 hu_2 hu_3 hu_4 hu_5 hu_6 hu_7 hu_8 hv_0 hv_1 hv_2 hv_3 hv_4 hv_5 hv_6 hv_7 hv_8
 have hu:=K1.out.one _ (List.mem_cons_of_mem _ (List.mem_cons_self ..))
 have hu_0:=ceh hu 0
 have hu_1:=ceh hu 1
 have hu_2:=ceh hu 2
 have hu_3:=ceh hu 3
 have hu_4:=ceh hu 4
 have hu_5:=ceh hu 5
 have hu_6:=ceh hu 6
 have hu_7:=ceh hu 7
 have hu_8:=ceh hu 8
 clear hu
 have hv:=K1.out.one _ (List.mem_cons_self ..)
 have hv_0:=ceh hv 0
 have hv_1:=ceh hv 1
 have hv_2:=ceh hv 2
 have hv_3:=ceh hv 3
 have hv_4:=ceh hv 4
 have hv_5:=ceh hv 5
 have hv_6:=ceh hv 6
 have hv_7:=ceh hv 7
 have hv_8:=ceh hv 8
 clear hv
 go_wp2_with fail
 go_ret
 exact ⟨rfl,K1.out.below⟩
theorem same_both (fu ou:ByteArray) (u0 u1 u2 u3 u4 u5 u6:Int) (fv ov:ByteArray) (v0 v1 v2 v3 v4 v5 v6:Int) (w:World) (htab:Tab w):(Calls Tryz.prog 59 #[.agg #[.string fu,.string ou,.int .i64 u0,.int .i64 u1,.int .i64 u2,.int .i64 u3,.int .i64 u4,.int .i64 u5,.int .i64 u6],.agg #[.string fv,.string ov,.int .i64 v0,.int .i64 v1,.int .i64 v2,.int .i64 v3,.int .i64 v4,.int .i64 v5,.int .i64 v6]] w fun e w'=>e=.returned (.bool (((fu.toList==fv.toList)&&(ou.toList==ov.toList)&&decide ([u0,u1,u2,u3,u4,u5,u6]=[v0,v1,v2,v3,v4,v5,v6]))&&validT (tU fu ou u0 u1 u2 u3 u4 u5 u6)))∧Below w.heap.size w w')∧(Calls Tryz.prog 66 #[.agg #[.string fu,.string ou,.int .i64 u0,.int .i64 u1,.int .i64 u2,.int .i64 u3,.int .i64 u4,.int .i64 u5,.int .i64 u6],.agg #[.string fv,.string ov,.int .i64 v0,.int .i64 v1,.int .i64 v2,.int .i64 v3,.int .i64 v4,.int .i64 v5,.int .i64 v6]] w fun e w'=>e=.returned (.bool (((fu.toList==fv.toList)&&(ou.toList==ov.toList)&&decide ([u0,u1,u2,u3,u4,u5,u6]=[v0,v1,v2,v3,v4,v5,v6]))&&validT (tU fu ou u0 u1 u2 u3 u4 u5 u6)))∧Below w.heap.size w w'):=by
 have hp:=fun W (hb:Below w.heap.size w W)=>validUnit_any fu ou u0 u1 u2 u3 u4 u5 u6 W (htab.below hb)
 have hr:=fun W (_:Below w.heap.size w W)=>rvu_any fu ou u0 u1 u2 u3 u4 u5 u6 W
 generalize validT (tU fu ou u0 u1 u2 u3 u4 u5 u6)=b at hp hr ⊢
 cases h1:(fu.toList==fv.toList) with
 | false =>
  refine ⟨psame_0 fu ou u0 u1 u2 u3 u4 u5 u6 fv ov v0 v1 v2 v3 v4 v5 v6 w h1,?_⟩
  cases b with
  | false=>exact rsame_n fu ou u0 u1 u2 u3 u4 u5 u6 fv ov v0 v1 v2 v3 v4 v5 v6 w (hiD hr)
  | true=>exact rsame_0 fu ou u0 u1 u2 u3 u4 u5 u6 fv ov v0 v1 v2 v3 v4 v5 v6 w h1 (hiD hr)
 | true =>
  cases h2:(ou.toList==ov.toList) with
  | false =>
   refine ⟨psame_1 fu ou u0 u1 u2 u3 u4 u5 u6 fv ov v0 v1 v2 v3 v4 v5 v6 w h1 h2,?_⟩
   cases b with
   | false=>exact rsame_n fu ou u0 u1 u2 u3 u4 u5 u6 fv ov v0 v1 v2 v3 v4 v5 v6 w (hiD hr)
   | true=>exact rsame_1 fu ou u0 u1 u2 u3 u4 u5 u6 fv ov v0 v1 v2 v3 v4 v5 v6 w h1 h2 (hiD hr)
  | true =>
   by_cases h3:[u0,u1,u2,u3,u4,u5,u6]=[v0,v1,v2,v3,v4,v5,v6]
   ·rw [decide_eq_true h3]
    refine ⟨psame_3 fu ou u0 u1 u2 u3 u4 u5 u6 fv ov v0 v1 v2 v3 v4 v5 v6 b w h1 h2 h3 (hiD hp),?_⟩
    cases b with
    | false=>exact rsame_n fu ou u0 u1 u2 u3 u4 u5 u6 fv ov v0 v1 v2 v3 v4 v5 v6 w (hiD hr)
    | true=>exact rsame_3 fu ou u0 u1 u2 u3 u4 u5 u6 fv ov v0 v1 v2 v3 v4 v5 v6 w h1 h2 h3 (hiD hr)
   ·rw [decide_eq_false h3]
    refine ⟨psame_2 fu ou u0 u1 u2 u3 u4 u5 u6 fv ov v0 v1 v2 v3 v4 v5 v6 w h1 h2 h3,?_⟩
    cases b with
    | false=>exact rsame_n fu ou u0 u1 u2 u3 u4 u5 u6 fv ov v0 v1 v2 v3 v4 v5 v6 w (hiD hr)
    | true=>exact rsame_2 fu ou u0 u1 u2 u3 u4 u5 u6 fv ov v0 v1 v2 v3 v4 v5 v6 w h1 h2 h3 (hiD hr)
end Go.Proofs.YtigicjakloiliaaGreatDoor
