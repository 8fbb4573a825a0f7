/- The document's Times, Over, Power, NoUnit. -/
import Derived.Test.YtigicjakloiliaaGreatDoorUL
set_option maxHeartbeats 3200000
set_option maxRecDepth 100000
namespace Go.Proofs.YtigicjakloiliaaGreatDoor
open Go.RowKit Big
open Go.Lib
theorem rtimes_walk (fu ou:ByteArray) (u0 u1 u2 u3 u4 u5 u6:Int) (fv ov:ByteArray) (v0 v1 v2 v3 v4 v5 v6:Int) (fa oa:ByteArray) (a0 a1 a2 a3 a4 a5 a6:Int) (code:Int) (w:World) (h:Hid (∀ W,Below w.heap.size w W→Calls Tryz.prog 118 #[.agg #[.string fu,.string ou,.int .i64 u0,.int .i64 u1,.int .i64 u2,.int .i64 u3,.int .i64 u4,.int .i64 u5,.int .i64 u6],.agg #[.string fv,.string ov,.int .i64 v0,.int .i64 v1,.int .i64 v2,.int .i64 v3,.int .i64 v4,.int .i64 v5,.int .i64 v6],.int .i64 1] W fun e w'=>e=.returned (.tuple #[.agg #[.string fa,.string oa,.int .i64 a0,.int .i64 a1,.int .i64 a2,.int .i64 a3,.int .i64 a4,.int .i64 a5,.int .i64 a6],.int .i64 code])∧Below W.heap.size W w')):Calls Tryz.prog 61 #[.agg #[.string fu,.string ou,.int .i64 u0,.int .i64 u1,.int .i64 u2,.int .i64 u3,.int .i64 u4,.int .i64 u5,.int .i64 u6],.agg #[.string fv,.string ov,.int .i64 v0,.int .i64 v1,.int .i64 v2,.int .i64 v3,.int .i64 v4,.int .i64 v5,.int .i64 v6]] w fun e w'=>e=.returned (.tuple #[.agg #[.string fa,.string oa,.int .i64 a0,.int .i64 a1,.int .i64 a2,.int .i64 a3,.int .i64 a4,.int .i64 a5,.int .i64 a6],.int .i64 code])∧Below w.heap.size w w':=by
 have KP:Hid (Keep w (((w.alloc (.cells #[.string fu,.string ou,.int .i64 u0,.int .i64 u1,.int .i64 u2,.int .i64 u3,.int .i64 u4,.int .i64 u5,.int .i64 u6] 53)).alloc (.cells #[.string fv,.string ov,.int .i64 v0,.int .i64 v1,.int .i64 v2,.int .i64 v3,.int .i64 v4,.int .i64 v5,.int .i64 v6] 53)).alloc (.cells #[.string ⟨#[]⟩,.string ⟨#[]⟩,.int .i64 0,.int .i64 0,.int .i64 0,.int .i64 0,.int .i64 0,.int .i64 0,.int .i64 0] 53)) [(w.heap.size+1,#[.string fv,.string ov,.int .i64 v0,.int .i64 v1,.int .i64 v2,.int .i64 v3,.int .i64 v4,.int .i64 v5,.int .i64 v6],53),(w.heap.size,#[.string fu,.string ou,.int .i64 u0,.int .i64 u1,.int .i64 u2,.int .i64 u3,.int .i64 u4,.int .i64 u5,.int .i64 u6],53)]∧ResU (w.heap.size+1+1) w (((w.alloc (.cells #[.string fu,.string ou,.int .i64 u0,.int .i64 u1,.int .i64 u2,.int .i64 u3,.int .i64 u4,.int .i64 u5,.int .i64 u6] 53)).alloc (.cells #[.string fv,.string ov,.int .i64 v0,.int .i64 v1,.int .i64 v2,.int .i64 v3,.int .i64 v4,.int .i64 v5,.int .i64 v6] 53)).alloc (.cells #[.string ⟨#[]⟩,.string ⟨#[]⟩,.int .i64 0,.int .i64 0,.int .i64 0,.int .i64 0,.int .i64 0,.int .i64 0,.int .i64 0] 53))):=hiD (by
  have h0:=(((Keep.nil w).more #[.string fu,.string ou,.int .i64 u0,.int .i64 u1,.int .i64 u2,.int .i64 u3,.int .i64 u4,.int .i64 u5,.int .i64 u6] 53).more #[.string fv,.string ov,.int .i64 v0,.int .i64 v1,.int .i64 v2,.int .i64 v3,.int .i64 v4,.int .i64 v5,.int .i64 v6] 53).more #[.string ⟨#[]⟩,.string ⟨#[]⟩,.int .i64 0,.int .i64 0,.int .i64 0,.int .i64 0,.int .i64 0,.int .i64 0,.int .i64 0] 53
  rw [show ((w.alloc (.cells #[.string fu,.string ou,.int .i64 u0,.int .i64 u1,.int .i64 u2,.int .i64 u3,.int .i64 u4,.int .i64 u5,.int .i64 u6] 53)).alloc (.cells #[.string fv,.string ov,.int .i64 v0,.int .i64 v1,.int .i64 v2,.int .i64 v3,.int .i64 v4,.int .i64 v5,.int .i64 v6] 53)).heap.size=w.heap.size+1+1 from by simp,show (w.alloc (.cells #[.string fu,.string ou,.int .i64 u0,.int .i64 u1,.int .i64 u2,.int .i64 u3,.int .i64 u4,.int .i64 u5,.int .i64 u6] 53)).heap.size=w.heap.size+1 from by simp] at h0
  exact ⟨h0.sub (fun x hx=>List.mem_cons_of_mem _ hx),by simp,h0.below,_,_,_,_,_,_,_,_,_,h0.one _ (List.mem_cons_self ..)⟩)
 have hu:=KP.out.1.one _ (List.mem_cons_of_mem _ (List.mem_cons_self ..))
 have hu_0:=ceh hu 0
 have hu_1:=ceh hu 1
 have hu_2:=ceh hu 2
 have hu_3:=ceh hu 3
 have hu_4:=ceh hu 4
 have hu_5:=ceh hu 5
 have hu_6:=ceh hu 6
 have hu_7:=ceh hu 7
 have hu_8:=ceh hu 8
 clear hu
 have hv:=KP.out.1.one _ (List.mem_cons_self ..)
 have hv_0:=ceh hv 0
 have hv_1:=ceh hv 1
 have hv_2:=ceh hv 2
 have hv_3:=ceh hv 3
 have hv_4:=ceh hv 4
 have hv_5:=ceh hv 5
 have hv_6:=ceh hv 6
 have hv_7:=ceh hv 7
 have hv_8:=ceh hv 8
 clear hv
 go_enter Tryz.func61,Tryz.ntmps61
 go_wp2_with fail
 refine (h.out _ KP.out.1.below).mono ?_
 rintro e w1 ⟨rfl,hb⟩
 have K1:=hiD (KP.out.2.next hb)
 clear hb KP hu_0 hu_1 hu_2 hu_3 hu_4 hu_5 hu_6 hu_7 hu_8 hv_0 hv_1 hv_2 hv_3 hv_4 hv_5 hv_6 hv_7 hv_8
 obtain ⟨z0,z1,z2,z3,z4,z5,z6,z7,z8,hz⟩:=(K1.out).z
 have k0:=ceh hz 0
 have e0:=foh hz 0
 have k1:=ceh hz 1
 have e1:=foh hz 1
 have k2:=ceh hz 2
 have e2:=foh hz 2
 have k3:=ceh hz 3
 have e3:=foh hz 3
 have k4:=ceh hz 4
 have e4:=foh hz 4
 have k5:=ceh hz 5
 have e5:=foh hz 5
 have k6:=ceh hz 6
 have e6:=foh hz 6
 have k7:=ceh hz 7
 have e7:=foh hz 7
 have k8:=ceh hz 8
 have e8:=foh hz 8
 have HF:=hiD ((K1.out).put9 (by omega) (.string fa) (.string oa) (.int .i64 a0) (.int .i64 a1) (.int .i64 a2) (.int .i64 a3) (.int .i64 a4) (.int .i64 a5) (.int .i64 a6))
 clear hz K1
 go_wp2_with fail
 refine bodyPost_ret (v:=.tuple #[.agg #[.string fa,.string oa,.int .i64 a0,.int .i64 a1,.int .i64 a2,.int .i64 a3,.int .i64 a4,.int .i64 a5,.int .i64 a6],.int .i64 code]) (by simp [results,Tryz.results61,go_sem,k0,k1,k2,k3,k4,k5,k6,k7,k8]) rfl ?_
 exact ⟨rfl,HF.out⟩
theorem rover_walk (fu ou:ByteArray) (u0 u1 u2 u3 u4 u5 u6:Int) (fv ov:ByteArray) (v0 v1 v2 v3 v4 v5 v6:Int) (fa oa:ByteArray) (a0 a1 a2 a3 a4 a5 a6:Int) (code:Int) (w:World) (h:Hid (∀ W,Below w.heap.size w W→Calls Tryz.prog 118 #[.agg #[.string fu,.string ou,.int .i64 u0,.int .i64 u1,.int .i64 u2,.int .i64 u3,.int .i64 u4,.int .i64 u5,.int .i64 u6],.agg #[.string fv,.string ov,.int .i64 v0,.int .i64 v1,.int .i64 v2,.int .i64 v3,.int .i64 v4,.int .i64 v5,.int .i64 v6],.int .i64 (-1)] W fun e w'=>e=.returned (.tuple #[.agg #[.string fa,.string oa,.int .i64 a0,.int .i64 a1,.int .i64 a2,.int .i64 a3,.int .i64 a4,.int .i64 a5,.int .i64 a6],.int .i64 code])∧Below W.heap.size W w')):Calls Tryz.prog 63 #[.agg #[.string fu,.string ou,.int .i64 u0,.int .i64 u1,.int .i64 u2,.int .i64 u3,.int .i64 u4,.int .i64 u5,.int .i64 u6],.agg #[.string fv,.string ov,.int .i64 v0,.int .i64 v1,.int .i64 v2,.int .i64 v3,.int .i64 v4,.int .i64 v5,.int .i64 v6]] w fun e w'=>e=.returned (.tuple #[.agg #[.string fa,.string oa,.int .i64 a0,.int .i64 a1,.int .i64 a2,.int .i64 a3,.int .i64 a4,.int .i64 a5,.int .i64 a6],.int .i64 code])∧Below w.heap.size w w':=by
 have KP:Hid (Keep w (((w.alloc (.cells #[.string fu,.string ou,.int .i64 u0,.int .i64 u1,.int .i64 u2,.int .i64 u3,.int .i64 u4,.int .i64 u5,.int .i64 u6] 53)).alloc (.cells #[.string fv,.string ov,.int .i64 v0,.int .i64 v1,.int .i64 v2,.int .i64 v3,.int .i64 v4,.int .i64 v5,.int .i64 v6] 53)).alloc (.cells #[.string ⟨#[]⟩,.string ⟨#[]⟩,.int .i64 0,.int .i64 0,.int .i64 0,.int .i64 0,.int .i64 0,.int .i64 0,.int .i64 0] 53)) [(w.heap.size+1,#[.string fv,.string ov,.int .i64 v0,.int .i64 v1,.int .i64 v2,.int .i64 v3,.int .i64 v4,.int .i64 v5,.int .i64 v6],53),(w.heap.size,#[.string fu,.string ou,.int .i64 u0,.int .i64 u1,.int .i64 u2,.int .i64 u3,.int .i64 u4,.int .i64 u5,.int .i64 u6],53)]∧ResU (w.heap.size+1+1) w (((w.alloc (.cells #[.string fu,.string ou,.int .i64 u0,.int .i64 u1,.int .i64 u2,.int .i64 u3,.int .i64 u4,.int .i64 u5,.int .i64 u6] 53)).alloc (.cells #[.string fv,.string ov,.int .i64 v0,.int .i64 v1,.int .i64 v2,.int .i64 v3,.int .i64 v4,.int .i64 v5,.int .i64 v6] 53)).alloc (.cells #[.string ⟨#[]⟩,.string ⟨#[]⟩,.int .i64 0,.int .i64 0,.int .i64 0,.int .i64 0,.int .i64 0,.int .i64 0,.int .i64 0] 53))):=hiD (by
  have h0:=(((Keep.nil w).more #[.string fu,.string ou,.int .i64 u0,.int .i64 u1,.int .i64 u2,.int .i64 u3,.int .i64 u4,.int .i64 u5,.int .i64 u6] 53).more #[.string fv,.string ov,.int .i64 v0,.int .i64 v1,.int .i64 v2,.int .i64 v3,.int .i64 v4,.int .i64 v5,.int .i64 v6] 53).more #[.string ⟨#[]⟩,.string ⟨#[]⟩,.int .i64 0,.int .i64 0,.int .i64 0,.int .i64 0,.int .i64 0,.int .i64 0,.int .i64 0] 53
  rw [show ((w.alloc (.cells #[.string fu,.string ou,.int .i64 u0,.int .i64 u1,.int .i64 u2,.int .i64 u3,.int .i64 u4,.int .i64 u5,.int .i64 u6] 53)).alloc (.cells #[.string fv,.string ov,.int .i64 v0,.int .i64 v1,.int .i64 v2,.int .i64 v3,.int .i64 v4,.int .i64 v5,.int .i64 v6] 53)).heap.size=w.heap.size+1+1 from by simp,show (w.alloc (.cells #[.string fu,.string ou,.int .i64 u0,.int .i64 u1,.int .i64 u2,.int .i64 u3,.int .i64 u4,.int .i64 u5,.int .i64 u6] 53)).heap.size=w.heap.size+1 from by simp] at h0
  exact ⟨h0.sub (fun x hx=>List.mem_cons_of_mem _ hx),by simp,h0.below,_,_,_,_,_,_,_,_,_,h0.one _ (List.mem_cons_self ..)⟩)
 have hu:=KP.out.1.one _ (List.mem_cons_of_mem _ (List.mem_cons_self ..))
 have hu_0:=ceh hu 0
 have hu_1:=ceh hu 1
 have hu_2:=ceh hu 2
 have hu_3:=ceh hu 3
 have hu_4:=ceh hu 4
 have hu_5:=ceh hu 5
 have hu_6:=ceh hu 6
 have hu_7:=ceh hu 7
 have hu_8:=ceh hu 8
 clear hu
 have hv:=KP.out.1.one _ (List.mem_cons_self ..)
 have hv_0:=ceh hv 0
 have hv_1:=ceh hv 1
 have hv_2:=ceh hv 2
 have hv_3:=ceh hv 3
 have hv_4:=ceh hv 4
 have hv_5:=ceh hv 5
 have hv_6:=ceh hv 6
 have hv_7:=ceh hv 7
 have hv_8:=ceh hv 8
 clear hv
 go_enter Tryz.func63,Tryz.ntmps63
 go_wp2_with fail
 refine (h.out _ KP.out.1.below).mono ?_
 rintro e w1 ⟨rfl,hb⟩
 have K1:=hiD (KP.out.2.next hb)
 clear hb KP hu_0 hu_1 hu_2 hu_3 hu_4 hu_5 hu_6 hu_7 hu_8 hv_0 hv_1 hv_2 hv_3 hv_4 hv_5 hv_6 hv_7 hv_8
 obtain ⟨z0,z1,z2,z3,z4,z5,z6,z7,z8,hz⟩:=(K1.out).z
 have k0:=ceh hz 0
 have e0:=foh hz 0
 have k1:=ceh hz 1
 have e1:=foh hz 1
 have k2:=ceh hz 2
 have e2:=foh hz 2
 have k3:=ceh hz 3
 have e3:=foh hz 3
 have k4:=ceh hz 4
 have e4:=foh hz 4
 have k5:=ceh hz 5
 have e5:=foh hz 5
 have k6:=ceh hz 6
 have e6:=foh hz 6
 have k7:=ceh hz 7
 have e7:=foh hz 7
 have k8:=ceh hz 8
 have e8:=foh hz 8
 have HF:=hiD ((K1.out).put9 (by omega) (.string fa) (.string oa) (.int .i64 a0) (.int .i64 a1) (.int .i64 a2) (.int .i64 a3) (.int .i64 a4) (.int .i64 a5) (.int .i64 a6))
 clear hz K1
 go_wp2_with fail
 refine bodyPost_ret (v:=.tuple #[.agg #[.string fa,.string oa,.int .i64 a0,.int .i64 a1,.int .i64 a2,.int .i64 a3,.int .i64 a4,.int .i64 a5,.int .i64 a6],.int .i64 code]) (by simp [results,Tryz.results63,go_sem,k0,k1,k2,k3,k4,k5,k6,k7,k8]) rfl ?_
 exact ⟨rfl,HF.out⟩
theorem rpower_no1 (fu ou:ByteArray) (u0 u1 u2 u3 u4 u5 u6:Int) (n:Int) (w:World) (hp:Hid (∀ W,Below w.heap.size w W→Calls Tryz.prog 115 #[.agg #[.string fu,.string ou,.int .i64 u0,.int .i64 u1,.int .i64 u2,.int .i64 u3,.int .i64 u4,.int .i64 u5,.int .i64 u6]] W fun e w'=>e=.returned (.bool false)∧Below W.heap.size W w')):Calls Tryz.prog 65 #[.agg #[.string fu,.string ou,.int .i64 u0,.int .i64 u1,.int .i64 u2,.int .i64 u3,.int .i64 u4,.int .i64 u5,.int .i64 u6],.int .i64 n] w fun e w'=>e=.returned (.tuple #[.agg #[.string ⟨#[]⟩,.string ⟨#[]⟩,.int .i64 0,.int .i64 0,.int .i64 0,.int .i64 0,.int .i64 0,.int .i64 0,.int .i64 0],.int .i64 10])∧Below w.heap.size w w':=by
 have KP:Hid (Keep w ((w.alloc (.cells #[.string fu,.string ou,.int .i64 u0,.int .i64 u1,.int .i64 u2,.int .i64 u3,.int .i64 u4,.int .i64 u5,.int .i64 u6] 53)).alloc (.cells #[.string ⟨#[]⟩,.string ⟨#[]⟩,.int .i64 0,.int .i64 0,.int .i64 0,.int .i64 0,.int .i64 0,.int .i64 0,.int .i64 0] 53)) [(w.heap.size,#[.string fu,.string ou,.int .i64 u0,.int .i64 u1,.int .i64 u2,.int .i64 u3,.int .i64 u4,.int .i64 u5,.int .i64 u6],53)]∧ResU (w.heap.size+1) w ((w.alloc (.cells #[.string fu,.string ou,.int .i64 u0,.int .i64 u1,.int .i64 u2,.int .i64 u3,.int .i64 u4,.int .i64 u5,.int .i64 u6] 53)).alloc (.cells #[.string ⟨#[]⟩,.string ⟨#[]⟩,.int .i64 0,.int .i64 0,.int .i64 0,.int .i64 0,.int .i64 0,.int .i64 0,.int .i64 0] 53))):=hiD (by
  have h0:=((Keep.nil w).more #[.string fu,.string ou,.int .i64 u0,.int .i64 u1,.int .i64 u2,.int .i64 u3,.int .i64 u4,.int .i64 u5,.int .i64 u6] 53).more #[.string ⟨#[]⟩,.string ⟨#[]⟩,.int .i64 0,.int .i64 0,.int .i64 0,.int .i64 0,.int .i64 0,.int .i64 0,.int .i64 0] 53
  rw [show (w.alloc (.cells #[.string fu,.string ou,.int .i64 u0,.int .i64 u1,.int .i64 u2,.int .i64 u3,.int .i64 u4,.int .i64 u5,.int .i64 u6] 53)).heap.size=w.heap.size+1 from by simp] at h0
  exact ⟨h0.sub (fun x hx=>List.mem_cons_of_mem _ hx),by simp,h0.below,_,_,_,_,_,_,_,_,_,h0.one _ (List.mem_cons_self ..)⟩)
 have hu:=KP.out.1.one _ (List.mem_cons_self ..)
 have hu_0:=ceh hu 0
 have hu_1:=ceh hu 1
 have hu_2:=ceh hu 2
 have hu_3:=ceh hu 3
 have hu_4:=ceh hu 4
 have hu_5:=ceh hu 5
 have hu_6:=ceh hu 6
 have hu_7:=ceh hu 7
 have hu_8:=ceh hu 8
 clear hu
 go_enter Tryz.func65,Tryz.ntmps65
 go_wp2_with fail
 refine (hp.out _ KP.out.1.below).mono ?_
 rintro e w1 ⟨rfl,hb⟩
 have K1:=hiD (And.intro (KP.out.1.next hb) (KP.out.2.next hb))
 clear hb KP hu_0 hu_1 hu_2 hu_3 hu_4 hu_5 hu_6 hu_7 hu_8
 obtain ⟨z0,z1,z2,z3,z4,z5,z6,z7,z8,hz⟩:=(K1.out.2).z
 have k0:=ceh hz 0
 have e0:=foh hz 0
 have k1:=ceh hz 1
 have e1:=foh hz 1
 have k2:=ceh hz 2
 have e2:=foh hz 2
 have k3:=ceh hz 3
 have e3:=foh hz 3
 have k4:=ceh hz 4
 have e4:=foh hz 4
 have k5:=ceh hz 5
 have e5:=foh hz 5
 have k6:=ceh hz 6
 have e6:=foh hz 6
 have k7:=ceh hz 7
 have e7:=foh hz 7
 have k8:=ceh hz 8
 have e8:=foh hz 8
 have HF:=hiD ((K1.out.2).put9 (by omega) (.string ⟨#[]⟩) (.string ⟨#[]⟩) (.int .i64 0) (.int .i64 0) (.int .i64 0) (.int .i64 0) (.int .i64 0) (.int .i64 0) (.int .i64 0))
 clear hz K1
 go_wp2_with fail
 refine bodyPost_ret (v:=.tuple #[.agg #[.string ⟨#[]⟩,.string ⟨#[]⟩,.int .i64 0,.int .i64 0,.int .i64 0,.int .i64 0,.int .i64 0,.int .i64 0,.int .i64 0],.int .i64 10]) (by simp [results,Tryz.results65,go_sem,k0,k1,k2,k3,k4,k5,k6,k7,k8]) rfl ?_
 exact ⟨rfl,HF.out⟩
theorem rpower_no2 (fu ou:ByteArray) (u0 u1 u2 u3 u4 u5 u6:Int) (n:Int) (w:World) (hp:Hid (∀ W,Below w.heap.size w W→Calls Tryz.prog 115 #[.agg #[.string fu,.string ou,.int .i64 u0,.int .i64 u1,.int .i64 u2,.int .i64 u3,.int .i64 u4,.int .i64 u5,.int .i64 u6]] W fun e w'=>e=.returned (.bool true)∧Below W.heap.size W w')) (hn:Hid (∀ W,Calls Tryz.prog 109 #[.int .i64 n] W fun e w'=>e=.returned (.bool false)∧W=w')):Calls Tryz.prog 65 #[.agg #[.string fu,.string ou,.int .i64 u0,.int .i64 u1,.int .i64 u2,.int .i64 u3,.int .i64 u4,.int .i64 u5,.int .i64 u6],.int .i64 n] w fun e w'=>e=.returned (.tuple #[.agg #[.string ⟨#[]⟩,.string ⟨#[]⟩,.int .i64 0,.int .i64 0,.int .i64 0,.int .i64 0,.int .i64 0,.int .i64 0,.int .i64 0],.int .i64 2])∧Below w.heap.size w w':=by
 have KP:Hid (Keep w ((w.alloc (.cells #[.string fu,.string ou,.int .i64 u0,.int .i64 u1,.int .i64 u2,.int .i64 u3,.int .i64 u4,.int .i64 u5,.int .i64 u6] 53)).alloc (.cells #[.string ⟨#[]⟩,.string ⟨#[]⟩,.int .i64 0,.int .i64 0,.int .i64 0,.int .i64 0,.int .i64 0,.int .i64 0,.int .i64 0] 53)) [(w.heap.size,#[.string fu,.string ou,.int .i64 u0,.int .i64 u1,.int .i64 u2,.int .i64 u3,.int .i64 u4,.int .i64 u5,.int .i64 u6],53)]∧ResU (w.heap.size+1) w ((w.alloc (.cells #[.string fu,.string ou,.int .i64 u0,.int .i64 u1,.int .i64 u2,.int .i64 u3,.int .i64 u4,.int .i64 u5,.int .i64 u6] 53)).alloc (.cells #[.string ⟨#[]⟩,.string ⟨#[]⟩,.int .i64 0,.int .i64 0,.int .i64 0,.int .i64 0,.int .i64 0,.int .i64 0,.int .i64 0] 53))):=hiD (by
  have h0:=((Keep.nil w).more #[.string fu,.string ou,.int .i64 u0,.int .i64 u1,.int .i64 u2,.int .i64 u3,.int .i64 u4,.int .i64 u5,.int .i64 u6] 53).more #[.string ⟨#[]⟩,.string ⟨#[]⟩,.int .i64 0,.int .i64 0,.int .i64 0,.int .i64 0,.int .i64 0,.int .i64 0,.int .i64 0] 53
  rw [show (w.alloc (.cells #[.string fu,.string ou,.int .i64 u0,.int .i64 u1,.int .i64 u2,.int .i64 u3,.int .i64 u4,.int .i64 u5,.int .i64 u6] 53)).heap.size=w.heap.size+1 from by simp] at h0
  exact ⟨h0.sub (fun x hx=>List.mem_cons_of_mem _ hx),by simp,h0.below,_,_,_,_,_,_,_,_,_,h0.one _ (List.mem_cons_self ..)⟩)
 have hu:=KP.out.1.one _ (List.mem_cons_self ..)
 have hu_0:=ceh hu 0
 have hu_1:=ceh hu 1
 have hu_2:=ceh hu 2
 have hu_3:=ceh hu 3
 have hu_4:=ceh hu 4
 have hu_5:=ceh hu 5
 have hu_6:=ceh hu 6
 have hu_7:=ceh hu 7
 have hu_8:=ceh hu 8
 clear hu
 go_enter Tryz.func65,Tryz.ntmps65
 go_wp2_with fail
 refine (hp.out _ KP.out.1.below).mono ?_
 rintro e w1 ⟨rfl,hb⟩
 have K1:=hiD (And.intro (KP.out.1.next hb) (KP.out.2.next hb))
 clear hb KP hu_0 hu_1 hu_2 hu_3 hu_4 hu_5 hu_6 hu_7 hu_8
 go_wp2_with fail
 refine (hn.out _).mono ?_
 rintro e w2 ⟨rfl,rfl⟩
 obtain ⟨z0,z1,z2,z3,z4,z5,z6,z7,z8,hz⟩:=(K1.out.2).z
 have k0:=ceh hz 0
 have e0:=foh hz 0
 have k1:=ceh hz 1
 have e1:=foh hz 1
 have k2:=ceh hz 2
 have e2:=foh hz 2
 have k3:=ceh hz 3
 have e3:=foh hz 3
 have k4:=ceh hz 4
 have e4:=foh hz 4
 have k5:=ceh hz 5
 have e5:=foh hz 5
 have k6:=ceh hz 6
 have e6:=foh hz 6
 have k7:=ceh hz 7
 have e7:=foh hz 7
 have k8:=ceh hz 8
 have e8:=foh hz 8
 have HF:=hiD ((K1.out.2).put9 (by omega) (.string ⟨#[]⟩) (.string ⟨#[]⟩) (.int .i64 0) (.int .i64 0) (.int .i64 0) (.int .i64 0) (.int .i64 0) (.int .i64 0) (.int .i64 0))
 clear hz K1
 go_wp2_with fail
 refine bodyPost_ret (v:=.tuple #[.agg #[.string ⟨#[]⟩,.string ⟨#[]⟩,.int .i64 0,.int .i64 0,.int .i64 0,.int .i64 0,.int .i64 0,.int .i64 0,.int .i64 0],.int .i64 2]) (by simp [results,Tryz.results65,go_sem,k0,k1,k2,k3,k4,k5,k6,k7,k8]) rfl ?_
 exact ⟨rfl,HF.out⟩
theorem rnounit_any (w:World):Calls Tryz.prog 123 #[] w fun e w'=>e=.returned (.agg #[.string ⟨#[49]⟩,.string ⟨#[48]⟩,.int .i64 0,.int .i64 0,.int .i64 0,.int .i64 0,.int .i64 0,.int .i64 0,.int .i64 0])∧Below w.heap.size w w':=by
 have hb:=hiD (bea w (.cells #[.string ⟨#[49]⟩,.string ⟨#[48]⟩,.int .i64 0,.int .i64 0,.int .i64 0,.int .i64 0,.int .i64 0,.int .i64 0,.int .i64 0] 53))
 go_enter Tryz.func123,Tryz.ntmps123
 go_wp2_with fail
 refine bodyPost_ret (v:=.agg #[.string ⟨#[49]⟩,.string ⟨#[48]⟩,.int .i64 0,.int .i64 0,.int .i64 0,.int .i64 0,.int .i64 0,.int .i64 0,.int .i64 0]) (by simp [results,Tryz.results123,go_sem]) rfl ?_
 exact ⟨rfl,hb.out⟩
theorem Keep.set1 {w0 W:World} {L:List Blk} (h:Keep w0 W L) {g:Nat} (hg:w0.heap.size≤g) (hne:∀ x ∈ L,x.1≠g) (k:Nat) (a:Value):Keep w0 (W.setCell ⟨g,k,none⟩ a) L :=
 ⟨h.below.setCell hg _,fun x hx=>(Below.heap_setCell _ _ _ _ (hne x hx)).trans (h.all x hx)⟩
theorem Keep.far9 {w0 W:World} {L:List Blk} (h:Keep w0 W L) {g:Nat} (hg:w0.heap.size≤g) (hne:∀ x ∈ L,x.1≠g) (a0 a1 a2 a3 a4 a5 a6 a7 a8:Value):Keep w0 (((((((((W.setCell ⟨g,0,none⟩ a0).setCell ⟨g,1,none⟩ a1).setCell ⟨g,2,none⟩ a2).setCell ⟨g,3,none⟩ a3).setCell ⟨g,4,none⟩ a4).setCell ⟨g,5,none⟩ a5).setCell ⟨g,6,none⟩ a6).setCell ⟨g,7,none⟩ a7).setCell ⟨g,8,none⟩ a8) L:=(((((((((h.set1 hg hne 0 a0).set1 hg hne 1 a1).set1 hg hne 2 a2).set1 hg hne 3 a3).set1 hg hne 4 a4).set1 hg hne 5 a5).set1 hg hne 6 a6).set1 hg hne 7 a7).set1 hg hne 8 a8)
theorem Keep.anew {w0 W:World} {L:List Blk} {g:Nat} {d0 d1 d2 d3 d4 d5 d6 d7 d8:Value} (h:Keep w0 W ((g,#[d0,d1,d2,d3,d4,d5,d6,d7,d8],53)::L)) (hg:w0.heap.size≤g) (hne:∀ x ∈ L,x.1≠g) (a0 a1 a2 a3 a4 a5 a6 a7 a8:Value):Keep w0 (((((((((W.setCell ⟨g,0,none⟩ a0).setCell ⟨g,1,none⟩ a1).setCell ⟨g,2,none⟩ a2).setCell ⟨g,3,none⟩ a3).setCell ⟨g,4,none⟩ a4).setCell ⟨g,5,none⟩ a5).setCell ⟨g,6,none⟩ a6).setCell ⟨g,7,none⟩ a7).setCell ⟨g,8,none⟩ a8) ((g,#[a0,a1,a2,a3,a4,a5,a6,a7,a8],53)::L):=by
 have h1:=(h.sub fun x hx=>List.mem_cons_of_mem _ hx).far9 hg hne a0 a1 a2 a3 a4 a5 a6 a7 a8
 have h2:=ResU.put9_heap (w0:=w0) ⟨h.lt (List.mem_cons_self ..),h.below,_,_,_,_,_,_,_,_,_,h.one _ (List.mem_cons_self ..)⟩ a0 a1 a2 a3 a4 a5 a6 a7 a8
 exact ⟨h1.below,fun x hx=>by
  rcases List.mem_cons.1 hx with rfl|hx
  ·exact h2
  ·exact h1.all x hx⟩
theorem rpower_ok (fu ou:ByteArray) (u0 u1 u2 u3 u4 u5 u6:Int) (fa oa:ByteArray) (a0 a1 a2 a3 a4 a5 a6:Int) (n code:Int) (w:World) (hp:Hid (∀ W,Below w.heap.size w W→Calls Tryz.prog 115 #[.agg #[.string fu,.string ou,.int .i64 u0,.int .i64 u1,.int .i64 u2,.int .i64 u3,.int .i64 u4,.int .i64 u5,.int .i64 u6]] W fun e w'=>e=.returned (.bool true)∧Below W.heap.size W w')) (hn:Hid (∀ W,Calls Tryz.prog 109 #[.int .i64 n] W fun e w'=>e=.returned (.bool true)∧W=w'))
  (h123:Hid (∀ W,Calls Tryz.prog 123 #[] W fun e w'=>e=.returned (.agg #[.string ⟨#[49]⟩,.string ⟨#[48]⟩,.int .i64 0,.int .i64 0,.int .i64 0,.int .i64 0,.int .i64 0,.int .i64 0,.int .i64 0])∧Below W.heap.size W w')) (h118:Hid (∀ W,Below w.heap.size w W→Calls Tryz.prog 118 #[.agg #[.string ⟨#[49]⟩,.string ⟨#[48]⟩,.int .i64 0,.int .i64 0,.int .i64 0,.int .i64 0,.int .i64 0,.int .i64 0,.int .i64 0],.agg #[.string fu,.string ou,.int .i64 u0,.int .i64 u1,.int .i64 u2,.int .i64 u3,.int .i64 u4,.int .i64 u5,.int .i64 u6],.int .i64 n] W fun e w'=>e=.returned (.tuple #[.agg #[.string fa,.string oa,.int .i64 a0,.int .i64 a1,.int .i64 a2,.int .i64 a3,.int .i64 a4,.int .i64 a5,.int .i64 a6],.int .i64 code])∧Below W.heap.size W w')):Calls Tryz.prog 65 #[.agg #[.string fu,.string ou,.int .i64 u0,.int .i64 u1,.int .i64 u2,.int .i64 u3,.int .i64 u4,.int .i64 u5,.int .i64 u6],.int .i64 n] w fun e w'=>e=.returned (.tuple #[.agg #[.string fa,.string oa,.int .i64 a0,.int .i64 a1,.int .i64 a2,.int .i64 a3,.int .i64 a4,.int .i64 a5,.int .i64 a6],.int .i64 code])∧Below w.heap.size w w':=by
 have KP:Hid (Keep w ((w.alloc (.cells #[.string fu,.string ou,.int .i64 u0,.int .i64 u1,.int .i64 u2,.int .i64 u3,.int .i64 u4,.int .i64 u5,.int .i64 u6] 53)).alloc (.cells #[.string ⟨#[]⟩,.string ⟨#[]⟩,.int .i64 0,.int .i64 0,.int .i64 0,.int .i64 0,.int .i64 0,.int .i64 0,.int .i64 0] 53)) [(w.heap.size,#[.string fu,.string ou,.int .i64 u0,.int .i64 u1,.int .i64 u2,.int .i64 u3,.int .i64 u4,.int .i64 u5,.int .i64 u6],53)]∧ResU (w.heap.size+1) w ((w.alloc (.cells #[.string fu,.string ou,.int .i64 u0,.int .i64 u1,.int .i64 u2,.int .i64 u3,.int .i64 u4,.int .i64 u5,.int .i64 u6] 53)).alloc (.cells #[.string ⟨#[]⟩,.string ⟨#[]⟩,.int .i64 0,.int .i64 0,.int .i64 0,.int .i64 0,.int .i64 0,.int .i64 0,.int .i64 0] 53))):=hiD (by
  have h0:=((Keep.nil w).more #[.string fu,.string ou,.int .i64 u0,.int .i64 u1,.int .i64 u2,.int .i64 u3,.int .i64 u4,.int .i64 u5,.int .i64 u6] 53).more #[.string ⟨#[]⟩,.string ⟨#[]⟩,.int .i64 0,.int .i64 0,.int .i64 0,.int .i64 0,.int .i64 0,.int .i64 0,.int .i64 0] 53
  rw [show (w.alloc (.cells #[.string fu,.string ou,.int .i64 u0,.int .i64 u1,.int .i64 u2,.int .i64 u3,.int .i64 u4,.int .i64 u5,.int .i64 u6] 53)).heap.size=w.heap.size+1 from by simp] at h0
  exact ⟨h0.sub (fun x hx=>List.mem_cons_of_mem _ hx),by simp,h0.below,_,_,_,_,_,_,_,_,_,h0.one _ (List.mem_cons_self ..)⟩)
 have hu:=KP.out.1.one _ (List.mem_cons_self ..)
 have hu_0:=ceh hu 0
 have hu_1:=ceh hu 1
 have hu_2:=ceh hu 2
 have hu_3:=ceh hu 3
 have hu_4:=ceh hu 4
 have hu_5:=ceh hu 5
 have hu_6:=ceh hu 6
 have hu_7:=ceh hu 7
 have hu_8:=ceh hu 8
 clear hu
 go_enter Tryz.func65,Tryz.ntmps65
 go_wp2_with fail
 refine (hp.out _ KP.out.1.below).mono ?_
 rintro e w1 ⟨rfl,hb⟩
 have K1:=hiD (And.intro (KP.out.1.next hb) (KP.out.2.next hb))
 clear hb KP hu_0 hu_1 hu_2 hu_3 hu_4 hu_5 hu_6 hu_7 hu_8
 go_wp2_with fail
 refine (hn.out _).mono ?_
 rintro e w2 ⟨rfl,rfl⟩
 go_wp2_with fail
 have KB:Hid (∀ W,Keep w W [(w.heap.size,#[.string fu,.string ou,.int .i64 u0,.int .i64 u1,.int .i64 u2,.int .i64 u3,.int .i64 u4,.int .i64 u5,.int .i64 u6],53)]→ResU (w.heap.size+1) w W→((fun w'=>(Keep w w' [(w.heap.size,#[.string fu,.string ou,.int .i64 u0,.int .i64 u1,.int .i64 u2,.int .i64 u3,.int .i64 u4,.int .i64 u5,.int .i64 u6],53)]∧ResU (w.heap.size+1) w w')∧w'.cell? ⟨w.heap.size,0,none⟩=some (.string fu)∧w'.cell? ⟨w.heap.size,1,none⟩=some (.string ou)∧w'.cell? ⟨w.heap.size,2,none⟩=some (.int .i64 u0)∧w'.cell? ⟨w.heap.size,3,none⟩=some (.int .i64 u1)∧w'.cell? ⟨w.heap.size,4,none⟩=some (.int .i64 u2)∧w'.cell? ⟨w.heap.size,5,none⟩=some (.int .i64 u3)∧w'.cell? ⟨w.heap.size,6,none⟩=some (.int .i64 u4)∧w'.cell? ⟨w.heap.size,7,none⟩=some (.int .i64 u5)∧w'.cell? ⟨w.heap.size,8,none⟩=some (.int .i64 u6)) W)):=hiD fun W h hr=>⟨⟨h,hr⟩,ceh (h.one _ (List.mem_cons_self ..)) 0,ceh (h.one _ (List.mem_cons_self ..)) 1,ceh (h.one _ (List.mem_cons_self ..)) 2,ceh (h.one _ (List.mem_cons_self ..)) 3,ceh (h.one _ (List.mem_cons_self ..)) 4,ceh (h.one _ (List.mem_cons_self ..)) 5,ceh (h.one _ (List.mem_cons_self ..)) 6,ceh (h.one _ (List.mem_cons_self ..)) 7,ceh (h.one _ (List.mem_cons_self ..)) 8⟩
 refine wp_region_held_drew (S:=fun w'=>(Keep w w' [(w.heap.size,#[.string fu,.string ou,.int .i64 u0,.int .i64 u1,.int .i64 u2,.int .i64 u3,.int .i64 u4,.int .i64 u5,.int .i64 u6],53)]∧ResU (w.heap.size+1) w w')∧w'.cell? ⟨w.heap.size,0,none⟩=some (.string fu)∧w'.cell? ⟨w.heap.size,1,none⟩=some (.string ou)∧w'.cell? ⟨w.heap.size,2,none⟩=some (.int .i64 u0)∧w'.cell? ⟨w.heap.size,3,none⟩=some (.int .i64 u1)∧w'.cell? ⟨w.heap.size,4,none⟩=some (.int .i64 u2)∧w'.cell? ⟨w.heap.size,5,none⟩=some (.int .i64 u3)∧w'.cell? ⟨w.heap.size,6,none⟩=some (.int .i64 u4)∧w'.cell? ⟨w.heap.size,7,none⟩=some (.int .i64 u5)∧w'.cell? ⟨w.heap.size,8,none⟩=some (.int .i64 u6)) (by kernel_rfl) (KB.out _ K1.out.1.drew K1.out.2.drew) (fun hHeld=>?_)
 clear K1
 refine wpAnyH_take (i:=1) (v:=(.agg #[.string fu,.string ou,.int .i64 u0,.int .i64 u1,.int .i64 u2,.int .i64 u3,.int .i64 u4,.int .i64 u5,.int .i64 u6])) rfl (by kernel_rfl) (by kernel_rfl) (by kernel_rfl) (fun _ _ _ h=>h) (Or.inl ⟨by rfl,by intro W hSw;clear hHeld;go_split_ands;go_simp⟩) (by assumption) ?_
 simp only [List.getElem_toArray,List.getElem_cons_zero,List.getElem_cons_succ,Act.put,List.setIfInBounds_toArray,List.set_cons_zero,List.set_cons_succ]
 refine wpAnyH_take (i:=2) (v:=(.int .i64 n)) rfl (by kernel_rfl) (by kernel_rfl) (by kernel_rfl) (fun _ _ _ h=>h) (Or.inl ⟨by rfl,by intro W hSw;clear hHeld;go_split_ands;go_simp⟩) (by assumption) ?_
 simp only [List.getElem_toArray,List.getElem_cons_zero,List.getElem_cons_succ,Act.put,List.setIfInBounds_toArray,List.set_cons_zero,List.set_cons_succ]
 refine wpAnyH_ready (rs:=[0]) (by kernel_rfl) (by simp) ?_
 refine AllReadyH.cons (i:=0) rfl (fun K hK=>?_) AllReadyH.nil
 go_simp
 refine (h123.out _).mono ?_
 rintro e v1 ⟨rfl,hb1⟩
 go_simp
 refine hK.out _ _ (KB.out _ (hHeld.1.1.next hb1) (hHeld.1.2.next hb1)) (fun hHeld=>?_)
 clear hK K
 refine wpAnyH_ready (rs:=[3]) (by kernel_rfl) (by simp) ?_
 refine AllReadyH.cons (i:=3) rfl (fun K hK=>?_) AllReadyH.nil
 go_simp
 refine (h118.out _ hHeld.1.1.below).mono ?_
 rintro e v2 ⟨rfl,hb2⟩
 go_simp
 refine hK.out _ _ (KB.out _ (hHeld.1.1.next hb2) (hHeld.1.2.next hb2)) (fun hHeld=>?_)
 clear hK K
 refine wpAnyH_take (i:=4) (v:=(.agg #[.string fa,.string oa,.int .i64 a0,.int .i64 a1,.int .i64 a2,.int .i64 a3,.int .i64 a4,.int .i64 a5,.int .i64 a6])) rfl (by kernel_rfl) (by kernel_rfl) (by kernel_rfl) (fun _ _ _ h=>h) (Or.inl ⟨by rfl,by intro W hSw;clear hHeld;go_split_ands;go_simp⟩) (by assumption) ?_
 simp only [List.getElem_toArray,List.getElem_cons_zero,List.getElem_cons_succ,Act.put,List.setIfInBounds_toArray,List.set_cons_zero,List.set_cons_succ]
 refine wpAnyH_take (i:=5) (v:=(.int .i64 code)) rfl (by kernel_rfl) (by kernel_rfl) (by kernel_rfl) (fun _ _ _ h=>h) (Or.inl ⟨by rfl,by intro W hSw;clear hHeld;go_split_ands;go_simp⟩) (by assumption) ?_
 simp only [List.getElem_toArray,List.getElem_cons_zero,List.getElem_cons_succ,Act.put,List.setIfInBounds_toArray,List.set_cons_zero,List.set_cons_succ]
 obtain ⟨z0,z1,z2,z3,z4,z5,z6,z7,z8,hz⟩:=hHeld.1.2.z
 have k0:=ceh hz 0
 have e0:=foh hz 0
 have k1:=ceh hz 1
 have e1:=foh hz 1
 have k2:=ceh hz 2
 have e2:=foh hz 2
 have k3:=ceh hz 3
 have e3:=foh hz 3
 have k4:=ceh hz 4
 have e4:=foh hz 4
 have k5:=ceh hz 5
 have e5:=foh hz 5
 have k6:=ceh hz 6
 have e6:=foh hz 6
 have k7:=ceh hz 7
 have e7:=foh hz 7
 have k8:=ceh hz 8
 have e8:=foh hz 8
 have HP:=hiD (hHeld.1.2.put9 (by omega) (.string fa) (.string oa) (.int .i64 a0) (.int .i64 a1) (.int .i64 a2) (.int .i64 a3) (.int .i64 a4) (.int .i64 a5) (.int .i64 a6))
 have HPH:=hiD (hHeld.1.2.put9_heap (.string fa) (.string oa) (.int .i64 a0) (.int .i64 a1) (.int .i64 a2) (.int .i64 a3) (.int .i64 a4) (.int .i64 a5) (.int .i64 a6))
 have HK:=hiD (hHeld.1.1.far9 (g:=w.heap.size+1) (by omega) (by intro z hz;simp only [List.mem_cons,List.not_mem_nil,or_false] at hz;subst hz;show w.heap.size≠w.heap.size+1;omega) (.string fa) (.string oa) (.int .i64 a0) (.int .i64 a1) (.int .i64 a2) (.int .i64 a3) (.int .i64 a4) (.int .i64 a5) (.int .i64 a6))
 have HR:=hiD (ResU.mk (w0:=w) (by simp only [World.size_setCell];exact hHeld.1.2.size) HP.out ⟨_,_,_,_,_,_,_,_,_,HPH.out⟩)
 clear hz
 refine wpAnyH_ready (rs:=[6]) (by kernel_rfl) (by simp) ?_
 refine AllReadyH.cons (i:=6) rfl (fun K hK=>?_) AllReadyH.nil
 go_simp
 refine hK.out _ _ (KB.out _ HK.out HR.out) (fun hHeld=>?_)
 clear hK K
 have g0:=ceh HPH.out 0
 have g1:=ceh HPH.out 1
 have g2:=ceh HPH.out 2
 have g3:=ceh HPH.out 3
 have g4:=ceh HPH.out 4
 have g5:=ceh HPH.out 5
 have g6:=ceh HPH.out 6
 have g7:=ceh HPH.out 7
 have g8:=ceh HPH.out 8
 clear k0 k1 k2 k3 k4 k5 k6 k7 k8 e0 e1 e2 e3 e4 e5 e6 e7 e8
 refine wpAnyH_take (i:=7) (v:=(.int .i64 code)) rfl (by kernel_rfl) (by kernel_rfl) (by kernel_rfl) (fun _ _ _ h=>h) (Or.inl ⟨by rfl,by intro W hSw;clear hHeld;go_split_ands;go_simp⟩) (by assumption) ?_
 simp only [List.getElem_toArray,List.getElem_cons_zero,List.getElem_cons_succ,Act.put,List.setIfInBounds_toArray,List.set_cons_zero,List.set_cons_succ]
 refine wpAnyH_done (by kernel_rfl) ?_ _
 go_wp2_with fail
 refine bodyPost_ret (v:=.tuple #[.agg #[.string fa,.string oa,.int .i64 a0,.int .i64 a1,.int .i64 a2,.int .i64 a3,.int .i64 a4,.int .i64 a5,.int .i64 a6],.int .i64 code]) (by simp [results,Tryz.results65,go_sem,g0,g1,g2,g3,g4,g5,g6,g7,g8]) rfl ?_
 exact ⟨rfl,HP.out⟩
end Go.Proofs.YtigicjakloiliaaGreatDoor
