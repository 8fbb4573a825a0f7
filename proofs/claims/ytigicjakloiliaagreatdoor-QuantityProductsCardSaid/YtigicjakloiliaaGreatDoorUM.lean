/- The law QuantityProducts. -/
import Derived.Test.YtigicjakloiliaaGreatDoorUR
import Derived.Test.YtigicjakloiliaaGreatDoorCy
import Derived.Laws.StructEq
import Derived.ChangeKeysEq
import Derived.Deep.Cut
set_option maxHeartbeats 6400000
set_option maxRecDepth 100000
namespace Go.Proofs.YtigicjakloiliaaGreatDoor
open Go.RowKit Big
open Go.Lib
theorem products_walk (fu ou:ByteArray) (u0 u1 u2 u3 u4 u5 u6:Int) (fv ov:ByteArray) (v0 v1 v2 v3 v4 v5 v6:Int) (fa oa:ByteArray) (a0 a1 a2 a3 a4 a5 a6:Int) (fb ob:ByteArray) (b0 b1 b2 b3 b4 b5 b6:Int) (fc oc:ByteArray) (c0 c1 c2 c3 c4 c5 c6:Int) (ca cb cc n:Int) (s:Bool) (w:World) (h60:Hid (∀ W,Below w.heap.size w W→Calls Tryz.prog 60 #[.agg #[.string fu,.string ou,.int .i64 u0,.int .i64 u1,.int .i64 u2,.int .i64 u3,.int .i64 u4,.int .i64 u5,.int .i64 u6],.agg #[.string fv,.string ov,.int .i64 v0,.int .i64 v1,.int .i64 v2,.int .i64 v3,.int .i64 v4,.int .i64 v5,.int .i64 v6]] W fun e w'=>e=.returned (.tuple #[.agg #[.string fa,.string oa,.int .i64 a0,.int .i64 a1,.int .i64 a2,.int .i64 a3,.int .i64 a4,.int .i64 a5,.int .i64 a6],.int .i64 ca])∧Below W.heap.size W w')) (h61:Hid (∀ W,Below w.heap.size w W→Calls Tryz.prog 61 #[.agg #[.string fu,.string ou,.int .i64 u0,.int .i64 u1,.int .i64 u2,.int .i64 u3,.int .i64 u4,.int .i64 u5,.int .i64 u6],.agg #[.string fv,.string ov,.int .i64 v0,.int .i64 v1,.int .i64 v2,.int .i64 v3,.int .i64 v4,.int .i64 v5,.int .i64 v6]] W fun e w'=>e=.returned (.tuple #[.agg #[.string fa,.string oa,.int .i64 a0,.int .i64 a1,.int .i64 a2,.int .i64 a3,.int .i64 a4,.int .i64 a5,.int .i64 a6],.int .i64 ca])∧Below W.heap.size W w')) (h62:Hid (∀ W,Below w.heap.size w W→Calls Tryz.prog 62 #[.agg #[.string fu,.string ou,.int .i64 u0,.int .i64 u1,.int .i64 u2,.int .i64 u3,.int .i64 u4,.int .i64 u5,.int .i64 u6],.agg #[.string fv,.string ov,.int .i64 v0,.int .i64 v1,.int .i64 v2,.int .i64 v3,.int .i64 v4,.int .i64 v5,.int .i64 v6]] W fun e w'=>e=.returned (.tuple #[.agg #[.string fb,.string ob,.int .i64 b0,.int .i64 b1,.int .i64 b2,.int .i64 b3,.int .i64 b4,.int .i64 b5,.int .i64 b6],.int .i64 cb])∧Below W.heap.size W w')) (h63:Hid (∀ W,Below w.heap.size w W→Calls Tryz.prog 63 #[.agg #[.string fu,.string ou,.int .i64 u0,.int .i64 u1,.int .i64 u2,.int .i64 u3,.int .i64 u4,.int .i64 u5,.int .i64 u6],.agg #[.string fv,.string ov,.int .i64 v0,.int .i64 v1,.int .i64 v2,.int .i64 v3,.int .i64 v4,.int .i64 v5,.int .i64 v6]] W fun e w'=>e=.returned (.tuple #[.agg #[.string fb,.string ob,.int .i64 b0,.int .i64 b1,.int .i64 b2,.int .i64 b3,.int .i64 b4,.int .i64 b5,.int .i64 b6],.int .i64 cb])∧Below W.heap.size W w')) (h64:Hid (∀ W,Below w.heap.size w W→Calls Tryz.prog 64 #[.agg #[.string fu,.string ou,.int .i64 u0,.int .i64 u1,.int .i64 u2,.int .i64 u3,.int .i64 u4,.int .i64 u5,.int .i64 u6],.int .i64 n] W fun e w'=>e=.returned (.tuple #[.agg #[.string fc,.string oc,.int .i64 c0,.int .i64 c1,.int .i64 c2,.int .i64 c3,.int .i64 c4,.int .i64 c5,.int .i64 c6],.int .i64 cc])∧Below W.heap.size W w')) (h65:Hid (∀ W,Below w.heap.size w W→Calls Tryz.prog 65 #[.agg #[.string fu,.string ou,.int .i64 u0,.int .i64 u1,.int .i64 u2,.int .i64 u3,.int .i64 u4,.int .i64 u5,.int .i64 u6],.int .i64 n] W fun e w'=>e=.returned (.tuple #[.agg #[.string fc,.string oc,.int .i64 c0,.int .i64 c1,.int .i64 c2,.int .i64 c3,.int .i64 c4,.int .i64 c5,.int .i64 c6],.int .i64 cc])∧Below W.heap.size W w')) (h59:Hid (∀ W,Below w.heap.size w W→Calls Tryz.prog 59 #[.agg #[.string fu,.string ou,.int .i64 u0,.int .i64 u1,.int .i64 u2,.int .i64 u3,.int .i64 u4,.int .i64 u5,.int .i64 u6],.agg #[.string fv,.string ov,.int .i64 v0,.int .i64 v1,.int .i64 v2,.int .i64 v3,.int .i64 v4,.int .i64 v5,.int .i64 v6]] W fun e w'=>e=.returned (.bool s)∧Below W.heap.size W w')) (h66:Hid (∀ W,Below w.heap.size w W→Calls Tryz.prog 66 #[.agg #[.string fu,.string ou,.int .i64 u0,.int .i64 u1,.int .i64 u2,.int .i64 u3,.int .i64 u4,.int .i64 u5,.int .i64 u6],.agg #[.string fv,.string ov,.int .i64 v0,.int .i64 v1,.int .i64 v2,.int .i64 v3,.int .i64 v4,.int .i64 v5,.int .i64 v6]] W fun e w'=>e=.returned (.bool s)∧Below W.heap.size W w')) (hw:Hid (∀ W,Below w.heap.size w W→Calls Tryz.prog 23 #[] W fun e w'=>e=.returned (.bool true)∧Below W.heap.size W w')):Calls Tryz.prog 11 #[.agg #[.string fu,.string ou,.int .i64 u0,.int .i64 u1,.int .i64 u2,.int .i64 u3,.int .i64 u4,.int .i64 u5,.int .i64 u6],.agg #[.string fv,.string ov,.int .i64 v0,.int .i64 v1,.int .i64 v2,.int .i64 v3,.int .i64 v4,.int .i64 v5,.int .i64 v6],.int .i64 n] w fun e w'=>e=.returned (.bool true)∧Below w.heap.size w w':=by
 have K0:Hid (Keep w ((w.alloc (.cells #[.string fu,.string ou,.int .i64 u0,.int .i64 u1,.int .i64 u2,.int .i64 u3,.int .i64 u4,.int .i64 u5,.int .i64 u6] 53)).alloc (.cells #[.string fv,.string ov,.int .i64 v0,.int .i64 v1,.int .i64 v2,.int .i64 v3,.int .i64 v4,.int .i64 v5,.int .i64 v6] 53)) [(w.heap.size+1,#[.string fv,.string ov,.int .i64 v0,.int .i64 v1,.int .i64 v2,.int .i64 v3,.int .i64 v4,.int .i64 v5,.int .i64 v6],53),(w.heap.size,#[.string fu,.string ou,.int .i64 u0,.int .i64 u1,.int .i64 u2,.int .i64 u3,.int .i64 u4,.int .i64 u5,.int .i64 u6],53)]):=hiD (Keep.two w _ _ 53 53)
 have cw:((w.alloc (.cells #[.string fu,.string ou,.int .i64 u0,.int .i64 u1,.int .i64 u2,.int .i64 u3,.int .i64 u4,.int .i64 u5,.int .i64 u6] 53)).alloc (.cells #[.string fv,.string ov,.int .i64 v0,.int .i64 v1,.int .i64 v2,.int .i64 v3,.int .i64 v4,.int .i64 v5,.int .i64 v6] 53)).heap[w.heap.size]?=some (.cells #[.string fu,.string ou,.int .i64 u0,.int .i64 u1,.int .i64 u2,.int .i64 u3,.int .i64 u4,.int .i64 u5,.int .i64 u6] 53 (0,0)):=K0.out.one _ (List.mem_cons_of_mem _ (List.mem_cons_self ..))
 have cw_0:=ceh cw 0
 have cw_1:=ceh cw 1
 have cw_2:=ceh cw 2
 have cw_3:=ceh cw 3
 have cw_4:=ceh cw 4
 have cw_5:=ceh cw 5
 have cw_6:=ceh cw 6
 have cw_7:=ceh cw 7
 have cw_8:=ceh cw 8
 clear cw
 have cwb:((w.alloc (.cells #[.string fu,.string ou,.int .i64 u0,.int .i64 u1,.int .i64 u2,.int .i64 u3,.int .i64 u4,.int .i64 u5,.int .i64 u6] 53)).alloc (.cells #[.string fv,.string ov,.int .i64 v0,.int .i64 v1,.int .i64 v2,.int .i64 v3,.int .i64 v4,.int .i64 v5,.int .i64 v6] 53)).heap[w.heap.size+1]?=some (.cells #[.string fv,.string ov,.int .i64 v0,.int .i64 v1,.int .i64 v2,.int .i64 v3,.int .i64 v4,.int .i64 v5,.int .i64 v6] 53 (0,0)):=K0.out.one _ (List.mem_cons_self ..)
 have cwb_0:=ceh cwb 0
 have cwb_1:=ceh cwb 1
 have cwb_2:=ceh cwb 2
 have cwb_3:=ceh cwb 3
 have cwb_4:=ceh cwb 4
 have cwb_5:=ceh cwb 5
 have cwb_6:=ceh cwb 6
 have cwb_7:=ceh cwb 7
 have cwb_8:=ceh cwb 8
 clear cwb
 go_enter Tryz.func11,Tryz.ntmps11
 go_wp2_with fail
 have hqa:=powers_same a0 a1 a2 a3 a4 a5 a6
 have hqb:=powers_same b0 b1 b2 b3 b4 b5 b6
 have hqc:=powers_same c0 c1 c2 c3 c4 c5 c6
 refine (h60.out _ K0.out.below).mono ?_
 rintro e w1 ⟨rfl,hb⟩
 have K1:=hiD (K0.out.next hb)
 clear hb K0
 clear cw_0 cw_1 cw_2 cw_3 cw_4 cw_5 cw_6 cw_7 cw_8 cwb_0 cwb_1 cwb_2 cwb_3 cwb_4 cwb_5 cwb_6 cwb_7 cwb_8
 have HD1:Hid (w.heap.size+1<w1.heap.size):=hiD (K1.out.lt (List.mem_cons_self ..))
 have M1:=hiD (K1.out.more #[.string fa,.string oa,.int .i64 a0,.int .i64 a1,.int .i64 a2,.int .i64 a3,.int .i64 a4,.int .i64 a5,.int .i64 a6] 53)
 clear K1
 have cw:(w1.alloc (.cells #[.string fa,.string oa,.int .i64 a0,.int .i64 a1,.int .i64 a2,.int .i64 a3,.int .i64 a4,.int .i64 a5,.int .i64 a6] 53)).heap[w.heap.size]?=some (.cells #[.string fu,.string ou,.int .i64 u0,.int .i64 u1,.int .i64 u2,.int .i64 u3,.int .i64 u4,.int .i64 u5,.int .i64 u6] 53 (0,0)):=M1.out.one _ (List.mem_cons_of_mem _ (List.mem_cons_of_mem _ (List.mem_cons_self ..)))
 have cw_0:=ceh cw 0
 have cw_1:=ceh cw 1
 have cw_2:=ceh cw 2
 have cw_3:=ceh cw 3
 have cw_4:=ceh cw 4
 have cw_5:=ceh cw 5
 have cw_6:=ceh cw 6
 have cw_7:=ceh cw 7
 have cw_8:=ceh cw 8
 clear cw
 have cwb:(w1.alloc (.cells #[.string fa,.string oa,.int .i64 a0,.int .i64 a1,.int .i64 a2,.int .i64 a3,.int .i64 a4,.int .i64 a5,.int .i64 a6] 53)).heap[w.heap.size+1]?=some (.cells #[.string fv,.string ov,.int .i64 v0,.int .i64 v1,.int .i64 v2,.int .i64 v3,.int .i64 v4,.int .i64 v5,.int .i64 v6] 53 (0,0)):=M1.out.one _ (List.mem_cons_of_mem _ (List.mem_cons_self ..))
 have cwb_0:=ceh cwb 0
 have cwb_1:=ceh cwb 1
 have cwb_2:=ceh cwb 2
 have cwb_3:=ceh cwb 3
 have cwb_4:=ceh cwb 4
 have cwb_5:=ceh cwb 5
 have cwb_6:=ceh cwb 6
 have cwb_7:=ceh cwb 7
 have cwb_8:=ceh cwb 8
 clear cwb
 go_wp2_with fail
 refine (h61.out _ M1.out.below).mono ?_
 rintro e w2 ⟨rfl,hb⟩
 have K2:=hiD (M1.out.next hb)
 clear hb M1
 clear cw_0 cw_1 cw_2 cw_3 cw_4 cw_5 cw_6 cw_7 cw_8 cwb_0 cwb_1 cwb_2 cwb_3 cwb_4 cwb_5 cwb_6 cwb_7 cwb_8
 have HD2:Hid (w1.heap.size<w2.heap.size):=hiD (K2.out.lt (List.mem_cons_self ..))
 have M2:=hiD (K2.out.more #[.string fa,.string oa,.int .i64 a0,.int .i64 a1,.int .i64 a2,.int .i64 a3,.int .i64 a4,.int .i64 a5,.int .i64 a6] 53)
 clear K2
 have cw1:(w2.alloc (.cells #[.string fa,.string oa,.int .i64 a0,.int .i64 a1,.int .i64 a2,.int .i64 a3,.int .i64 a4,.int .i64 a5,.int .i64 a6] 53)).heap[w1.heap.size]?=some (.cells #[.string fa,.string oa,.int .i64 a0,.int .i64 a1,.int .i64 a2,.int .i64 a3,.int .i64 a4,.int .i64 a5,.int .i64 a6] 53 (0,0)):=M2.out.one _ (List.mem_cons_of_mem _ (List.mem_cons_self ..))
 have cw1_0:=ceh cw1 0
 have cw1_1:=ceh cw1 1
 have cw1_2:=ceh cw1 2
 have cw1_3:=ceh cw1 3
 have cw1_4:=ceh cw1 4
 have cw1_5:=ceh cw1 5
 have cw1_6:=ceh cw1 6
 have cw1_7:=ceh cw1 7
 have cw1_8:=ceh cw1 8
 clear cw1
 have cw2:(w2.alloc (.cells #[.string fa,.string oa,.int .i64 a0,.int .i64 a1,.int .i64 a2,.int .i64 a3,.int .i64 a4,.int .i64 a5,.int .i64 a6] 53)).heap[w2.heap.size]?=some (.cells #[.string fa,.string oa,.int .i64 a0,.int .i64 a1,.int .i64 a2,.int .i64 a3,.int .i64 a4,.int .i64 a5,.int .i64 a6] 53 (0,0)):=M2.out.one _ (List.mem_cons_self ..)
 have cw2_0:=ceh cw2 0
 have cw2_1:=ceh cw2 1
 have cw2_2:=ceh cw2 2
 have cw2_3:=ceh cw2 3
 have cw2_4:=ceh cw2 4
 have cw2_5:=ceh cw2 5
 have cw2_6:=ceh cw2 6
 have cw2_7:=ceh cw2 7
 have cw2_8:=ceh cw2 8
 clear cw2
 have cw:(w2.alloc (.cells #[.string fa,.string oa,.int .i64 a0,.int .i64 a1,.int .i64 a2,.int .i64 a3,.int .i64 a4,.int .i64 a5,.int .i64 a6] 53)).heap[w.heap.size]?=some (.cells #[.string fu,.string ou,.int .i64 u0,.int .i64 u1,.int .i64 u2,.int .i64 u3,.int .i64 u4,.int .i64 u5,.int .i64 u6] 53 (0,0)):=M2.out.one _ (List.mem_cons_of_mem _ (List.mem_cons_of_mem _ (List.mem_cons_of_mem _ (List.mem_cons_self ..))))
 have cw_0:=ceh cw 0
 have cw_1:=ceh cw 1
 have cw_2:=ceh cw 2
 have cw_3:=ceh cw 3
 have cw_4:=ceh cw 4
 have cw_5:=ceh cw 5
 have cw_6:=ceh cw 6
 have cw_7:=ceh cw 7
 have cw_8:=ceh cw 8
 clear cw
 have cwb:(w2.alloc (.cells #[.string fa,.string oa,.int .i64 a0,.int .i64 a1,.int .i64 a2,.int .i64 a3,.int .i64 a4,.int .i64 a5,.int .i64 a6] 53)).heap[w.heap.size+1]?=some (.cells #[.string fv,.string ov,.int .i64 v0,.int .i64 v1,.int .i64 v2,.int .i64 v3,.int .i64 v4,.int .i64 v5,.int .i64 v6] 53 (0,0)):=M2.out.one _ (List.mem_cons_of_mem _ (List.mem_cons_of_mem _ (List.mem_cons_self ..)))
 have cwb_0:=ceh cwb 0
 have cwb_1:=ceh cwb 1
 have cwb_2:=ceh cwb 2
 have cwb_3:=ceh cwb 3
 have cwb_4:=ceh cwb 4
 have cwb_5:=ceh cwb 5
 have cwb_6:=ceh cwb 6
 have cwb_7:=ceh cwb 7
 have cwb_8:=ceh cwb 8
 clear cwb
 go_wp2_with fail
 refine (h62.out _ M2.out.below).mono ?_
 rintro e w3 ⟨rfl,hb⟩
 have K3:=hiD (M2.out.next hb)
 clear hb M2
 clear cw1_0 cw1_1 cw1_2 cw1_3 cw1_4 cw1_5 cw1_6 cw1_7 cw1_8 cw2_0 cw2_1 cw2_2 cw2_3 cw2_4 cw2_5 cw2_6 cw2_7 cw2_8 cw_0 cw_1 cw_2 cw_3 cw_4 cw_5 cw_6 cw_7 cw_8 cwb_0 cwb_1 cwb_2 cwb_3 cwb_4 cwb_5 cwb_6 cwb_7 cwb_8
 have P3:Hid (Keep w w3 [(w1.heap.size,#[.string fa,.string oa,.int .i64 a0,.int .i64 a1,.int .i64 a2,.int .i64 a3,.int .i64 a4,.int .i64 a5,.int .i64 a6],53),(w2.heap.size,#[.string fa,.string oa,.int .i64 a0,.int .i64 a1,.int .i64 a2,.int .i64 a3,.int .i64 a4,.int .i64 a5,.int .i64 a6],53),(w.heap.size+1,#[.string fv,.string ov,.int .i64 v0,.int .i64 v1,.int .i64 v2,.int .i64 v3,.int .i64 v4,.int .i64 v5,.int .i64 v6],53),(w.heap.size,#[.string fu,.string ou,.int .i64 u0,.int .i64 u1,.int .i64 u2,.int .i64 u3,.int .i64 u4,.int .i64 u5,.int .i64 u6],53)]):=hiD (K3.out.sub (fun z hz=>by
  simp only [List.mem_cons,List.not_mem_nil,or_false] at hz ⊢
  rcases hz with rfl|rfl|rfl|rfl<;>simp))
 have hz:=P3.out.one _ (List.mem_cons_self ..)
 have k0:=ceh hz 0
 have e0:=foh hz 0
 have k1:=ceh hz 1
 have e1:=foh hz 1
 have k2:=ceh hz 2
 have e2:=foh hz 2
 have k3:=ceh hz 3
 have e3:=foh hz 3
 have k4:=ceh hz 4
 have e4:=foh hz 4
 have k5:=ceh hz 5
 have e5:=foh hz 5
 have k6:=ceh hz 6
 have e6:=foh hz 6
 have k7:=ceh hz 7
 have e7:=foh hz 7
 have k8:=ceh hz 8
 have e8:=foh hz 8
 clear hz
 have M3:=hiD (P3.out.anew (by have d1:=HD1.out;have d2:=HD2.out;omega) (by intro z hz;have d1:=HD1.out;have d2:=HD2.out;simp only [List.mem_cons,List.not_mem_nil,or_false] at hz;rcases hz with rfl|rfl|rfl<;>(dsimp only;omega)) (.string fb) (.string ob) (.int .i64 b0) (.int .i64 b1) (.int .i64 b2) (.int .i64 b3) (.int .i64 b4) (.int .i64 b5) (.int .i64 b6))
 clear P3 K3
 go_upto_region 6 with fail
 revert M3
 generalize (((((((((w3.setCell ⟨w1.heap.size,0,none⟩ (.string fb)).setCell ⟨w1.heap.size,1,none⟩ (.string ob)).setCell ⟨w1.heap.size,2,none⟩ (.int .i64 b0)).setCell ⟨w1.heap.size,3,none⟩ (.int .i64 b1)).setCell ⟨w1.heap.size,4,none⟩ (.int .i64 b2)).setCell ⟨w1.heap.size,5,none⟩ (.int .i64 b3)).setCell ⟨w1.heap.size,6,none⟩ (.int .i64 b4)).setCell ⟨w1.heap.size,7,none⟩ (.int .i64 b5)).setCell ⟨w1.heap.size,8,none⟩ (.int .i64 b6))=W3
 intro M3
 clear k0 e0 k1 e1 k2 e2 k3 e3 k4 e4 k5 e5 k6 e6 k7 e7 k8 e8
 have cw:W3.heap[w.heap.size]?=some (.cells #[.string fu,.string ou,.int .i64 u0,.int .i64 u1,.int .i64 u2,.int .i64 u3,.int .i64 u4,.int .i64 u5,.int .i64 u6] 53 (0,0)):=M3.out.one _ (List.mem_cons_of_mem _ (List.mem_cons_of_mem _ (List.mem_cons_of_mem _ (List.mem_cons_self ..))))
 have cw_0:=ceh cw 0
 have cw_1:=ceh cw 1
 have cw_2:=ceh cw 2
 have cw_3:=ceh cw 3
 have cw_4:=ceh cw 4
 have cw_5:=ceh cw 5
 have cw_6:=ceh cw 6
 have cw_7:=ceh cw 7
 have cw_8:=ceh cw 8
 clear cw
 have cwb:W3.heap[w.heap.size+1]?=some (.cells #[.string fv,.string ov,.int .i64 v0,.int .i64 v1,.int .i64 v2,.int .i64 v3,.int .i64 v4,.int .i64 v5,.int .i64 v6] 53 (0,0)):=M3.out.one _ (List.mem_cons_of_mem _ (List.mem_cons_of_mem _ (List.mem_cons_self ..)))
 have cwb_0:=ceh cwb 0
 have cwb_1:=ceh cwb 1
 have cwb_2:=ceh cwb 2
 have cwb_3:=ceh cwb 3
 have cwb_4:=ceh cwb 4
 have cwb_5:=ceh cwb 5
 have cwb_6:=ceh cwb 6
 have cwb_7:=ceh cwb 7
 have cwb_8:=ceh cwb 8
 clear cwb
 go_wp2_with fail
 refine (h63.out _ M3.out.below).mono ?_
 rintro e w4 ⟨rfl,hb⟩
 have K4:=hiD (M3.out.next hb)
 clear hb M3
 clear cw_0 cw_1 cw_2 cw_3 cw_4 cw_5 cw_6 cw_7 cw_8 cwb_0 cwb_1 cwb_2 cwb_3 cwb_4 cwb_5 cwb_6 cwb_7 cwb_8
 have P4:Hid (Keep w w4 [(w2.heap.size,#[.string fa,.string oa,.int .i64 a0,.int .i64 a1,.int .i64 a2,.int .i64 a3,.int .i64 a4,.int .i64 a5,.int .i64 a6],53),(w1.heap.size,#[.string fb,.string ob,.int .i64 b0,.int .i64 b1,.int .i64 b2,.int .i64 b3,.int .i64 b4,.int .i64 b5,.int .i64 b6],53),(w.heap.size+1,#[.string fv,.string ov,.int .i64 v0,.int .i64 v1,.int .i64 v2,.int .i64 v3,.int .i64 v4,.int .i64 v5,.int .i64 v6],53),(w.heap.size,#[.string fu,.string ou,.int .i64 u0,.int .i64 u1,.int .i64 u2,.int .i64 u3,.int .i64 u4,.int .i64 u5,.int .i64 u6],53)]):=hiD (K4.out.sub (fun z hz=>by
  simp only [List.mem_cons,List.not_mem_nil,or_false] at hz ⊢
  rcases hz with rfl|rfl|rfl|rfl<;>simp))
 have hz:=P4.out.one _ (List.mem_cons_self ..)
 have k0:=ceh hz 0
 have e0:=foh hz 0
 have k1:=ceh hz 1
 have e1:=foh hz 1
 have k2:=ceh hz 2
 have e2:=foh hz 2
 have k3:=ceh hz 3
 have e3:=foh hz 3
 have k4:=ceh hz 4
 have e4:=foh hz 4
 have k5:=ceh hz 5
 have e5:=foh hz 5
 have k6:=ceh hz 6
 have e6:=foh hz 6
 have k7:=ceh hz 7
 have e7:=foh hz 7
 have k8:=ceh hz 8
 have e8:=foh hz 8
 clear hz
 have M4:=hiD (P4.out.anew (by have d1:=HD1.out;have d2:=HD2.out;omega) (by intro z hz;have d1:=HD1.out;have d2:=HD2.out;simp only [List.mem_cons,List.not_mem_nil,or_false] at hz;rcases hz with rfl|rfl|rfl<;>(dsimp only;omega)) (.string fb) (.string ob) (.int .i64 b0) (.int .i64 b1) (.int .i64 b2) (.int .i64 b3) (.int .i64 b4) (.int .i64 b5) (.int .i64 b6))
 clear P4 K4
 go_upto_region 7 with fail
 revert M4
 generalize (((((((((w4.setCell ⟨w2.heap.size,0,none⟩ (.string fb)).setCell ⟨w2.heap.size,1,none⟩ (.string ob)).setCell ⟨w2.heap.size,2,none⟩ (.int .i64 b0)).setCell ⟨w2.heap.size,3,none⟩ (.int .i64 b1)).setCell ⟨w2.heap.size,4,none⟩ (.int .i64 b2)).setCell ⟨w2.heap.size,5,none⟩ (.int .i64 b3)).setCell ⟨w2.heap.size,6,none⟩ (.int .i64 b4)).setCell ⟨w2.heap.size,7,none⟩ (.int .i64 b5)).setCell ⟨w2.heap.size,8,none⟩ (.int .i64 b6))=W4
 intro M4
 clear k0 e0 k1 e1 k2 e2 k3 e3 k4 e4 k5 e5 k6 e6 k7 e7 k8 e8
 have cw1:W4.heap[w1.heap.size]?=some (.cells #[.string fb,.string ob,.int .i64 b0,.int .i64 b1,.int .i64 b2,.int .i64 b3,.int .i64 b4,.int .i64 b5,.int .i64 b6] 53 (0,0)):=M4.out.one _ (List.mem_cons_of_mem _ (List.mem_cons_self ..))
 have cw1_0:=ceh cw1 0
 have cw1_1:=ceh cw1 1
 have cw1_2:=ceh cw1 2
 have cw1_3:=ceh cw1 3
 have cw1_4:=ceh cw1 4
 have cw1_5:=ceh cw1 5
 have cw1_6:=ceh cw1 6
 have cw1_7:=ceh cw1 7
 have cw1_8:=ceh cw1 8
 clear cw1
 have cw2:W4.heap[w2.heap.size]?=some (.cells #[.string fb,.string ob,.int .i64 b0,.int .i64 b1,.int .i64 b2,.int .i64 b3,.int .i64 b4,.int .i64 b5,.int .i64 b6] 53 (0,0)):=M4.out.one _ (List.mem_cons_self ..)
 have cw2_0:=ceh cw2 0
 have cw2_1:=ceh cw2 1
 have cw2_2:=ceh cw2 2
 have cw2_3:=ceh cw2 3
 have cw2_4:=ceh cw2 4
 have cw2_5:=ceh cw2 5
 have cw2_6:=ceh cw2 6
 have cw2_7:=ceh cw2 7
 have cw2_8:=ceh cw2 8
 clear cw2
 have cw:W4.heap[w.heap.size]?=some (.cells #[.string fu,.string ou,.int .i64 u0,.int .i64 u1,.int .i64 u2,.int .i64 u3,.int .i64 u4,.int .i64 u5,.int .i64 u6] 53 (0,0)):=M4.out.one _ (List.mem_cons_of_mem _ (List.mem_cons_of_mem _ (List.mem_cons_of_mem _ (List.mem_cons_self ..))))
 have cw_0:=ceh cw 0
 have cw_1:=ceh cw 1
 have cw_2:=ceh cw 2
 have cw_3:=ceh cw 3
 have cw_4:=ceh cw 4
 have cw_5:=ceh cw 5
 have cw_6:=ceh cw 6
 have cw_7:=ceh cw 7
 have cw_8:=ceh cw 8
 clear cw
 go_wp2_with fail
 refine (h64.out _ M4.out.below).mono ?_
 rintro e w5 ⟨rfl,hb⟩
 have K5:=hiD (M4.out.next hb)
 clear hb M4
 clear cw1_0 cw1_1 cw1_2 cw1_3 cw1_4 cw1_5 cw1_6 cw1_7 cw1_8 cw2_0 cw2_1 cw2_2 cw2_3 cw2_4 cw2_5 cw2_6 cw2_7 cw2_8 cw_0 cw_1 cw_2 cw_3 cw_4 cw_5 cw_6 cw_7 cw_8
 have P5:Hid (Keep w w5 [(w1.heap.size,#[.string fb,.string ob,.int .i64 b0,.int .i64 b1,.int .i64 b2,.int .i64 b3,.int .i64 b4,.int .i64 b5,.int .i64 b6],53),(w2.heap.size,#[.string fb,.string ob,.int .i64 b0,.int .i64 b1,.int .i64 b2,.int .i64 b3,.int .i64 b4,.int .i64 b5,.int .i64 b6],53),(w.heap.size+1,#[.string fv,.string ov,.int .i64 v0,.int .i64 v1,.int .i64 v2,.int .i64 v3,.int .i64 v4,.int .i64 v5,.int .i64 v6],53),(w.heap.size,#[.string fu,.string ou,.int .i64 u0,.int .i64 u1,.int .i64 u2,.int .i64 u3,.int .i64 u4,.int .i64 u5,.int .i64 u6],53)]):=hiD (K5.out.sub (fun z hz=>by
  simp only [List.mem_cons,List.not_mem_nil,or_false] at hz ⊢
  rcases hz with rfl|rfl|rfl|rfl<;>simp))
 have hz:=P5.out.one _ (List.mem_cons_self ..)
 have k0:=ceh hz 0
 have e0:=foh hz 0
 have k1:=ceh hz 1
 have e1:=foh hz 1
 have k2:=ceh hz 2
 have e2:=foh hz 2
 have k3:=ceh hz 3
 have e3:=foh hz 3
 have k4:=ceh hz 4
 have e4:=foh hz 4
 have k5:=ceh hz 5
 have e5:=foh hz 5
 have k6:=ceh hz 6
 have e6:=foh hz 6
 have k7:=ceh hz 7
 have e7:=foh hz 7
 have k8:=ceh hz 8
 have e8:=foh hz 8
 clear hz
 have M5:=hiD (P5.out.anew (by have d1:=HD1.out;have d2:=HD2.out;omega) (by intro z hz;have d1:=HD1.out;have d2:=HD2.out;simp only [List.mem_cons,List.not_mem_nil,or_false] at hz;rcases hz with rfl|rfl|rfl<;>(dsimp only;omega)) (.string fc) (.string oc) (.int .i64 c0) (.int .i64 c1) (.int .i64 c2) (.int .i64 c3) (.int .i64 c4) (.int .i64 c5) (.int .i64 c6))
 clear P5 K5
 go_upto_region 10 with fail
 revert M5
 generalize (((((((((w5.setCell ⟨w1.heap.size,0,none⟩ (.string fc)).setCell ⟨w1.heap.size,1,none⟩ (.string oc)).setCell ⟨w1.heap.size,2,none⟩ (.int .i64 c0)).setCell ⟨w1.heap.size,3,none⟩ (.int .i64 c1)).setCell ⟨w1.heap.size,4,none⟩ (.int .i64 c2)).setCell ⟨w1.heap.size,5,none⟩ (.int .i64 c3)).setCell ⟨w1.heap.size,6,none⟩ (.int .i64 c4)).setCell ⟨w1.heap.size,7,none⟩ (.int .i64 c5)).setCell ⟨w1.heap.size,8,none⟩ (.int .i64 c6))=W5
 intro M5
 clear k0 e0 k1 e1 k2 e2 k3 e3 k4 e4 k5 e5 k6 e6 k7 e7 k8 e8
 have cw:W5.heap[w.heap.size]?=some (.cells #[.string fu,.string ou,.int .i64 u0,.int .i64 u1,.int .i64 u2,.int .i64 u3,.int .i64 u4,.int .i64 u5,.int .i64 u6] 53 (0,0)):=M5.out.one _ (List.mem_cons_of_mem _ (List.mem_cons_of_mem _ (List.mem_cons_of_mem _ (List.mem_cons_self ..))))
 have cw_0:=ceh cw 0
 have cw_1:=ceh cw 1
 have cw_2:=ceh cw 2
 have cw_3:=ceh cw 3
 have cw_4:=ceh cw 4
 have cw_5:=ceh cw 5
 have cw_6:=ceh cw 6
 have cw_7:=ceh cw 7
 have cw_8:=ceh cw 8
 clear cw
 go_wp2_with fail
 refine (h65.out _ M5.out.below).mono ?_
 rintro e w6 ⟨rfl,hb⟩
 have K6:=hiD (M5.out.next hb)
 clear hb M5
 clear cw_0 cw_1 cw_2 cw_3 cw_4 cw_5 cw_6 cw_7 cw_8
 have P6:Hid (Keep w w6 [(w2.heap.size,#[.string fb,.string ob,.int .i64 b0,.int .i64 b1,.int .i64 b2,.int .i64 b3,.int .i64 b4,.int .i64 b5,.int .i64 b6],53),(w1.heap.size,#[.string fc,.string oc,.int .i64 c0,.int .i64 c1,.int .i64 c2,.int .i64 c3,.int .i64 c4,.int .i64 c5,.int .i64 c6],53),(w.heap.size+1,#[.string fv,.string ov,.int .i64 v0,.int .i64 v1,.int .i64 v2,.int .i64 v3,.int .i64 v4,.int .i64 v5,.int .i64 v6],53),(w.heap.size,#[.string fu,.string ou,.int .i64 u0,.int .i64 u1,.int .i64 u2,.int .i64 u3,.int .i64 u4,.int .i64 u5,.int .i64 u6],53)]):=hiD (K6.out.sub (fun z hz=>by
  simp only [List.mem_cons,List.not_mem_nil,or_false] at hz ⊢
  rcases hz with rfl|rfl|rfl|rfl<;>simp))
 have hz:=P6.out.one _ (List.mem_cons_self ..)
 have k0:=ceh hz 0
 have e0:=foh hz 0
 have k1:=ceh hz 1
 have e1:=foh hz 1
 have k2:=ceh hz 2
 have e2:=foh hz 2
 have k3:=ceh hz 3
 have e3:=foh hz 3
 have k4:=ceh hz 4
 have e4:=foh hz 4
 have k5:=ceh hz 5
 have e5:=foh hz 5
 have k6:=ceh hz 6
 have e6:=foh hz 6
 have k7:=ceh hz 7
 have e7:=foh hz 7
 have k8:=ceh hz 8
 have e8:=foh hz 8
 clear hz
 have M6:=hiD (P6.out.anew (by have d1:=HD1.out;have d2:=HD2.out;omega) (by intro z hz;have d1:=HD1.out;have d2:=HD2.out;simp only [List.mem_cons,List.not_mem_nil,or_false] at hz;rcases hz with rfl|rfl|rfl<;>(dsimp only;omega)) (.string fc) (.string oc) (.int .i64 c0) (.int .i64 c1) (.int .i64 c2) (.int .i64 c3) (.int .i64 c4) (.int .i64 c5) (.int .i64 c6))
 clear P6 K6
 go_upto_region 11 with fail
 revert M6
 generalize (((((((((w6.setCell ⟨w2.heap.size,0,none⟩ (.string fc)).setCell ⟨w2.heap.size,1,none⟩ (.string oc)).setCell ⟨w2.heap.size,2,none⟩ (.int .i64 c0)).setCell ⟨w2.heap.size,3,none⟩ (.int .i64 c1)).setCell ⟨w2.heap.size,4,none⟩ (.int .i64 c2)).setCell ⟨w2.heap.size,5,none⟩ (.int .i64 c3)).setCell ⟨w2.heap.size,6,none⟩ (.int .i64 c4)).setCell ⟨w2.heap.size,7,none⟩ (.int .i64 c5)).setCell ⟨w2.heap.size,8,none⟩ (.int .i64 c6))=W6
 intro M6
 clear k0 e0 k1 e1 k2 e2 k3 e3 k4 e4 k5 e5 k6 e6 k7 e7 k8 e8
 have KB:Hid (∀ W,Keep w W [(w2.heap.size,#[.string fc,.string oc,.int .i64 c0,.int .i64 c1,.int .i64 c2,.int .i64 c3,.int .i64 c4,.int .i64 c5,.int .i64 c6],53),(w1.heap.size,#[.string fc,.string oc,.int .i64 c0,.int .i64 c1,.int .i64 c2,.int .i64 c3,.int .i64 c4,.int .i64 c5,.int .i64 c6],53),(w.heap.size+1,#[.string fv,.string ov,.int .i64 v0,.int .i64 v1,.int .i64 v2,.int .i64 v3,.int .i64 v4,.int .i64 v5,.int .i64 v6],53),(w.heap.size,#[.string fu,.string ou,.int .i64 u0,.int .i64 u1,.int .i64 u2,.int .i64 u3,.int .i64 u4,.int .i64 u5,.int .i64 u6],53)]→((fun w'=>Keep w w' [(w2.heap.size,#[.string fc,.string oc,.int .i64 c0,.int .i64 c1,.int .i64 c2,.int .i64 c3,.int .i64 c4,.int .i64 c5,.int .i64 c6],53),(w1.heap.size,#[.string fc,.string oc,.int .i64 c0,.int .i64 c1,.int .i64 c2,.int .i64 c3,.int .i64 c4,.int .i64 c5,.int .i64 c6],53),(w.heap.size+1,#[.string fv,.string ov,.int .i64 v0,.int .i64 v1,.int .i64 v2,.int .i64 v3,.int .i64 v4,.int .i64 v5,.int .i64 v6],53),(w.heap.size,#[.string fu,.string ou,.int .i64 u0,.int .i64 u1,.int .i64 u2,.int .i64 u3,.int .i64 u4,.int .i64 u5,.int .i64 u6],53)]∧w'.cell? ⟨w2.heap.size,0,none⟩=some (.string fc)∧w'.cell? ⟨w2.heap.size,1,none⟩=some (.string oc)∧w'.cell? ⟨w2.heap.size,2,none⟩=some (.int .i64 c0)∧w'.cell? ⟨w2.heap.size,3,none⟩=some (.int .i64 c1)∧w'.cell? ⟨w2.heap.size,4,none⟩=some (.int .i64 c2)∧w'.cell? ⟨w2.heap.size,5,none⟩=some (.int .i64 c3)∧w'.cell? ⟨w2.heap.size,6,none⟩=some (.int .i64 c4)∧w'.cell? ⟨w2.heap.size,7,none⟩=some (.int .i64 c5)∧w'.cell? ⟨w2.heap.size,8,none⟩=some (.int .i64 c6)∧w'.cell? ⟨w1.heap.size,0,none⟩=some (.string fc)∧w'.cell? ⟨w1.heap.size,1,none⟩=some (.string oc)∧w'.cell? ⟨w1.heap.size,2,none⟩=some (.int .i64 c0)∧w'.cell? ⟨w1.heap.size,3,none⟩=some (.int .i64 c1)∧w'.cell? ⟨w1.heap.size,4,none⟩=some (.int .i64 c2)∧w'.cell? ⟨w1.heap.size,5,none⟩=some (.int .i64 c3)∧w'.cell? ⟨w1.heap.size,6,none⟩=some (.int .i64 c4)∧w'.cell? ⟨w1.heap.size,7,none⟩=some (.int .i64 c5)∧w'.cell? ⟨w1.heap.size,8,none⟩=some (.int .i64 c6)∧w'.cell? ⟨w.heap.size+1,0,none⟩=some (.string fv)∧w'.cell? ⟨w.heap.size+1,1,none⟩=some (.string ov)∧w'.cell? ⟨w.heap.size+1,2,none⟩=some (.int .i64 v0)∧w'.cell? ⟨w.heap.size+1,3,none⟩=some (.int .i64 v1)∧w'.cell? ⟨w.heap.size+1,4,none⟩=some (.int .i64 v2)∧w'.cell? ⟨w.heap.size+1,5,none⟩=some (.int .i64 v3)∧w'.cell? ⟨w.heap.size+1,6,none⟩=some (.int .i64 v4)∧w'.cell? ⟨w.heap.size+1,7,none⟩=some (.int .i64 v5)∧w'.cell? ⟨w.heap.size+1,8,none⟩=some (.int .i64 v6)∧w'.cell? ⟨w.heap.size,0,none⟩=some (.string fu)∧w'.cell? ⟨w.heap.size,1,none⟩=some (.string ou)∧w'.cell? ⟨w.heap.size,2,none⟩=some (.int .i64 u0)∧w'.cell? ⟨w.heap.size,3,none⟩=some (.int .i64 u1)∧w'.cell? ⟨w.heap.size,4,none⟩=some (.int .i64 u2)∧w'.cell? ⟨w.heap.size,5,none⟩=some (.int .i64 u3)∧w'.cell? ⟨w.heap.size,6,none⟩=some (.int .i64 u4)∧w'.cell? ⟨w.heap.size,7,none⟩=some (.int .i64 u5)∧w'.cell? ⟨w.heap.size,8,none⟩=some (.int .i64 u6)) W)):=hiD fun W h=>⟨h,ceh (h.one _ (List.mem_cons_self ..)) 0,ceh (h.one _ (List.mem_cons_self ..)) 1,ceh (h.one _ (List.mem_cons_self ..)) 2,ceh (h.one _ (List.mem_cons_self ..)) 3,ceh (h.one _ (List.mem_cons_self ..)) 4,ceh (h.one _ (List.mem_cons_self ..)) 5,ceh (h.one _ (List.mem_cons_self ..)) 6,ceh (h.one _ (List.mem_cons_self ..)) 7,ceh (h.one _ (List.mem_cons_self ..)) 8,ceh (h.one _ (List.mem_cons_of_mem _ (List.mem_cons_self ..))) 0,ceh (h.one _ (List.mem_cons_of_mem _ (List.mem_cons_self ..))) 1,ceh (h.one _ (List.mem_cons_of_mem _ (List.mem_cons_self ..))) 2,ceh (h.one _ (List.mem_cons_of_mem _ (List.mem_cons_self ..))) 3,ceh (h.one _ (List.mem_cons_of_mem _ (List.mem_cons_self ..))) 4,ceh (h.one _ (List.mem_cons_of_mem _ (List.mem_cons_self ..))) 5,ceh (h.one _ (List.mem_cons_of_mem _ (List.mem_cons_self ..))) 6,ceh (h.one _ (List.mem_cons_of_mem _ (List.mem_cons_self ..))) 7,ceh (h.one _ (List.mem_cons_of_mem _ (List.mem_cons_self ..))) 8,ceh (h.one _ (List.mem_cons_of_mem _ (List.mem_cons_of_mem _ (List.mem_cons_self ..)))) 0,ceh (h.one _ (List.mem_cons_of_mem _ (List.mem_cons_of_mem _ (List.mem_cons_self ..)))) 1,ceh (h.one _ (List.mem_cons_of_mem _ (List.mem_cons_of_mem _ (List.mem_cons_self ..)))) 2,ceh (h.one _ (List.mem_cons_of_mem _ (List.mem_cons_of_mem _ (List.mem_cons_self ..)))) 3,ceh (h.one _ (List.mem_cons_of_mem _ (List.mem_cons_of_mem _ (List.mem_cons_self ..)))) 4,ceh (h.one _ (List.mem_cons_of_mem _ (List.mem_cons_of_mem _ (List.mem_cons_self ..)))) 5,ceh (h.one _ (List.mem_cons_of_mem _ (List.mem_cons_of_mem _ (List.mem_cons_self ..)))) 6,ceh (h.one _ (List.mem_cons_of_mem _ (List.mem_cons_of_mem _ (List.mem_cons_self ..)))) 7,ceh (h.one _ (List.mem_cons_of_mem _ (List.mem_cons_of_mem _ (List.mem_cons_self ..)))) 8,ceh (h.one _ (List.mem_cons_of_mem _ (List.mem_cons_of_mem _ (List.mem_cons_of_mem _ (List.mem_cons_self ..))))) 0,ceh (h.one _ (List.mem_cons_of_mem _ (List.mem_cons_of_mem _ (List.mem_cons_of_mem _ (List.mem_cons_self ..))))) 1,ceh (h.one _ (List.mem_cons_of_mem _ (List.mem_cons_of_mem _ (List.mem_cons_of_mem _ (List.mem_cons_self ..))))) 2,ceh (h.one _ (List.mem_cons_of_mem _ (List.mem_cons_of_mem _ (List.mem_cons_of_mem _ (List.mem_cons_self ..))))) 3,ceh (h.one _ (List.mem_cons_of_mem _ (List.mem_cons_of_mem _ (List.mem_cons_of_mem _ (List.mem_cons_self ..))))) 4,ceh (h.one _ (List.mem_cons_of_mem _ (List.mem_cons_of_mem _ (List.mem_cons_of_mem _ (List.mem_cons_self ..))))) 5,ceh (h.one _ (List.mem_cons_of_mem _ (List.mem_cons_of_mem _ (List.mem_cons_of_mem _ (List.mem_cons_self ..))))) 6,ceh (h.one _ (List.mem_cons_of_mem _ (List.mem_cons_of_mem _ (List.mem_cons_of_mem _ (List.mem_cons_self ..))))) 7,ceh (h.one _ (List.mem_cons_of_mem _ (List.mem_cons_of_mem _ (List.mem_cons_of_mem _ (List.mem_cons_self ..))))) 8⟩
 refine wp_region_held_drew (S:=fun w'=>Keep w w' [(w2.heap.size,#[.string fc,.string oc,.int .i64 c0,.int .i64 c1,.int .i64 c2,.int .i64 c3,.int .i64 c4,.int .i64 c5,.int .i64 c6],53),(w1.heap.size,#[.string fc,.string oc,.int .i64 c0,.int .i64 c1,.int .i64 c2,.int .i64 c3,.int .i64 c4,.int .i64 c5,.int .i64 c6],53),(w.heap.size+1,#[.string fv,.string ov,.int .i64 v0,.int .i64 v1,.int .i64 v2,.int .i64 v3,.int .i64 v4,.int .i64 v5,.int .i64 v6],53),(w.heap.size,#[.string fu,.string ou,.int .i64 u0,.int .i64 u1,.int .i64 u2,.int .i64 u3,.int .i64 u4,.int .i64 u5,.int .i64 u6],53)]∧w'.cell? ⟨w2.heap.size,0,none⟩=some (.string fc)∧w'.cell? ⟨w2.heap.size,1,none⟩=some (.string oc)∧w'.cell? ⟨w2.heap.size,2,none⟩=some (.int .i64 c0)∧w'.cell? ⟨w2.heap.size,3,none⟩=some (.int .i64 c1)∧w'.cell? ⟨w2.heap.size,4,none⟩=some (.int .i64 c2)∧w'.cell? ⟨w2.heap.size,5,none⟩=some (.int .i64 c3)∧w'.cell? ⟨w2.heap.size,6,none⟩=some (.int .i64 c4)∧w'.cell? ⟨w2.heap.size,7,none⟩=some (.int .i64 c5)∧w'.cell? ⟨w2.heap.size,8,none⟩=some (.int .i64 c6)∧w'.cell? ⟨w1.heap.size,0,none⟩=some (.string fc)∧w'.cell? ⟨w1.heap.size,1,none⟩=some (.string oc)∧w'.cell? ⟨w1.heap.size,2,none⟩=some (.int .i64 c0)∧w'.cell? ⟨w1.heap.size,3,none⟩=some (.int .i64 c1)∧w'.cell? ⟨w1.heap.size,4,none⟩=some (.int .i64 c2)∧w'.cell? ⟨w1.heap.size,5,none⟩=some (.int .i64 c3)∧w'.cell? ⟨w1.heap.size,6,none⟩=some (.int .i64 c4)∧w'.cell? ⟨w1.heap.size,7,none⟩=some (.int .i64 c5)∧w'.cell? ⟨w1.heap.size,8,none⟩=some (.int .i64 c6)∧w'.cell? ⟨w.heap.size+1,0,none⟩=some (.string fv)∧w'.cell? ⟨w.heap.size+1,1,none⟩=some (.string ov)∧w'.cell? ⟨w.heap.size+1,2,none⟩=some (.int .i64 v0)∧w'.cell? ⟨w.heap.size+1,3,none⟩=some (.int .i64 v1)∧w'.cell? ⟨w.heap.size+1,4,none⟩=some (.int .i64 v2)∧w'.cell? ⟨w.heap.size+1,5,none⟩=some (.int .i64 v3)∧w'.cell? ⟨w.heap.size+1,6,none⟩=some (.int .i64 v4)∧w'.cell? ⟨w.heap.size+1,7,none⟩=some (.int .i64 v5)∧w'.cell? ⟨w.heap.size+1,8,none⟩=some (.int .i64 v6)∧w'.cell? ⟨w.heap.size,0,none⟩=some (.string fu)∧w'.cell? ⟨w.heap.size,1,none⟩=some (.string ou)∧w'.cell? ⟨w.heap.size,2,none⟩=some (.int .i64 u0)∧w'.cell? ⟨w.heap.size,3,none⟩=some (.int .i64 u1)∧w'.cell? ⟨w.heap.size,4,none⟩=some (.int .i64 u2)∧w'.cell? ⟨w.heap.size,5,none⟩=some (.int .i64 u3)∧w'.cell? ⟨w.heap.size,6,none⟩=some (.int .i64 u4)∧w'.cell? ⟨w.heap.size,7,none⟩=some (.int .i64 u5)∧w'.cell? ⟨w.heap.size,8,none⟩=some (.int .i64 u6)) (by kernel_rfl) (KB.out _ M6.out.drew) (fun hHeld=>?_)
 clear M6
 refine wpAnyH_take (i:=0) (v:=(.agg #[.string fc,.string oc,.int .i64 c0,.int .i64 c1,.int .i64 c2,.int .i64 c3,.int .i64 c4,.int .i64 c5,.int .i64 c6])) rfl (by kernel_rfl) (by kernel_rfl) (by kernel_rfl) (fun _ _ _ h=>h) (Or.inl ⟨by rfl,by intro W hSw;clear hHeld;go_split_ands;go_simp⟩) (by assumption) ?_
 simp only [List.getElem_toArray,List.getElem_cons_zero,Act.put,List.setIfInBounds_toArray,List.set_cons_zero,List.set_cons_succ]
 refine wpAnyH_take (i:=1) (v:=(.agg #[.string fc,.string oc,.int .i64 c0,.int .i64 c1,.int .i64 c2,.int .i64 c3,.int .i64 c4,.int .i64 c5,.int .i64 c6])) rfl (by kernel_rfl) (by kernel_rfl) (by kernel_rfl) (fun _ _ _ h=>h) (Or.inl ⟨by rfl,by intro W hSw;clear hHeld;go_split_ands;go_simp⟩) (by assumption) ?_
 simp only [List.getElem_toArray,List.getElem_cons_zero,List.getElem_cons_succ,Act.put,List.setIfInBounds_toArray,List.set_cons_zero,List.set_cons_succ]
 refine wpAnyH_take (i:=2) (v:=(.bool true)) rfl (by kernel_rfl) (by kernel_rfl) (by kernel_rfl) (fun _ _ _ h=>h) (Or.inl ⟨by rfl,by intro W hSw;clear hHeld;go_split_ands;go_simp⟩) (by assumption) ?_
 simp only [List.getElem_toArray,List.getElem_cons_zero,List.getElem_cons_succ,Act.put,List.setIfInBounds_toArray,List.set_cons_zero,List.set_cons_succ]
 refine wpAnyH_take (i:=3) (v:=(.bool true)) rfl (by kernel_rfl) (by kernel_rfl) (by kernel_rfl) (fun _ _ _ h=>h) (Or.inl ⟨by rfl,by intro W hSw;clear hHeld;go_split_ands;go_simp⟩) (by assumption) ?_
 simp only [List.getElem_toArray,List.getElem_cons_zero,List.getElem_cons_succ,Act.put,List.setIfInBounds_toArray,List.set_cons_zero,List.set_cons_succ]
 refine wpAnyH_take (i:=4) (v:=(.int .i64 cc)) rfl (by kernel_rfl) (by kernel_rfl) (by kernel_rfl) (fun _ _ _ h=>h) (Or.inl ⟨by rfl,by intro W hSw;clear hHeld;go_split_ands;go_simp⟩) (by assumption) ?_
 simp only [List.getElem_toArray,List.getElem_cons_zero,List.getElem_cons_succ,Act.put,List.setIfInBounds_toArray,List.set_cons_zero,List.set_cons_succ]
 refine wpAnyH_take (i:=5) (v:=(.int .i64 cc)) rfl (by kernel_rfl) (by kernel_rfl) (by kernel_rfl) (fun _ _ _ h=>h) (Or.inl ⟨by rfl,by intro W hSw;clear hHeld;go_split_ands;go_simp⟩) (by assumption) ?_
 simp only [List.getElem_toArray,List.getElem_cons_zero,List.getElem_cons_succ,Act.put,List.setIfInBounds_toArray,List.set_cons_zero,List.set_cons_succ]
 refine wpAnyH_take (i:=6) (v:=(.bool true)) rfl (by kernel_rfl) (by kernel_rfl) (by kernel_rfl) (fun _ _ _ h=>h) (Or.inl ⟨by rfl,by intro W hSw;clear hHeld;go_split_ands;go_simp⟩) (by assumption) ?_
 simp only [List.getElem_toArray,List.getElem_cons_zero,List.getElem_cons_succ,Act.put,List.setIfInBounds_toArray,List.set_cons_zero,List.set_cons_succ]
 refine wpAnyH_take (i:=7) (v:=(.bool true)) rfl (by kernel_rfl) (by kernel_rfl) (by kernel_rfl) (fun _ _ _ h=>h) (Or.inl ⟨by rfl,by intro W hSw;clear hHeld;go_split_ands;go_simp⟩) (by assumption) ?_
 simp only [List.getElem_toArray,List.getElem_cons_zero,List.getElem_cons_succ,Act.put,List.setIfInBounds_toArray,List.set_cons_zero,List.set_cons_succ]
 refine wpAnyH_take (i:=8) (v:=(.bool true)) rfl (by kernel_rfl) (by kernel_rfl) (by kernel_rfl) (fun _ _ _ h=>h) (Or.inl ⟨by rfl,by intro W hSw;clear hHeld;go_split_ands;go_simp⟩) (by assumption) ?_
 simp only [List.getElem_toArray,List.getElem_cons_zero,List.getElem_cons_succ,Act.put,List.setIfInBounds_toArray,List.set_cons_zero,List.set_cons_succ]
 refine wpAnyH_take (i:=9) (v:=(.agg #[.string fu,.string ou,.int .i64 u0,.int .i64 u1,.int .i64 u2,.int .i64 u3,.int .i64 u4,.int .i64 u5,.int .i64 u6])) rfl (by kernel_rfl) (by kernel_rfl) (by kernel_rfl) (fun _ _ _ h=>h) (Or.inl ⟨by rfl,by intro W hSw;clear hHeld;go_split_ands;go_simp⟩) (by assumption) ?_
 simp only [List.getElem_toArray,List.getElem_cons_zero,List.getElem_cons_succ,Act.put,List.setIfInBounds_toArray,List.set_cons_zero,List.set_cons_succ]
 refine wpAnyH_take (i:=10) (v:=(.agg #[.string fv,.string ov,.int .i64 v0,.int .i64 v1,.int .i64 v2,.int .i64 v3,.int .i64 v4,.int .i64 v5,.int .i64 v6])) rfl (by kernel_rfl) (by kernel_rfl) (by kernel_rfl) (fun _ _ _ h=>h) (Or.inl ⟨by rfl,by intro W hSw;clear hHeld;go_split_ands;go_simp⟩) (by assumption) ?_
 simp only [List.getElem_toArray,List.getElem_cons_zero,List.getElem_cons_succ,Act.put,List.setIfInBounds_toArray,List.set_cons_zero,List.set_cons_succ]
 refine wpAnyH_take (i:=12) (v:=(.agg #[.string fu,.string ou,.int .i64 u0,.int .i64 u1,.int .i64 u2,.int .i64 u3,.int .i64 u4,.int .i64 u5,.int .i64 u6])) rfl (by kernel_rfl) (by kernel_rfl) (by kernel_rfl) (fun _ _ _ h=>h) (Or.inl ⟨by rfl,by intro W hSw;clear hHeld;go_split_ands;go_simp⟩) (by assumption) ?_
 simp only [List.getElem_toArray,List.getElem_cons_zero,List.getElem_cons_succ,Act.put,List.setIfInBounds_toArray,List.set_cons_zero,List.set_cons_succ]
 refine wpAnyH_take (i:=13) (v:=(.agg #[.string fv,.string ov,.int .i64 v0,.int .i64 v1,.int .i64 v2,.int .i64 v3,.int .i64 v4,.int .i64 v5,.int .i64 v6])) rfl (by kernel_rfl) (by kernel_rfl) (by kernel_rfl) (fun _ _ _ h=>h) (Or.inl ⟨by rfl,by intro W hSw;clear hHeld;go_split_ands;go_simp⟩) (by assumption) ?_
 simp only [List.getElem_toArray,List.getElem_cons_zero,List.getElem_cons_succ,Act.put,List.setIfInBounds_toArray,List.set_cons_zero,List.set_cons_succ]
 refine wpAnyH_ready (rs:=[11]) (by kernel_rfl) (by simp) ?_
 refine AllReadyH.cons (i:=11) rfl (fun K hK=>?_) AllReadyH.nil
 go_simp
 refine (h59.out _ hHeld.1.below).mono ?_
 rintro e v1 ⟨rfl,hb1⟩
 go_simp
 refine hK.out _ _ (KB.out _ (hHeld.1.next hb1)) (fun hHeld=>?_)
 clear hK K
 refine wpAnyH_ready (rs:=[14]) (by kernel_rfl) (by simp) ?_
 refine AllReadyH.cons (i:=14) rfl (fun K hK=>?_) AllReadyH.nil
 go_simp
 refine (h66.out _ hHeld.1.below).mono ?_
 rintro e v2 ⟨rfl,hb2⟩
 go_simp
 refine hK.out _ _ (KB.out _ (hHeld.1.next hb2)) (fun hHeld=>?_)
 clear hK K
 refine wpAnyH_take (i:=15) (v:=(.bool true)) rfl (by kernel_rfl) (by kernel_rfl) (by kernel_rfl) (fun _ _ _ h=>h) (Or.inl ⟨by rfl,by intro W hSw;clear hHeld;go_split_ands;go_simp⟩) (by assumption) ?_
 simp only [List.getElem_toArray,List.getElem_cons_zero,List.getElem_cons_succ,Act.put,List.setIfInBounds_toArray,List.set_cons_zero,List.set_cons_succ]
 refine wpAnyH_take (i:=16) (v:=(.bool true)) rfl (by kernel_rfl) (by kernel_rfl) (by kernel_rfl) (fun _ _ _ h=>h) (Or.inl ⟨by rfl,by intro W hSw;clear hHeld;go_split_ands;go_simp⟩) (by assumption) ?_
 simp only [List.getElem_toArray,List.getElem_cons_zero,List.getElem_cons_succ,Act.put,List.setIfInBounds_toArray,List.set_cons_zero,List.set_cons_succ]
 refine wpAnyH_take (i:=17) (v:=(.bool true)) rfl (by kernel_rfl) (by kernel_rfl) (by kernel_rfl) (fun _ _ _ h=>h) (Or.inl ⟨by rfl,by intro W hSw;clear hHeld;go_split_ands;go_simp⟩) (by assumption) ?_
 simp only [List.getElem_toArray,List.getElem_cons_zero,List.getElem_cons_succ,Act.put,List.setIfInBounds_toArray,List.set_cons_zero,List.set_cons_succ]
 refine wpAnyH_ready (rs:=[18]) (by kernel_rfl) (by simp) ?_
 refine AllReadyH.cons (i:=18) rfl (fun K hK=>?_) AllReadyH.nil
 go_simp
 refine (hw.out _ hHeld.1.below).mono ?_
 rintro e v3 ⟨rfl,hb3⟩
 go_simp
 refine hK.out _ _ (KB.out _ (hHeld.1.next hb3)) (fun hHeld=>?_)
 clear hK K
 refine wpAnyH_take (i:=19) (v:=(.bool true)) rfl (by kernel_rfl) (by kernel_rfl) (by kernel_rfl) (fun _ _ _ h=>h) (Or.inl ⟨by rfl,by intro W hSw;clear hHeld;go_split_ands;go_simp⟩) (by assumption) ?_
 simp only [List.getElem_toArray,List.getElem_cons_zero,List.getElem_cons_succ,Act.put,List.setIfInBounds_toArray,List.set_cons_zero,List.set_cons_succ]
 refine wpAnyH_take (i:=20) (v:=(.bool true)) rfl (by kernel_rfl) (by kernel_rfl) (by kernel_rfl) (fun _ _ _ h=>h) (Or.inl ⟨by rfl,by intro W hSw;clear hHeld;go_split_ands;go_simp⟩) (by assumption) ?_
 simp only [List.getElem_toArray,List.getElem_cons_zero,List.getElem_cons_succ,Act.put,List.setIfInBounds_toArray,List.set_cons_zero,List.set_cons_succ]
 refine wpAnyH_done (by kernel_rfl) ?_ _
 go_wp2_with fail
 go_ret
 exact ⟨rfl,hHeld.1.below⟩
theorem rpower_any (fu ou:ByteArray) (u0 u1 u2 u3 u4 u5 u6:Int) (n:Int) (w:World):Calls Tryz.prog 65 #[.agg #[.string fu,.string ou,.int .i64 u0,.int .i64 u1,.int .i64 u2,.int .i64 u3,.int .i64 u4,.int .i64 u5,.int .i64 u6],.int .i64 n] w (UnitPost (powT (tU fu ou u0 u1 u2 u3 u4 u5 u6) n) w):=by
 have hp:=fun W (_:Below w.heap.size w W)=>rpl_any fu ou u0 u1 u2 u3 u4 u5 u6 W
 have hn:=fun W=>within_any n W
 unfold powT
 cases h1:plainT (tU fu ou u0 u1 u2 u3 u4 u5 u6) with
 | false =>
  rw [h1] at hp
  exact (rpower_no1 fu ou u0 u1 u2 u3 u4 u5 u6 n w (hiD hp)).mono fun e w' h=>⟨_,_,_,_,_,_,_,_,_,h.1,rfl,h.2⟩
 | true =>
  rw [h1] at hp
  cases h2:isPow n with
  | false =>
   rw [h2] at hn
   exact (rpower_no2 fu ou u0 u1 u2 u3 u4 u5 u6 n w (hiD hp) (hiD hn)).mono fun e w' h=>⟨_,_,_,_,_,_,_,_,_,h.1,rfl,h.2⟩
  | true =>
   rw [h2] at hn
   have hv:valT [49]=1:=valT_some num_one
   have hpl:plainT (tU ⟨#[49]⟩ ⟨#[48]⟩ 0 0 0 0 0 0 0)=true:=plainT_iff.2 ⟨by rw [show (tU ⟨#[49]⟩ ⟨#[48]⟩ 0 0 0 0 0 0 0).f=[49] from rfl,hv];exact num_one,by rw [show (tU ⟨#[49]⟩ ⟨#[48]⟩ 0 0 0 0 0 0 0).f=[49] from rfl,hv];decide,by decide,rfl⟩
   have he:combT (tU ⟨#[49]⟩ ⟨#[48]⟩ 0 0 0 0 0 0 0) (tU fu ou u0 u1 u2 u3 u4 u5 u6) n=mkT (valT fu.data.toList^n) [u0*n,u1*n,u2*n,u3*n,u4*n,u5*n,u6*n]:=by
    unfold combT
    rw [hpl,h1,show (true&&true)=true from rfl,if_pos rfl,show valT (tU ⟨#[49]⟩ ⟨#[48]⟩ 0 0 0 0 0 0 0).f=1 from hv,Rat.one_mul]
    show mkT _ [0+u0*n,0+u1*n,0+u2*n,0+u3*n,0+u4*n,0+u5*n,0+u6*n]=_
    simp only [Int.zero_add]
    rfl
   obtain ⟨c,hc⟩:∃ c,c=(mkT (valT fu.data.toList^n) [u0*n,u1*n,u2*n,u3*n,u4*n,u5*n,u6*n]).2:=⟨_,rfl⟩
   obtain ⟨fa,oa,a0,a1,a2,a3,a4,a5,a6,hT⟩:=tU_of (mkT_len (q:=valT fu.data.toList^n) (ps:=[u0*n,u1*n,u2*n,u3*n,u4*n,u5*n,u6*n]) rfl)
   refine (rpower_ok fu ou u0 u1 u2 u3 u4 u5 u6 fa oa a0 a1 a2 a3 a4 a5 a6 n c w (hiD hp) (hiD hn) (hiD fun W=>rnounit_any W) (hiD fun W _=>(rproduct_any _ _ 0 0 0 0 0 0 0 fu ou u0 u1 u2 u3 u4 u5 u6 n (isPow_bd h2) W).mono fun e w' h=>unitPost_to fa oa a0 a1 a2 a3 a4 a5 a6 (by rw [he];exact hT) (by rw [he];exact hc) h)).mono fun e w' h=>?_
   rw [if_pos rfl,if_pos rfl]
   exact ⟨fa,oa,a0,a1,a2,a3,a4,a5,a6,by rw [h.1,hc];rfl,hT,h.2⟩
theorem products_any (fu ou:ByteArray) (u0 u1 u2 u3 u4 u5 u6:Int) (fv ov:ByteArray) (v0 v1 v2 v3 v4 v5 v6:Int) (n:Int) (w:World) (htab:Tab w):Calls Tryz.prog 11 #[.agg #[.string fu,.string ou,.int .i64 u0,.int .i64 u1,.int .i64 u2,.int .i64 u3,.int .i64 u4,.int .i64 u5,.int .i64 u6],.agg #[.string fv,.string ov,.int .i64 v0,.int .i64 v1,.int .i64 v2,.int .i64 v3,.int .i64 v4,.int .i64 v5,.int .i64 v6],.int .i64 n] w fun e w'=>e=.returned (.bool true)∧Below w.heap.size w w':=by
 obtain ⟨fa,oa,a0,a1,a2,a3,a4,a5,a6,hA⟩:=tU_of (combT_len (u:=(tU fu ou u0 u1 u2 u3 u4 u5 u6)) (v:=(tU fv ov v0 v1 v2 v3 v4 v5 v6)) 1 rfl rfl)
 obtain ⟨fb,ob,b0,b1,b2,b3,b4,b5,b6,hB⟩:=tU_of (combT_len (u:=(tU fu ou u0 u1 u2 u3 u4 u5 u6)) (v:=(tU fv ov v0 v1 v2 v3 v4 v5 v6)) (-1) rfl rfl)
 obtain ⟨fc,oc,c0,c1,c2,c3,c4,c5,c6,hC⟩:=tU_of (powT_len (u:=(tU fu ou u0 u1 u2 u3 u4 u5 u6)) n rfl)
 have hs:=fun W (hb:Below w.heap.size w W)=>same_both fu ou u0 u1 u2 u3 u4 u5 u6 fv ov v0 v1 v2 v3 v4 v5 v6 W (htab.below hb)
 exact products_walk fu ou u0 u1 u2 u3 u4 u5 u6 fv ov v0 v1 v2 v3 v4 v5 v6 fa oa a0 a1 a2 a3 a4 a5 a6 fb ob b0 b1 b2 b3 b4 b5 b6 fc oc c0 c1 c2 c3 c4 c5 c6 _ _ _ n _ w
  (hiD fun W hb=>(times_any fu ou u0 u1 u2 u3 u4 u5 u6 fv ov v0 v1 v2 v3 v4 v5 v6 W (htab.below hb)).mono fun e w' h=>unitPost_to fa oa a0 a1 a2 a3 a4 a5 a6 hA rfl h)
  (hiD fun W _=>rtimes_walk fu ou u0 u1 u2 u3 u4 u5 u6 fv ov v0 v1 v2 v3 v4 v5 v6 fa oa a0 a1 a2 a3 a4 a5 a6 _ W (hiD fun W' _=>(rproduct_any fu ou u0 u1 u2 u3 u4 u5 u6 fv ov v0 v1 v2 v3 v4 v5 v6 1 (by omega) W').mono fun e w' h=>unitPost_to fa oa a0 a1 a2 a3 a4 a5 a6 hA rfl h))
  (hiD fun W hb=>(over_any fu ou u0 u1 u2 u3 u4 u5 u6 fv ov v0 v1 v2 v3 v4 v5 v6 W (htab.below hb)).mono fun e w' h=>unitPost_to fb ob b0 b1 b2 b3 b4 b5 b6 hB rfl h)
  (hiD fun W _=>rover_walk fu ou u0 u1 u2 u3 u4 u5 u6 fv ov v0 v1 v2 v3 v4 v5 v6 fb ob b0 b1 b2 b3 b4 b5 b6 _ W (hiD fun W' _=>(rproduct_any fu ou u0 u1 u2 u3 u4 u5 u6 fv ov v0 v1 v2 v3 v4 v5 v6 (-1) (by omega) W').mono fun e w' h=>unitPost_to fb ob b0 b1 b2 b3 b4 b5 b6 hB rfl h))
  (hiD fun W hb=>(powerU_any fu ou u0 u1 u2 u3 u4 u5 u6 n W (htab.below hb)).mono fun e w' h=>unitPost_to fc oc c0 c1 c2 c3 c4 c5 c6 hC rfl h)
  (hiD fun W _=>(rpower_any fu ou u0 u1 u2 u3 u4 u5 u6 n W).mono fun e w' h=>unitPost_to fc oc c0 c1 c2 c3 c4 c5 c6 hC rfl h)
  (hiD fun W hb=>(hs W hb).1) (hiD fun W hb=>(hs W hb).2) (hiD fun W hb=>awake_any W (htab.below hb))
end Go.Proofs.YtigicjakloiliaaGreatDoor
