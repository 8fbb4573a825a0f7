/- The document's product, Times, Over, Power, Same. -/
import Derived.Test.YtigicjakloiliaaGreatDoorUK
import Derived.Test.YtigicjakloiliaaGreatDoorUI
import Derived.Test.YtigicjakloiliaaGreatDoorCy
import Derived.Test.YtigicjakloiliaaGreatDoorRf
import Derived.Test.YtigicjakloiliaaGreatDoorSB
set_option maxHeartbeats 3200000
set_option maxRecDepth 100000
namespace Go.Proofs.YtigicjakloiliaaGreatDoor
open Go.RowKit Big
open Go.Lib
theorem rone_lt:QLt 1 1:=⟨by show (1:Rat).num.natAbs<_;rw [B9_eq];decide,by show (1:Rat).den<_;rw [B9_eq];decide⟩
theorem rzero_lt:QLt 1 0:=⟨by show (0:Rat).num.natAbs<_;rw [B9_eq];decide,by show (0:Rat).den<_;rw [B9_eq];decide⟩
theorem rpow_lt {q:Rat} (h:QLt 5 q) (N:Nat):QLt (5*N+1) (q^N):=by
 induction N with
 | zero=>rw [Rat.pow_zero];exact rone_lt
 | succ n ih=>rw [Rat.pow_succ];exact (ih.mul h).mono (by omega)
theorem rzpow_lt {q:Rat} (h:QLt 5 q) (n:Int) (hn:-12≤n∧n≤12):QLt 62 (q^n):=by
 by_cases h0:0≤n
 ·obtain ⟨N,rfl⟩:=Int.eq_ofNat_of_zero_le h0
  rw [Rat.zpow_natCast];exact (rpow_lt h N).mono (by omega)
 ·obtain ⟨N,hN⟩:=Int.eq_ofNat_of_zero_le (show 0≤-n by omega)
  obtain rfl:n=-(N:Int):=by omega
  rw [Rat.zpow_neg,Rat.zpow_natCast,← Rat.one_mul ((q^N)⁻¹),← Rat.div_def]
  exact (rone_lt.quo (rpow_lt h N)).mono (by omega)
theorem raise_any {q:Rat} (hq:QLt 5 q) (n:Int) (hn:-12≤n∧n≤12) (W:World) (z:Value) (hz:QAt W z q):Calls Tryz.prog 157 #[z,.int .i64 n] W (QPostC (q^n) W):=by
 have h81:Hid (∀ W,Calls Tryz.prog 81 #[.int .i64 1] W (QPostC 1 W)):=hiD fun W=>(intq_any 1 W (by omega) (by omega)).mono fun e w' h=>QPost.c h
 have h47:Hid (∀ W u v i,i≤12→QAt W u (q^i)→QAt W v q→Calls Tryz.prog 47 #[u,v] W (QPostC (q^(i+1)) W)):=hiD fun W u v i hi hu hv=>by
  rw [Rat.pow_succ]
  exact (prod_any u v _ _ (5*i+1) 5 W (by omega) (rpow_lt hq i) hq hu hv).mono fun e w' h=>QPost.c h
 by_cases h0:0≤n
 ·obtain ⟨N,rfl⟩:=Int.eq_ofNat_of_zero_le h0
  rw [Rat.zpow_natCast]
  exact (raise_pos z q N (by omega) W hz h81 h47).mono fun e w' h=>QPost.c h
 ·obtain ⟨N,hN⟩:=Int.eq_ofNat_of_zero_le (show 0≤-n by omega)
  obtain rfl:n=-(N:Int):=by omega
  have h:=raise_neg z q N (by omega) (by omega) W hz h81 h47 (hiD fun W u v hu hv=>(quot_any u v 1 _ 1 (5*N+1) W (by omega) rone_lt (rpow_lt hq N) hu hv).mono fun e w' h=>QPost.c h)
  rw [Rat.div_def,Rat.one_mul] at h
  rw [Rat.zpow_neg,Rat.zpow_natCast]
  exact h.mono fun e w' h=>QPost.c h
theorem txt_zero9:txt 0=[48]:=txt_num num_zero
theorem arr_ext {a:ByteArray} {l:List UInt8} (h:a.data.toList=l):(⟨l.toArray⟩:ByteArray)=a:=by subst h;cases a;rfl
theorem rgive_any (r:Rat) (hr:QLt 67 r) (p0 p1 p2 p3 p4 p5 p6:Int) (sf so:ByteArray) (r0 r1 r2 r3 r4 r5 r6:Int) (code:Int) (hT:tU sf so r0 r1 r2 r3 r4 r5 r6=(mkT r [p0,p1,p2,p3,p4,p5,p6]).1) (hc:code=(mkT r [p0,p1,p2,p3,p4,p5,p6]).2) (W:World) (b:Bool) (x:Option Addr) (l c:Nat) (y:Option Addr) (m d:Nat) (hq:QAt W (.agg #[.bool b,.slice x l c,.slice y m d]) r) :
  Calls Tryz.prog 110 #[.agg #[.bool b,.slice x l c,.slice y m d,.bool false,.slice none 0 0,.slice none 0 0,.int .i64 p0,.int .i64 p1,.int .i64 p2,.int .i64 p3,.int .i64 p4,.int .i64 p5,.int .i64 p6]] W fun e w'=>e=.returned (.tuple #[.agg #[.string sf,.string so,.int .i64 r0,.int .i64 r1,.int .i64 r2,.int .i64 r3,.int .i64 r4,.int .i64 r5,.int .i64 r6],.int .i64 code])∧Below W.heap.size W w':=by
 refine give_any b x l c y m d false none 0 0 none 0 0 p0 p1 p2 p3 p4 p5 p6 r 0 ⟨(txt r).toArray⟩ ⟨(txt 0).toArray⟩ (!(txt r).isEmpty) (!(txt 0).isEmpty) ((!(txt r).isEmpty)&&inR [p0,p1,p2,p3,p4,p5,p6]&&(!(txt 0).isEmpty)) _ code W (hiD rfl) (hiD ?_) hq (QAt.zero W) (hiD fun W v hv=>text_q v r 67 W (by omega) hr hv) (hiD fun W v hv=>text_q v 0 1 W (by omega) rzero_lt hv)
 rw [txt_zero9]
 unfold mkT at hT hc
 by_cases h:txt r=[]∨inR [p0,p1,p2,p3,p4,p5,p6]=false
 ·rw [if_pos h] at hT hc
  unfold tU zeroU at hT
  simp only [UnitT.mk.injEq,List.cons.injEq,and_true] at hT
  obtain ⟨e1,e2,rfl,rfl,rfl,rfl,rfl,rfl,rfl⟩:=hT
  rw [← arr_ext e1,← arr_ext e2]
  refine .inr ⟨?_,rfl,hc⟩
  rcases h with h|h
  ·rw [h];rfl
  ·rw [h,Bool.and_false,Bool.false_and]
 ·rw [if_neg h] at hT hc
  unfold tU at hT
  simp only [UnitT.mk.injEq,List.cons.injEq,and_true] at hT
  obtain ⟨e1,e2,rfl,rfl,rfl,rfl,rfl,rfl,rfl⟩:=hT
  rw [arr_ext e1,arr_ext e2]
  refine .inl ⟨?_,rfl,hc⟩
  cases h1:txt r with
  | nil=>exact absurd (.inl h1) h
  | cons a l =>
   cases h2:inR [r0,r1,r2,r3,r4,r5,r6] with
   | false=>exact absurd (.inr h2) h
   | true=>rfl
theorem rprod_no1 (fu ou:ByteArray) (u0 u1 u2 u3 u4 u5 u6:Int) (fv ov:ByteArray) (v0 v1 v2 v3 v4 v5 v6:Int) (n:Int) (w:World) (hp:Hid (∀ W,Below w.heap.size w W→Calls Tryz.prog 115 #[.agg #[.string fu,.string ou,.int .i64 u0,.int .i64 u1,.int .i64 u2,.int .i64 u3,.int .i64 u4,.int .i64 u5,.int .i64 u6]] W fun e w'=>e=.returned (.bool false)∧Below W.heap.size W w')):Calls Tryz.prog 118 #[.agg #[.string fu,.string ou,.int .i64 u0,.int .i64 u1,.int .i64 u2,.int .i64 u3,.int .i64 u4,.int .i64 u5,.int .i64 u6],.agg #[.string fv,.string ov,.int .i64 v0,.int .i64 v1,.int .i64 v2,.int .i64 v3,.int .i64 v4,.int .i64 v5,.int .i64 v6],.int .i64 n] w fun e w'=>e=.returned (.tuple #[.agg #[.string ⟨#[]⟩,.string ⟨#[]⟩,.int .i64 0,.int .i64 0,.int .i64 0,.int .i64 0,.int .i64 0,.int .i64 0,.int .i64 0],.int .i64 10])∧Below w.heap.size w w':=by
 have KP:Hid (Keep w (((w.alloc (.cells #[.string fu,.string ou,.int .i64 u0,.int .i64 u1,.int .i64 u2,.int .i64 u3,.int .i64 u4,.int .i64 u5,.int .i64 u6] 53)).alloc (.cells #[.string fv,.string ov,.int .i64 v0,.int .i64 v1,.int .i64 v2,.int .i64 v3,.int .i64 v4,.int .i64 v5,.int .i64 v6] 53)).alloc (.cells #[.string ⟨#[]⟩,.string ⟨#[]⟩,.int .i64 0,.int .i64 0,.int .i64 0,.int .i64 0,.int .i64 0,.int .i64 0,.int .i64 0] 53)) [(w.heap.size+1,#[.string fv,.string ov,.int .i64 v0,.int .i64 v1,.int .i64 v2,.int .i64 v3,.int .i64 v4,.int .i64 v5,.int .i64 v6],53),(w.heap.size,#[.string fu,.string ou,.int .i64 u0,.int .i64 u1,.int .i64 u2,.int .i64 u3,.int .i64 u4,.int .i64 u5,.int .i64 u6],53)]∧ResU (w.heap.size+1+1) w (((w.alloc (.cells #[.string fu,.string ou,.int .i64 u0,.int .i64 u1,.int .i64 u2,.int .i64 u3,.int .i64 u4,.int .i64 u5,.int .i64 u6] 53)).alloc (.cells #[.string fv,.string ov,.int .i64 v0,.int .i64 v1,.int .i64 v2,.int .i64 v3,.int .i64 v4,.int .i64 v5,.int .i64 v6] 53)).alloc (.cells #[.string ⟨#[]⟩,.string ⟨#[]⟩,.int .i64 0,.int .i64 0,.int .i64 0,.int .i64 0,.int .i64 0,.int .i64 0,.int .i64 0] 53))):=hiD (by
  have h0:=(((Keep.nil w).more #[.string fu,.string ou,.int .i64 u0,.int .i64 u1,.int .i64 u2,.int .i64 u3,.int .i64 u4,.int .i64 u5,.int .i64 u6] 53).more #[.string fv,.string ov,.int .i64 v0,.int .i64 v1,.int .i64 v2,.int .i64 v3,.int .i64 v4,.int .i64 v5,.int .i64 v6] 53).more #[.string ⟨#[]⟩,.string ⟨#[]⟩,.int .i64 0,.int .i64 0,.int .i64 0,.int .i64 0,.int .i64 0,.int .i64 0,.int .i64 0] 53
  rw [show ((w.alloc (.cells #[.string fu,.string ou,.int .i64 u0,.int .i64 u1,.int .i64 u2,.int .i64 u3,.int .i64 u4,.int .i64 u5,.int .i64 u6] 53)).alloc (.cells #[.string fv,.string ov,.int .i64 v0,.int .i64 v1,.int .i64 v2,.int .i64 v3,.int .i64 v4,.int .i64 v5,.int .i64 v6] 53)).heap.size=w.heap.size+1+1 from by simp,show (w.alloc (.cells #[.string fu,.string ou,.int .i64 u0,.int .i64 u1,.int .i64 u2,.int .i64 u3,.int .i64 u4,.int .i64 u5,.int .i64 u6] 53)).heap.size=w.heap.size+1 from by simp] at h0
  exact ⟨h0.sub (fun x hx=>List.mem_cons_of_mem _ hx),by simp,h0.below,_,_,_,_,_,_,_,_,_,h0.one _ (List.mem_cons_self ..)⟩)
 have hu:=KP.out.1.one _ (List.mem_cons_of_mem _ (List.mem_cons_self ..))
 have hu_0:=ceh hu 0
 have hu_1:=ceh hu 1
 have hu_2:=ceh hu 2
 have hu_3:=ceh hu 3
 have hu_4:=ceh hu 4
 have hu_5:=ceh hu 5
 have hu_6:=ceh hu 6
 have hu_7:=ceh hu 7
 have hu_8:=ceh hu 8
 clear hu
 go_enter Tryz.func118,Tryz.ntmps118
 go_wp2_with fail
 refine (hp.out _ KP.out.1.below).mono ?_
 rintro e w1 ⟨rfl,hb⟩
 have K1:=hiD (KP.out.2.next hb)
 clear hb KP hu_0 hu_1 hu_2 hu_3 hu_4 hu_5 hu_6 hu_7 hu_8
 obtain ⟨z0,z1,z2,z3,z4,z5,z6,z7,z8,hz⟩:=(K1.out).z
 have k0:=ceh hz 0
 have e0:=foh hz 0
 have k1:=ceh hz 1
 have e1:=foh hz 1
 have k2:=ceh hz 2
 have e2:=foh hz 2
 have k3:=ceh hz 3
 have e3:=foh hz 3
 have k4:=ceh hz 4
 have e4:=foh hz 4
 have k5:=ceh hz 5
 have e5:=foh hz 5
 have k6:=ceh hz 6
 have e6:=foh hz 6
 have k7:=ceh hz 7
 have e7:=foh hz 7
 have k8:=ceh hz 8
 have e8:=foh hz 8
 have HF:=hiD ((K1.out).put9 (by omega) (.string ⟨#[]⟩) (.string ⟨#[]⟩) (.int .i64 0) (.int .i64 0) (.int .i64 0) (.int .i64 0) (.int .i64 0) (.int .i64 0) (.int .i64 0))
 clear hz K1
 go_wp2_with fail
 refine bodyPost_ret (v:=.tuple #[.agg #[.string ⟨#[]⟩,.string ⟨#[]⟩,.int .i64 0,.int .i64 0,.int .i64 0,.int .i64 0,.int .i64 0,.int .i64 0,.int .i64 0],.int .i64 10]) (by simp [results,Tryz.results118,go_sem,k0,k1,k2,k3,k4,k5,k6,k7,k8]) rfl ?_
 exact ⟨rfl,HF.out⟩
theorem rprod_no2 (fu ou:ByteArray) (u0 u1 u2 u3 u4 u5 u6:Int) (fv ov:ByteArray) (v0 v1 v2 v3 v4 v5 v6:Int) (n:Int) (w:World) (hp:Hid (∀ W,Below w.heap.size w W→Calls Tryz.prog 115 #[.agg #[.string fu,.string ou,.int .i64 u0,.int .i64 u1,.int .i64 u2,.int .i64 u3,.int .i64 u4,.int .i64 u5,.int .i64 u6]] W fun e w'=>e=.returned (.bool true)∧Below W.heap.size W w')) (hq:Hid (∀ W,Below w.heap.size w W→Calls Tryz.prog 115 #[.agg #[.string fv,.string ov,.int .i64 v0,.int .i64 v1,.int .i64 v2,.int .i64 v3,.int .i64 v4,.int .i64 v5,.int .i64 v6]] W fun e w'=>e=.returned (.bool false)∧Below W.heap.size W w')):Calls Tryz.prog 118 #[.agg #[.string fu,.string ou,.int .i64 u0,.int .i64 u1,.int .i64 u2,.int .i64 u3,.int .i64 u4,.int .i64 u5,.int .i64 u6],.agg #[.string fv,.string ov,.int .i64 v0,.int .i64 v1,.int .i64 v2,.int .i64 v3,.int .i64 v4,.int .i64 v5,.int .i64 v6],.int .i64 n] w fun e w'=>e=.returned (.tuple #[.agg #[.string ⟨#[]⟩,.string ⟨#[]⟩,.int .i64 0,.int .i64 0,.int .i64 0,.int .i64 0,.int .i64 0,.int .i64 0,.int .i64 0],.int .i64 10])∧Below w.heap.size w w':=by
 have KP:Hid (Keep w (((w.alloc (.cells #[.string fu,.string ou,.int .i64 u0,.int .i64 u1,.int .i64 u2,.int .i64 u3,.int .i64 u4,.int .i64 u5,.int .i64 u6] 53)).alloc (.cells #[.string fv,.string ov,.int .i64 v0,.int .i64 v1,.int .i64 v2,.int .i64 v3,.int .i64 v4,.int .i64 v5,.int .i64 v6] 53)).alloc (.cells #[.string ⟨#[]⟩,.string ⟨#[]⟩,.int .i64 0,.int .i64 0,.int .i64 0,.int .i64 0,.int .i64 0,.int .i64 0,.int .i64 0] 53)) [(w.heap.size+1,#[.string fv,.string ov,.int .i64 v0,.int .i64 v1,.int .i64 v2,.int .i64 v3,.int .i64 v4,.int .i64 v5,.int .i64 v6],53),(w.heap.size,#[.string fu,.string ou,.int .i64 u0,.int .i64 u1,.int .i64 u2,.int .i64 u3,.int .i64 u4,.int .i64 u5,.int .i64 u6],53)]∧ResU (w.heap.size+1+1) w (((w.alloc (.cells #[.string fu,.string ou,.int .i64 u0,.int .i64 u1,.int .i64 u2,.int .i64 u3,.int .i64 u4,.int .i64 u5,.int .i64 u6] 53)).alloc (.cells #[.string fv,.string ov,.int .i64 v0,.int .i64 v1,.int .i64 v2,.int .i64 v3,.int .i64 v4,.int .i64 v5,.int .i64 v6] 53)).alloc (.cells #[.string ⟨#[]⟩,.string ⟨#[]⟩,.int .i64 0,.int .i64 0,.int .i64 0,.int .i64 0,.int .i64 0,.int .i64 0,.int .i64 0] 53))):=hiD (by
  have h0:=(((Keep.nil w).more #[.string fu,.string ou,.int .i64 u0,.int .i64 u1,.int .i64 u2,.int .i64 u3,.int .i64 u4,.int .i64 u5,.int .i64 u6] 53).more #[.string fv,.string ov,.int .i64 v0,.int .i64 v1,.int .i64 v2,.int .i64 v3,.int .i64 v4,.int .i64 v5,.int .i64 v6] 53).more #[.string ⟨#[]⟩,.string ⟨#[]⟩,.int .i64 0,.int .i64 0,.int .i64 0,.int .i64 0,.int .i64 0,.int .i64 0,.int .i64 0] 53
  rw [show ((w.alloc (.cells #[.string fu,.string ou,.int .i64 u0,.int .i64 u1,.int .i64 u2,.int .i64 u3,.int .i64 u4,.int .i64 u5,.int .i64 u6] 53)).alloc (.cells #[.string fv,.string ov,.int .i64 v0,.int .i64 v1,.int .i64 v2,.int .i64 v3,.int .i64 v4,.int .i64 v5,.int .i64 v6] 53)).heap.size=w.heap.size+1+1 from by simp,show (w.alloc (.cells #[.string fu,.string ou,.int .i64 u0,.int .i64 u1,.int .i64 u2,.int .i64 u3,.int .i64 u4,.int .i64 u5,.int .i64 u6] 53)).heap.size=w.heap.size+1 from by simp] at h0
  exact ⟨h0.sub (fun x hx=>List.mem_cons_of_mem _ hx),by simp,h0.below,_,_,_,_,_,_,_,_,_,h0.one _ (List.mem_cons_self ..)⟩)
 have hu:=KP.out.1.one _ (List.mem_cons_of_mem _ (List.mem_cons_self ..))
 have hu_0:=ceh hu 0
 have hu_1:=ceh hu 1
 have hu_2:=ceh hu 2
 have hu_3:=ceh hu 3
 have hu_4:=ceh hu 4
 have hu_5:=ceh hu 5
 have hu_6:=ceh hu 6
 have hu_7:=ceh hu 7
 have hu_8:=ceh hu 8
 clear hu
 go_enter Tryz.func118,Tryz.ntmps118
 go_wp2_with fail
 refine (hp.out _ KP.out.1.below).mono ?_
 rintro e w1 ⟨rfl,hb⟩
 have K1:=hiD (And.intro (KP.out.1.next hb) (KP.out.2.next hb))
 clear hb KP hu_0 hu_1 hu_2 hu_3 hu_4 hu_5 hu_6 hu_7 hu_8
 have hv:=K1.out.1.one _ (List.mem_cons_self ..)
 have hv_0:=ceh hv 0
 have hv_1:=ceh hv 1
 have hv_2:=ceh hv 2
 have hv_3:=ceh hv 3
 have hv_4:=ceh hv 4
 have hv_5:=ceh hv 5
 have hv_6:=ceh hv 6
 have hv_7:=ceh hv 7
 have hv_8:=ceh hv 8
 clear hv
 go_wp2_with fail
 refine (hq.out _ K1.out.1.below).mono ?_
 rintro e w2 ⟨rfl,hb⟩
 have K2:=hiD (K1.out.2.next hb)
 clear hb K1 hv_0 hv_1 hv_2 hv_3 hv_4 hv_5 hv_6 hv_7 hv_8
 obtain ⟨z0,z1,z2,z3,z4,z5,z6,z7,z8,hz⟩:=(K2.out).z
 have k0:=ceh hz 0
 have e0:=foh hz 0
 have k1:=ceh hz 1
 have e1:=foh hz 1
 have k2:=ceh hz 2
 have e2:=foh hz 2
 have k3:=ceh hz 3
 have e3:=foh hz 3
 have k4:=ceh hz 4
 have e4:=foh hz 4
 have k5:=ceh hz 5
 have e5:=foh hz 5
 have k6:=ceh hz 6
 have e6:=foh hz 6
 have k7:=ceh hz 7
 have e7:=foh hz 7
 have k8:=ceh hz 8
 have e8:=foh hz 8
 have HF:=hiD ((K2.out).put9 (by omega) (.string ⟨#[]⟩) (.string ⟨#[]⟩) (.int .i64 0) (.int .i64 0) (.int .i64 0) (.int .i64 0) (.int .i64 0) (.int .i64 0) (.int .i64 0))
 clear hz K2
 go_wp2_with fail
 refine bodyPost_ret (v:=.tuple #[.agg #[.string ⟨#[]⟩,.string ⟨#[]⟩,.int .i64 0,.int .i64 0,.int .i64 0,.int .i64 0,.int .i64 0,.int .i64 0,.int .i64 0],.int .i64 10]) (by simp [results,Tryz.results118,go_sem,k0,k1,k2,k3,k4,k5,k6,k7,k8]) rfl ?_
 exact ⟨rfl,HF.out⟩
theorem wrap_lin {u v n:Int} (hu:-12≤u∧u≤12) (hv:-12≤v∧v≤12) (hn:-12≤n∧n≤12):IntKind.i64.wrap (n*v)=n*v∧IntKind.i64.wrap (u+n*v)=u+n*v:=by
 have h1:-144≤n*v∧n*v≤144:=by
  have hc:v=-12∨v=-11∨v=-10∨v=-9∨v=-8∨v=-7∨v=-6∨v=-5∨v=-4∨v=-3∨v=-2∨v=-1∨v=0∨v=1∨v=2∨v=3∨v=4∨v=5∨v=6∨v=7∨v=8∨v=9∨v=10∨v=11∨v=12:=by omega
  rcases hc with rfl|rfl|rfl|rfl|rfl|rfl|rfl|rfl|rfl|rfl|rfl|rfl|rfl|rfl|rfl|rfl|rfl|rfl|rfl|rfl|rfl|rfl|rfl|rfl|rfl<;>omega
 exact ⟨IntWalk.i64_in _ (by omega),IntWalk.i64_in _ (by omega)⟩
theorem inR_get {l:List Int} (h:inR l=true) (k:Nat):-12≤l.getD k 0∧l.getD k 0≤12:=by
 rw [List.getD_eq_getElem?_getD]
 cases h1:l[k]? with
 | none=>exact ⟨by decide,by decide⟩
 | some x=>exact isPow_bd (List.all_eq_true.1 h x (List.mem_of_getElem? h1))
theorem rproduct_any (fu ou:ByteArray) (u0 u1 u2 u3 u4 u5 u6:Int) (fv ov:ByteArray) (v0 v1 v2 v3 v4 v5 v6:Int) (n:Int) (hn:-12≤n∧n≤12) (w:World):Calls Tryz.prog 118 #[.agg #[.string fu,.string ou,.int .i64 u0,.int .i64 u1,.int .i64 u2,.int .i64 u3,.int .i64 u4,.int .i64 u5,.int .i64 u6],.agg #[.string fv,.string ov,.int .i64 v0,.int .i64 v1,.int .i64 v2,.int .i64 v3,.int .i64 v4,.int .i64 v5,.int .i64 v6],.int .i64 n] w (UnitPost (combT (tU fu ou u0 u1 u2 u3 u4 u5 u6) (tU fv ov v0 v1 v2 v3 v4 v5 v6) n) w):=by
 have hp:=fun W (_:Below w.heap.size w W)=>rpl_any fu ou u0 u1 u2 u3 u4 u5 u6 W
 have hq:=fun W (_:Below w.heap.size w W)=>rpl_any fv ov v0 v1 v2 v3 v4 v5 v6 W
 unfold combT
 cases h1:plainT (tU fu ou u0 u1 u2 u3 u4 u5 u6) with
 | false =>
  rw [h1] at hp
  exact (rprod_no1 fu ou u0 u1 u2 u3 u4 u5 u6 fv ov v0 v1 v2 v3 v4 v5 v6 n w (hiD hp)).mono fun e w' h=>⟨_,_,_,_,_,_,_,_,_,h.1,rfl,h.2⟩
 | true =>
  rw [h1] at hp
  cases h2:plainT (tU fv ov v0 v1 v2 v3 v4 v5 v6) with
  | false =>
   rw [h2] at hq
   exact (rprod_no2 fu ou u0 u1 u2 u3 u4 u5 u6 fv ov v0 v1 v2 v3 v4 v5 v6 n w (hiD hp) (hiD hq)).mono fun e w' h=>⟨_,_,_,_,_,_,_,_,_,h.1,rfl,h.2⟩
  | true =>
   rw [h2] at hq
   have su:=fun W (_:Below w.heap.size w W)=>uread_is fu ou u0 u1 u2 u3 u4 u5 u6 W
   have sv:=fun W (_:Below w.heap.size w W)=>uread_is fv ov v0 v1 v2 v3 v4 v5 v6 W
   have iu:=(plainT_iff.1 h1).2.2.1
   have iv:=(plainT_iff.1 h2).2.2.1
   have eu:validT (tU fu ou u0 u1 u2 u3 u4 u5 u6)=true:=by unfold plainT at h1;exact (Bool.and_eq_true_iff.1 h1).1
   have ev:validT (tU fv ov v0 v1 v2 v3 v4 v5 v6)=true:=by unfold plainT at h2;exact (Bool.and_eq_true_iff.1 h2).1
   rw [eu] at su
   rw [ev] at sv
   have lu:=valT_lt fu.data.toList
   have lv:=valT_lt fv.data.toList
   have lr:QLt 67 (valT fu.data.toList*valT fv.data.toList^n):=(lu.mul (rzpow_lt lv n hn)).mono (by omega)
   obtain ⟨c,hc⟩:∃ c,c=(mkT (valT fu.data.toList*valT fv.data.toList^n) [u0+n*v0,u1+n*v1,u2+n*v2,u3+n*v3,u4+n*v4,u5+n*v5,u6+n*v6]).2:=⟨_,rfl⟩
   obtain ⟨sf,so,r0,r1,r2,r3,r4,r5,r6,hT⟩:=tU_of (mkT_len (q:=valT fu.data.toList*valT fv.data.toList^n) (ps:=[u0+n*v0,u1+n*v1,u2+n*v2,u3+n*v3,u4+n*v4,u5+n*v5,u6+n*v6]) rfl)
   refine (rproduct_ok fu ou u0 u1 u2 u3 u4 u5 u6 fv ov v0 v1 v2 v3 v4 v5 v6 n (valT fu.data.toList) (valT fv.data.toList) (valT fu.data.toList*valT fv.data.toList^n) sf so r0 r1 r2 r3 r4 r5 r6 c w _ _ (hiD hp) (hiD hq) (hiD su) (hiD sv)
    (hiD fun W z hz=>raise_any lv n hn W z hz) (hiD fun W a z ha hz=>(prod_any a z _ _ 5 62 W (by omega) lu (rzpow_lt lv n hn) ha hz).mono fun e w' h=>QPost.c h)
    (hiD fun W b x l c' y m d h=>rgive_any _ lr (u0+n*v0) (u1+n*v1) (u2+n*v2) (u3+n*v3) (u4+n*v4) (u5+n*v5) (u6+n*v6) sf so r0 r1 r2 r3 r4 r5 r6 c hT hc W b x l c' y m d h)
    (hiD fun k _=>(wrap_lin (inR_get iu k) (inR_get iv k) hn).1) (hiD fun k _=>(wrap_lin (inR_get iu k) (inR_get iv k) hn).2)).mono fun e w' h=>?_
   have hz:List.zipWith (fun p r=>p+r*n) (tU fu ou u0 u1 u2 u3 u4 u5 u6).ps (tU fv ov v0 v1 v2 v3 v4 v5 v6).ps=[u0+n*v0,u1+n*v1,u2+n*v2,u3+n*v3,u4+n*v4,u5+n*v5,u6+n*v6]:=by
    show [u0+v0*n,u1+v1*n,u2+v2*n,u3+v3*n,u4+v4*n,u5+v5*n,u6+v6*n]=_
    simp only [Int.mul_comm]
   rw [show (true&&true)=true from rfl,if_pos rfl,hz]
   exact ⟨sf,so,r0,r1,r2,r3,r4,r5,r6,by rw [h.1,hc];rfl,hT,h.2⟩
end Go.Proofs.YtigicjakloiliaaGreatDoor
