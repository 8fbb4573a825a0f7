/- Contracts. -/
import Derived.Test.YtfjnipkpfbkegaaGreatDoorXUE
set_option maxHeartbeats 4000000
set_option maxRecDepth 100000
namespace Go.Proofs.YtfjnipkpfbkegaaGreatDoor
open Go.RowKit Big
theorem ypS (n:Int):zD (decide (n<0)) n.natAbs 1=(n:Rat):=by
 have h:=yal (n:Rat)
 rwa [Rat.num_intCast,Rat.den_intCast] at h
theorem yaK (z:Int) (w:World) (h1:-9223372036854775808≤z) (h2:z≤9223372036854775807):Calls Tryz.prog 37 #[.int .i64 z] w (vD (z:Rat) w):=by
 have yP:=yA (Resa.start w)
 have hq:=yA (ypS z)
 have hno:∀ W,Hid (Calls Tryz.prog 70 #[.int .u64 ((z.natAbs:Nat):Int)] W (zU z.natAbs W)):=fun W=>yA (yaA _ W (by omega))
 have jW:∀ W,Hid (Calls Tryz.prog 71 #[] W (zU 1 W)):=fun W=>yA (ycy W)
 have hmk:∀ W u v,yL W u z.natAbs→yL W v 1→Hid (Calls Tryz.prog 69 #[.bool (decide (z<0)),u,v] W (vD (z:Rat) W)):=fun W u v hu hv=>yA (by
  have h:=ybE (decide (z<0)) u v z.natAbs 1 3 W (by omega) (by rw [zN];omega) (by rw [zN];omega) hu hv
  rw [hq.out] at h;exact h)
 by_cases hz:z<0
 ·obtain ⟨m,hm⟩:∃ m:Nat,z=-(m:Int)-1:=⟨(-z-1).toNat,by omega⟩
  have hab:z.natAbs=m+1:=by omega
  have hd:decide (z<0)=true:=by simpa using hz
  rw [hab] at hno
  rw [hd] at hmk
  rw [hab] at hmk
  have hm2:(m:Int)≤9223372036854775807:=by omega
  have hmz:-(z+1)=(m:Int):=by omega
  have hm3:((m+1:Nat):Int)=(m:Int)+1:=by omega
  rw [hm3] at hno
  clear hq
  go_enter Tryz.func37,Tryz.ntmps37
  go_wp2_with fail
  refine (hno _).out.mono ?_
  rintro e w1 ⟨v1,rfl,hv1,hb1,-⟩
  obtain ⟨p1,n1,c1,rfl⟩:=hv1.slice
  have hr1:=yA (yP.out.next hb1)
  have Hv1:=yA hv1
  clear hv1 hb1
  go_wp2_with fail
  refine (jW _).out.mono ?_
  rintro e w2 ⟨v2,rfl,hv2,hb2,-⟩
  obtain ⟨p2,n2,c2,rfl⟩:=hv2.slice
  have hr2:=yA (hr1.out.next hb2)
  have hm2':=hmk w2 _ _ (Hv1.out.below hb2) hv2
  clear hv2 hb2
  go_wp2_with fail
  refine hm2'.out.mono ?_
  rintro e w3 ⟨x3,rfl,hx3,hb3⟩
  obtain ⟨p3,n3,c3,p4,n4,c4,rfl,hu3,hv3⟩:=hx3.slices
  have hr3:=yA (hr2.out.next hb3)
  obtain ⟨z0,z1,z2,l0,l1,l2,f0,f1,f2⟩:=hr3.out.slots
  obtain ⟨sb,hsb⟩:∃ sb,Hid (sb=decide ((z:Rat).num<0)):=⟨_,yA rfl⟩
  rw [← hsb.out]
  have q1:=yA (hr3.out.nat3 (Nat.le_refl _) hu3 sb p3 p4 n3 c3 n4 c4)
  have q2:=yA (hv3.imp (fun h=>hr3.out.nat3 (Nat.le_refl _) h sb p3 p4 n3 c3 n4 c4) fun h=>And.intro (hr3.out.nat3 (Nat.le_refl _) h.1 sb p3 p4 n3 c3 n4 c4) h.2)
  have q3:=yA (hr3.out.put3 (Nat.le_refl _) sb p3 p4 n3 c3 n4 c4).below
  clear hu3 hv3 hb3 hm2' hx3
  go_wp2_with fail
  refine bodyPost_ret (v:=.agg #[.bool sb,.slice p3 n3 c3,.slice p4 n4 c4]) (by simp [results,Tryz.results37,go_sem,l0,l1,l2]) rfl ?_
  exact ⟨_,rfl,⟨_,_,by rw [hsb.out],q1.out,q2.out⟩,q3.out⟩
 ·obtain ⟨m,rfl⟩:∃ m:Nat,z=(m:Int):=⟨z.toNat,by omega⟩
  have hd:decide ((m:Int)<0)=false:=by simp
  rw [hd] at hmk
  have hab:((m:Int)).natAbs=m:=by omega
  rw [hab] at hno hmk
  clear hq
  go_enter Tryz.func37,Tryz.ntmps37
  go_wp2_with fail
  refine (hno _).out.mono ?_
  rintro e w1 ⟨v1,rfl,hv1,hb1,-⟩
  obtain ⟨p1,n1,c1,rfl⟩:=hv1.slice
  have hr1:=yA (yP.out.next hb1)
  have Hv1:=yA hv1
  clear hv1 hb1
  go_wp2_with fail
  refine (jW _).out.mono ?_
  rintro e w2 ⟨v2,rfl,hv2,hb2,-⟩
  obtain ⟨p2,n2,c2,rfl⟩:=hv2.slice
  have hr2:=yA (hr1.out.next hb2)
  have hm2':=hmk w2 _ _ (Hv1.out.below hb2) hv2
  clear hv2 hb2
  go_wp2_with fail
  refine hm2'.out.mono ?_
  rintro e w3 ⟨x3,rfl,hx3,hb3⟩
  obtain ⟨p3,n3,c3,p4,n4,c4,rfl,hu3,hv3⟩:=hx3.slices
  have hr3:=yA (hr2.out.next hb3)
  obtain ⟨z0,z1,z2,l0,l1,l2,f0,f1,f2⟩:=hr3.out.slots
  obtain ⟨sb,hsb⟩:∃ sb,Hid (sb=decide (((m:Int):Rat).num<0)):=⟨_,yA rfl⟩
  rw [← hsb.out]
  have q1:=yA (hr3.out.nat3 (Nat.le_refl _) hu3 sb p3 p4 n3 c3 n4 c4)
  have q2:=yA (hv3.imp (fun h=>hr3.out.nat3 (Nat.le_refl _) h sb p3 p4 n3 c3 n4 c4) fun h=>And.intro (hr3.out.nat3 (Nat.le_refl _) h.1 sb p3 p4 n3 c3 n4 c4) h.2)
  have q3:=yA (hr3.out.put3 (Nat.le_refl _) sb p3 p4 n3 c3 n4 c4).below
  clear hu3 hv3 hb3 hm2' hx3
  go_wp2_with fail
  refine bodyPost_ret (v:=.agg #[.bool sb,.slice p3 n3 c3,.slice p4 n4 c4]) (by simp [results,Tryz.results37,go_sem,l0,l1,l2]) rfl ?_
  exact ⟨_,rfl,⟨_,_,by rw [hsb.out],q1.out,q2.out⟩,q3.out⟩
section
open Go.Lib
theorem ydu {n:Int} (h:zP n=true):-12≤n∧n≤12:=by
 unfold zP at h
 rw [Bool.and_eq_true,decide_eq_true_iff,decide_eq_true_iff] at h
 exact h
theorem ydl:uK 1 1:=⟨by show (1:Rat).num.natAbs<_;rw [zN];decide,by show (1:Rat).den<_;rw [zN];decide⟩
theorem ypT:uK 1 0:=⟨by show (0:Rat).num.natAbs<_;rw [zN];decide,by show (0:Rat).den<_;rw [zN];decide⟩
theorem yeJ {q:Rat} (h:uK 5 q) (N:Nat):uK (5*N+1) (q^N):=by
 induction N with
 | zero=>rw [Rat.pow_zero];exact ydl
 | succ n ih=>rw [Rat.pow_succ];exact (ih.mul h).mono (by omega)
theorem yjq {q:Rat} (h:uK 5 q) (n:Int) (hn:-12≤n∧n≤12):uK 62 (q^n):=by
 by_cases h0:0≤n
 ·obtain ⟨N,rfl⟩:=Int.eq_ofNat_of_zero_le h0
  rw [Rat.zpow_natCast];exact (yeJ h N).mono (by omega)
 ·obtain ⟨N,hN⟩:=Int.eq_ofNat_of_zero_le (show 0≤-n by omega)
  obtain rfl:n=-(N:Int):=by omega
  rw [Rat.zpow_neg,Rat.zpow_natCast,← Rat.one_mul ((q^N)⁻¹),← Rat.div_def]
  exact (ydl.quo (yeJ h N)).mono (by omega)
theorem ynw {q:Rat} (hq:uK 5 q) (n:Int) (hn:-12≤n∧n≤12) (W:World) (z:Value) (hz:zH W z q):Calls Tryz.prog 39 #[z,.int .i64 n] W (yaM (q^n) W):=by
 have h81:Hid (∀ W,Calls Tryz.prog 37 #[.int .i64 1] W (yaM 1 W)):=yA fun W=>(yaK 1 W (by omega) (by omega)).mono fun e w' h=>vD.c h
 have h47:Hid (∀ W u v i,i≤12→zH W u (q^i)→zH W v q→Calls Tryz.prog 38 #[u,v] W (yaM (q^(i+1)) W)):=yA fun W u v i hi hu hv=>by
  rw [Rat.pow_succ]
  exact (yfm u v _ _ (5*i+1) 5 W (by omega) (yeJ hq i) hq hu hv).mono fun e w' h=>vD.c h
 by_cases h0:0≤n
 ·obtain ⟨N,rfl⟩:=Int.eq_ofNat_of_zero_le h0
  rw [Rat.zpow_natCast]
  exact (ynu z q N (by omega) W hz h81 h47).mono fun e w' h=>vD.c h
 ·obtain ⟨N,hN⟩:=Int.eq_ofNat_of_zero_le (show 0≤-n by omega)
  obtain rfl:n=-(N:Int):=by omega
  have h:=ynv z q N (by omega) (by omega) W hz h81 h47 (yA fun W u v hu hv=>(yjl u v 1 _ 1 (5*N+1) W (by omega) ydl (yeJ hq N) hu hv).mono fun e w' h=>vD.c h)
  rw [Rat.div_def,Rat.one_mul] at h
  rw [Rat.zpow_neg,Rat.zpow_natCast]
  exact h.mono fun e w' h=>vD.c h
theorem ynx:uB 0=[48]:=yeG yfk
theorem ypU {u v n:Int} (hu:-12≤u∧u≤12) (hv:-12≤v∧v≤12) (hn:-12≤n∧n≤12):IntKind.i64.wrap (n*v)=n*v∧IntKind.i64.wrap (u+n*v)=u+n*v:=by
 have h1:-144≤n*v∧n*v≤144:=by
  have hc:v=-12∨v=-11∨v=-10∨v=-9∨v=-8∨v=-7∨v=-6∨v=-5∨v=-4∨v=-3∨v=-2∨v=-1∨v=0∨v=1∨v=2∨v=3∨v=4∨v=5∨v=6∨v=7∨v=8∨v=9∨v=10∨v=11∨v=12:=by omega
  rcases hc with rfl|rfl|rfl|rfl|rfl|rfl|rfl|rfl|rfl|rfl|rfl|rfl|rfl|rfl|rfl|rfl|rfl|rfl|rfl|rfl|rfl|rfl|rfl|rfl|rfl<;>omega
 exact ⟨IntWalk.i64_in _ (by omega),IntWalk.i64_in _ (by omega)⟩
theorem yaL (a b:Int) (w:World) (ha:-1000000000≤a∧a≤1000000000) (hb:-1000000000≤b∧b≤1000000000):Calls Tryz.prog 40 #[.int .i64 a,.int .i64 b] w (vD ((a:Rat)/(b:Rat)) w):=by
 have hl:∀ z:Int,-1000000000≤z∧z≤1000000000→uK 2 (z:Rat):=fun z h=>⟨by rw [Rat.num_intCast,zN];omega,by rw [Rat.den_intCast,zN];omega⟩
 have h1:=yA (fun W=>yaK a W (by omega) (by omega))
 have h2:=yA (fun W=>yaK b W (by omega) (by omega))
 obtain ⟨sb,hsb⟩:∃ sb,Hid (sb=decide ((((a:Rat)/(b:Rat))).num<0)):=⟨_,yA rfl⟩
 have h3:=yA (fun W (x y:Value) (hx:zH W x (a:Rat)) (hy:zH W y (b:Rat))=>(yjl x y (a:Rat) (b:Rat) 2 2 W (by omega) (hl a ha) (hl b hb) hx hy).mono fun e w' h=>h.b hsb.out)
 have yP:=yA (Resa.start w)
 clear hl
 go_enter Tryz.func40,Tryz.ntmps40
 go_wp2_with fail
 refine (h1.out _).mono ?_
 rintro e w1 ⟨x1,rfl,hx1,hb1⟩
 obtain ⟨p,n,c,p2,n2,c2,rfl,hu,hv⟩:=hx1.slices
 have hr1:=yA (yP.out.next hb1)
 have Hx1:=yA hx1
 obtain ⟨s1,hs1⟩:∃ s1,Hid (s1=decide ((a:Rat).num<0)):=⟨_,yA rfl⟩
 rw [← hs1.out] at Hx1 ⊢
 clear hx1 hu hv hb1
 go_wp2_with fail
 refine (h2.out _).mono ?_
 rintro e w2 ⟨x2,rfl,hx2,hb2⟩
 have h4:=yA (h3.out w2 _ _ (Hx1.out.below hb2) hx2)
 obtain ⟨q,m,d,q2,m2,d2,rfl,hu,hv⟩:=hx2.slices
 have hr2:=yA (hr1.out.next hb2)
 obtain ⟨s2,hs2⟩:∃ s2,Hid (s2=decide ((b:Rat).num<0)):=⟨_,yA rfl⟩
 rw [← hs2.out] at h4 ⊢
 clear hx2 hu hv hb2
 go_wp2_with fail
 refine h4.out.mono ?_
 rintro e w3 ⟨pr,nr,cr,pq,nq,cq,rfl,hr1',hr2',hb3⟩
 have hrz:=yA (hr2.out.next hb3)
 have yE:=yA (hrz.out.fin (Nat.le_refl _) hsb.out hr1' hr2')
 obtain ⟨z0,z1,z2,l0,l1,l2,f0,f1,f2⟩:=hrz.out.slots
 clear hr1' hr2' hb3
 go_wp2_with fail
 refine bodyPost_ret (v:=.agg #[.bool sb,.slice pr nr cr,.slice pq nq cq]) ?h1 rfl ?h2
 case h1=>simp [results,Tryz.results40,go_sem,l0,l1,l2]
 exact yE.out
structure SymR where
 w:List UInt8
 o:Int
 b:Int
 pre:Bool
 ps:List Int
 off:Bool
 z:Int
 p:Int
def ynE (s:SymR):List Value:=.string ⟨s.w.toArray⟩::.int .i64 s.o::.int .i64 s.b::.bool s.pre::(s.ps.map (Value.int .i64)++[.bool s.off,.int .i64 s.z,.int .i64 s.p])
def zW:List SymR:=[
 ⟨[109],1,1,true,[1,0,0,0,0,0,0],false,0,0⟩,
 ⟨[115],1,1,true,[0,0,1,0,0,0,0],false,0,0⟩,
 ⟨[75],1,1,true,[0,0,0,1,0,0,0],false,0,0⟩,
 ⟨[109,111,108],1,1,true,[0,0,0,0,1,0,0],false,0,0⟩,
 ⟨[65],1,1,true,[0,0,0,0,0,1,0],false,0,0⟩,
 ⟨[99,100],1,1,true,[0,0,0,0,0,0,1],false,0,0⟩,
 ⟨[103],1,1000,true,[0,1,0,0,0,0,0],false,0,0⟩,
 ⟨[109,105,110],60,1,false,[0,0,1,0,0,0,0],false,0,0⟩,
 ⟨[104],3600,1,false,[0,0,1,0,0,0,0],false,0,0⟩,
 ⟨[100],86400,1,false,[0,0,1,0,0,0,0],false,0,0⟩,
 ⟨[116],1000,1,true,[0,1,0,0,0,0,0],false,0,0⟩,
 ⟨[76],1,1000,true,[3,0,0,0,0,0,0],false,0,0⟩,
 ⟨[72,122],1,1,true,[0,0,-1,0,0,0,0],false,0,0⟩,
 ⟨[78],1,1,true,[1,1,-2,0,0,0,0],false,0,0⟩,
 ⟨[80,97],1,1,true,[-1,1,-2,0,0,0,0],false,0,0⟩,
 ⟨[74],1,1,true,[2,1,-2,0,0,0,0],false,0,0⟩,
 ⟨[87],1,1,true,[2,1,-3,0,0,0,0],false,0,0⟩,
 ⟨[98,97,114],100000,1,true,[-1,1,-2,0,0,0,0],false,0,0⟩,
 ⟨[100,101,103,67],1,1,false,[0,0,0,1,0,0,0],true,27315,100⟩,
 ⟨[100,101,103,70],5,9,false,[0,0,0,1,0,0,0],true,45967,180⟩]
def ycA:List Value:=zW.flatMap ynE
theorem ypV {α β:Type} {f:α→List β} {m:Nat} (l:List α) (h:∀ x ∈ l,(f x).length=m):∀ (k:Nat) (hk:k<l.length) (i:Nat),i<m→(l.flatMap f)[k*m+i]?=(f l[k])[i]?:=by
 induction l with
 | nil=>intro k hk;simp at hk
 | cons x l ih =>
  intro k hk i hi
  have hx:=h x (by simp)
  rw [List.flatMap_cons]
  cases k with
  | zero=>rw [List.getElem?_append_left (by omega)];simp
  | succ k =>
   have e:(k+1)*m+i=m+(k*m+i):=by rw [Nat.succ_mul];omega
   rw [List.getElem?_append_right (by rw [e];omega),e,hx,Nat.add_sub_cancel_left,ih (fun y hy=>h y (by simp [hy])) k (by simpa using hk) i hi]
   rfl
theorem ydv:∀ s ∈ zW,s.ps.length=7∧1≤s.o∧s.o≤100000∧1≤s.b∧s.b≤1000∧s.w.length≤4:=by
 unfold zW
 simp
theorem ypW {W:World} {g:Nat} (h:W.heap[g]?=some (.cells ycA.toArray 46 (0,0))) {k:Nat} (hk:k<zW.length) {i:Nat} (hi:i<14):W.cell? ⟨g,k*14+i,none⟩=(ynE zW[k])[i]?:=by
 have hc:=yB h (k*14+i)
 rw [hc]
 have:=ypV (f:=ynE) (m:=14) zW (fun s hs=>by unfold ynE;simp [(ydv s hs).1]) k hk i hi
 rw [← this]
 simp [ycA]
theorem ypX {o:Oper} {a:Act} {K:Act→World→Prop} {Q:Exit→Act→World→Prop} {w:World} (t n:Nat) (parts:Array (Nat × Operand)) (ho:o.op=.buildSlice t n parts) {V:Value} {w':World} (hr:(Instr.buildSlice t n (parts.map fun x=>(x.1,a.eval x.2))).run Tryz.prog w=.ok V w') (h:K (a.put o.dst V) w'):o.wp Tryz.prog a w K Q:=by
 unfold Oper.wp execOp
 simp only [ho,Sem.run_bind,Sem.run_pure,Result.andThen_ok,hr]
 exact h
theorem ykg (w:World):Calls Tryz.prog 91 #[] w fun e w'=>e=.returned (.slice (some ⟨w.heap.size,0,none⟩) 20 20)∧w'=w.alloc (.cells ycA.toArray 46):=by
 go_enter Tryz.func91,Tryz.ntmps91
 go_wp2_with fail
 refine ypX 126 20 _ rfl (V:=.slice (some ⟨w.heap.size,0,none⟩) 20 20) (w':=w.alloc (.cells ycA.toArray 46)) (by kernel_rfl) ?_
 rename_i hK
 refine hK _ _ ?_
 go_wp2_with fail
 go_ret
 exact ⟨rfl,rfl⟩
theorem ysb {c:UInt8} {k:Nat} (hk:k<256):((c.toNat:Int)==(k:Int))=(c==UInt8.ofNat k):=by
 by_cases h:c=UInt8.ofNat k
 ·subst h
  rw [beq_self_eq_true,beq_iff_eq,UInt8.toNat_ofNat',Nat.mod_eq_of_lt hk]
 ·rw [beq_eq_false_iff_ne.2 h,beq_eq_false_iff_ne]
  intro e
  apply h
  apply UInt8.toNat_inj.1
  rw [UInt8.toNat_ofNat',Nat.mod_eq_of_lt hk]
  omega
theorem ylW (w:World):Calls Tryz.prog 92 #[.int .u8 110] w (zQ (yO (jD 110)) true w):=by
 have yP:=yA (Resa.start w)
 obtain ⟨R,HR⟩:∃ R,Hid (yO (jD 110)=R):=⟨_,yA rfl⟩
 have HC:Hid (∀ W,Calls Tryz.prog 40 #[.int .i64 1,.int .i64 1000000000] W (vD R W)):=yA (fun W=>by
  have h:=yaL 1 1000000000 W (by omega) (by omega)
  rw [← HR.out,show yO (jD 110)=((1:Nat):Rat)/((1000000000:Nat):Rat) from zC rfl]
  exact h)
 obtain ⟨sb,hsb⟩:∃ sb,Hid (sb=decide (R.num<0)):=⟨_,yA rfl⟩
 rw [HR.out]
 clear HR
 go_enter Tryz.func92,Tryz.ntmps92
 go_wp2_with fail
 refine (HC.out _).mono ?_
 rintro e w1 ⟨x,rfl,hx,hb1⟩
 obtain ⟨pr,nr,cr,pq,nq,cq,rfl,hu,hv⟩:=hx.slices
 rw [← hsb.out]
 have hr1:=yA (yP.out.next hb1)
 have yE:=yA (hr1.out.fin (Nat.le_refl _) hsb.out hu hv)
 obtain ⟨z0,z1,z2,l0,l1,l2,f0,f1,f2⟩:=hr1.out.slots
 clear hu hv hb1 hx
 go_wp2_with fail
 refine bodyPost_ret (v:=.tuple #[.agg #[.bool sb,.slice pr nr cr,.slice pq nq cq],.bool true]) ?h1 rfl ?h2
 case h1=>simp [results,Tryz.results92,go_sem,l0,l1,l2]
 obtain ⟨x,hx,hq,hb⟩:=yE.out
 cases hx
 exact ⟨_,_,_,_,_,_,_,rfl,hb,fun _=>hq⟩
theorem ylX (w:World):Calls Tryz.prog 92 #[.int .u8 117] w (zQ (yO (jD 117)) true w):=by
 have yP:=yA (Resa.start w)
 obtain ⟨R,HR⟩:∃ R,Hid (yO (jD 117)=R):=⟨_,yA rfl⟩
 have HC:Hid (∀ W,Calls Tryz.prog 40 #[.int .i64 1,.int .i64 1000000] W (vD R W)):=yA (fun W=>by
  have h:=yaL 1 1000000 W (by omega) (by omega)
  rw [← HR.out,show yO (jD 117)=((1:Nat):Rat)/((1000000:Nat):Rat) from zC rfl]
  exact h)
 obtain ⟨sb,hsb⟩:∃ sb,Hid (sb=decide (R.num<0)):=⟨_,yA rfl⟩
 rw [HR.out]
 clear HR
 go_enter Tryz.func92,Tryz.ntmps92
 go_wp2_with fail
 refine (HC.out _).mono ?_
 rintro e w1 ⟨x,rfl,hx,hb1⟩
 obtain ⟨pr,nr,cr,pq,nq,cq,rfl,hu,hv⟩:=hx.slices
 rw [← hsb.out]
 have hr1:=yA (yP.out.next hb1)
 have yE:=yA (hr1.out.fin (Nat.le_refl _) hsb.out hu hv)
 obtain ⟨z0,z1,z2,l0,l1,l2,f0,f1,f2⟩:=hr1.out.slots
 clear hu hv hb1 hx
 go_wp2_with fail
 refine bodyPost_ret (v:=.tuple #[.agg #[.bool sb,.slice pr nr cr,.slice pq nq cq],.bool true]) ?h1 rfl ?h2
 case h1=>simp [results,Tryz.results92,go_sem,l0,l1,l2]
 obtain ⟨x,hx,hq,hb⟩:=yE.out
 cases hx
 exact ⟨_,_,_,_,_,_,_,rfl,hb,fun _=>hq⟩
theorem ylY (w:World):Calls Tryz.prog 92 #[.int .u8 109] w (zQ (yO (jD 109)) true w):=by
 have yP:=yA (Resa.start w)
 obtain ⟨R,HR⟩:∃ R,Hid (yO (jD 109)=R):=⟨_,yA rfl⟩
 have HC:Hid (∀ W,Calls Tryz.prog 40 #[.int .i64 1,.int .i64 1000] W (vD R W)):=yA (fun W=>by
  have h:=yaL 1 1000 W (by omega) (by omega)
  rw [← HR.out,show yO (jD 109)=((1:Nat):Rat)/((1000:Nat):Rat) from zC rfl]
  exact h)
 obtain ⟨sb,hsb⟩:∃ sb,Hid (sb=decide (R.num<0)):=⟨_,yA rfl⟩
 rw [HR.out]
 clear HR
 go_enter Tryz.func92,Tryz.ntmps92
 go_wp2_with fail
 refine (HC.out _).mono ?_
 rintro e w1 ⟨x,rfl,hx,hb1⟩
 obtain ⟨pr,nr,cr,pq,nq,cq,rfl,hu,hv⟩:=hx.slices
 rw [← hsb.out]
 have hr1:=yA (yP.out.next hb1)
 have yE:=yA (hr1.out.fin (Nat.le_refl _) hsb.out hu hv)
 obtain ⟨z0,z1,z2,l0,l1,l2,f0,f1,f2⟩:=hr1.out.slots
 clear hu hv hb1 hx
 go_wp2_with fail
 refine bodyPost_ret (v:=.tuple #[.agg #[.bool sb,.slice pr nr cr,.slice pq nq cq],.bool true]) ?h1 rfl ?h2
 case h1=>simp [results,Tryz.results92,go_sem,l0,l1,l2]
 obtain ⟨x,hx,hq,hb⟩:=yE.out
 cases hx
 exact ⟨_,_,_,_,_,_,_,rfl,hb,fun _=>hq⟩
theorem yny (w:World):Calls Tryz.prog 92 #[.int .u8 99] w (zQ (yO (jD 99)) true w):=by
 have yP:=yA (Resa.start w)
 obtain ⟨R,HR⟩:∃ R,Hid (yO (jD 99)=R):=⟨_,yA rfl⟩
 have HC:Hid (∀ W,Calls Tryz.prog 40 #[.int .i64 1,.int .i64 100] W (vD R W)):=yA (fun W=>by
  have h:=yaL 1 100 W (by omega) (by omega)
  rw [← HR.out,show yO (jD 99)=((1:Nat):Rat)/((100:Nat):Rat) from zC rfl]
  exact h)
 obtain ⟨sb,hsb⟩:∃ sb,Hid (sb=decide (R.num<0)):=⟨_,yA rfl⟩
 rw [HR.out]
 clear HR
 go_enter Tryz.func92,Tryz.ntmps92
 go_wp2_with fail
 refine (HC.out _).mono ?_
 rintro e w1 ⟨x,rfl,hx,hb1⟩
 obtain ⟨pr,nr,cr,pq,nq,cq,rfl,hu,hv⟩:=hx.slices
 rw [← hsb.out]
 have hr1:=yA (yP.out.next hb1)
 have yE:=yA (hr1.out.fin (Nat.le_refl _) hsb.out hu hv)
 obtain ⟨z0,z1,z2,l0,l1,l2,f0,f1,f2⟩:=hr1.out.slots
 clear hu hv hb1 hx
 go_wp2_with fail
 refine bodyPost_ret (v:=.tuple #[.agg #[.bool sb,.slice pr nr cr,.slice pq nq cq],.bool true]) ?h1 rfl ?h2
 case h1=>simp [results,Tryz.results92,go_sem,l0,l1,l2]
 obtain ⟨x,hx,hq,hb⟩:=yE.out
 cases hx
 exact ⟨_,_,_,_,_,_,_,rfl,hb,fun _=>hq⟩
theorem ylZ (w:World):Calls Tryz.prog 92 #[.int .u8 100] w (zQ (yO (jD 100)) true w):=by
 have yP:=yA (Resa.start w)
 obtain ⟨R,HR⟩:∃ R,Hid (yO (jD 100)=R):=⟨_,yA rfl⟩
 have HC:Hid (∀ W,Calls Tryz.prog 40 #[.int .i64 1,.int .i64 10] W (vD R W)):=yA (fun W=>by
  have h:=yaL 1 10 W (by omega) (by omega)
  rw [← HR.out,show yO (jD 100)=((1:Nat):Rat)/((10:Nat):Rat) from zC rfl]
  exact h)
 obtain ⟨sb,hsb⟩:∃ sb,Hid (sb=decide (R.num<0)):=⟨_,yA rfl⟩
 rw [HR.out]
 clear HR
 go_enter Tryz.func92,Tryz.ntmps92
 go_wp2_with fail
 refine (HC.out _).mono ?_
 rintro e w1 ⟨x,rfl,hx,hb1⟩
 obtain ⟨pr,nr,cr,pq,nq,cq,rfl,hu,hv⟩:=hx.slices
 rw [← hsb.out]
 have hr1:=yA (yP.out.next hb1)
 have yE:=yA (hr1.out.fin (Nat.le_refl _) hsb.out hu hv)
 obtain ⟨z0,z1,z2,l0,l1,l2,f0,f1,f2⟩:=hr1.out.slots
 clear hu hv hb1 hx
 go_wp2_with fail
 refine bodyPost_ret (v:=.tuple #[.agg #[.bool sb,.slice pr nr cr,.slice pq nq cq],.bool true]) ?h1 rfl ?h2
 case h1=>simp [results,Tryz.results92,go_sem,l0,l1,l2]
 obtain ⟨x,hx,hq,hb⟩:=yE.out
 cases hx
 exact ⟨_,_,_,_,_,_,_,rfl,hb,fun _=>hq⟩
theorem yl0 (w:World):Calls Tryz.prog 92 #[.int .u8 104] w (zQ (yO (jD 104)) true w):=by
 have yP:=yA (Resa.start w)
 obtain ⟨R,HR⟩:∃ R,Hid (yO (jD 104)=R):=⟨_,yA rfl⟩
 have HC:Hid (∀ W,Calls Tryz.prog 37 #[.int .i64 100] W (vD R W)):=yA (fun W=>by
  have h:=yaK 100 W (by omega) (by omega)
  rw [← HR.out,show yO (jD 104)=((100:Nat):Rat)/((1:Nat):Rat) from zC rfl]
  rw [show ((100:Nat):Rat)/((1:Nat):Rat)=((100:Int):Rat) by simp<;>grind];exact h)
 obtain ⟨sb,hsb⟩:∃ sb,Hid (sb=decide (R.num<0)):=⟨_,yA rfl⟩
 rw [HR.out]
 clear HR
 go_enter Tryz.func92,Tryz.ntmps92
 go_wp2_with fail
 refine (HC.out _).mono ?_
 rintro e w1 ⟨x,rfl,hx,hb1⟩
 obtain ⟨pr,nr,cr,pq,nq,cq,rfl,hu,hv⟩:=hx.slices
 rw [← hsb.out]
 have hr1:=yA (yP.out.next hb1)
 have yE:=yA (hr1.out.fin (Nat.le_refl _) hsb.out hu hv)
 obtain ⟨z0,z1,z2,l0,l1,l2,f0,f1,f2⟩:=hr1.out.slots
 clear hu hv hb1 hx
 go_wp2_with fail
 refine bodyPost_ret (v:=.tuple #[.agg #[.bool sb,.slice pr nr cr,.slice pq nq cq],.bool true]) ?h1 rfl ?h2
 case h1=>simp [results,Tryz.results92,go_sem,l0,l1,l2]
 obtain ⟨x,hx,hq,hb⟩:=yE.out
 cases hx
 exact ⟨_,_,_,_,_,_,_,rfl,hb,fun _=>hq⟩
theorem yl1 (w:World):Calls Tryz.prog 92 #[.int .u8 107] w (zQ (yO (jD 107)) true w):=by
 have yP:=yA (Resa.start w)
 obtain ⟨R,HR⟩:∃ R,Hid (yO (jD 107)=R):=⟨_,yA rfl⟩
 have HC:Hid (∀ W,Calls Tryz.prog 37 #[.int .i64 1000] W (vD R W)):=yA (fun W=>by
  have h:=yaK 1000 W (by omega) (by omega)
  rw [← HR.out,show yO (jD 107)=((1000:Nat):Rat)/((1:Nat):Rat) from zC rfl]
  rw [show ((1000:Nat):Rat)/((1:Nat):Rat)=((1000:Int):Rat) by simp<;>grind];exact h)
 obtain ⟨sb,hsb⟩:∃ sb,Hid (sb=decide (R.num<0)):=⟨_,yA rfl⟩
 rw [HR.out]
 clear HR
 go_enter Tryz.func92,Tryz.ntmps92
 go_wp2_with fail
 refine (HC.out _).mono ?_
 rintro e w1 ⟨x,rfl,hx,hb1⟩
 obtain ⟨pr,nr,cr,pq,nq,cq,rfl,hu,hv⟩:=hx.slices
 rw [← hsb.out]
 have hr1:=yA (yP.out.next hb1)
 have yE:=yA (hr1.out.fin (Nat.le_refl _) hsb.out hu hv)
 obtain ⟨z0,z1,z2,l0,l1,l2,f0,f1,f2⟩:=hr1.out.slots
 clear hu hv hb1 hx
 go_wp2_with fail
 refine bodyPost_ret (v:=.tuple #[.agg #[.bool sb,.slice pr nr cr,.slice pq nq cq],.bool true]) ?h1 rfl ?h2
 case h1=>simp [results,Tryz.results92,go_sem,l0,l1,l2]
 obtain ⟨x,hx,hq,hb⟩:=yE.out
 cases hx
 exact ⟨_,_,_,_,_,_,_,rfl,hb,fun _=>hq⟩
theorem ynz (w:World):Calls Tryz.prog 92 #[.int .u8 77] w (zQ (yO (jD 77)) true w):=by
 have yP:=yA (Resa.start w)
 obtain ⟨R,HR⟩:∃ R,Hid (yO (jD 77)=R):=⟨_,yA rfl⟩
 have HC:Hid (∀ W,Calls Tryz.prog 37 #[.int .i64 1000000] W (vD R W)):=yA (fun W=>by
  have h:=yaK 1000000 W (by omega) (by omega)
  rw [← HR.out,show yO (jD 77)=((1000000:Nat):Rat)/((1:Nat):Rat) from zC rfl]
  rw [show ((1000000:Nat):Rat)/((1:Nat):Rat)=((1000000:Int):Rat) by simp<;>grind];exact h)
 obtain ⟨sb,hsb⟩:∃ sb,Hid (sb=decide (R.num<0)):=⟨_,yA rfl⟩
 rw [HR.out]
 clear HR
 go_enter Tryz.func92,Tryz.ntmps92
 go_wp2_with fail
 refine (HC.out _).mono ?_
 rintro e w1 ⟨x,rfl,hx,hb1⟩
 obtain ⟨pr,nr,cr,pq,nq,cq,rfl,hu,hv⟩:=hx.slices
 rw [← hsb.out]
 have hr1:=yA (yP.out.next hb1)
 have yE:=yA (hr1.out.fin (Nat.le_refl _) hsb.out hu hv)
 obtain ⟨z0,z1,z2,l0,l1,l2,f0,f1,f2⟩:=hr1.out.slots
 clear hu hv hb1 hx
 go_wp2_with fail
 refine bodyPost_ret (v:=.tuple #[.agg #[.bool sb,.slice pr nr cr,.slice pq nq cq],.bool true]) ?h1 rfl ?h2
 case h1=>simp [results,Tryz.results92,go_sem,l0,l1,l2]
 obtain ⟨x,hx,hq,hb⟩:=yE.out
 cases hx
 exact ⟨_,_,_,_,_,_,_,rfl,hb,fun _=>hq⟩
theorem ynA (w:World):Calls Tryz.prog 92 #[.int .u8 71] w (zQ (yO (jD 71)) true w):=by
 have yP:=yA (Resa.start w)
 obtain ⟨R,HR⟩:∃ R,Hid (yO (jD 71)=R):=⟨_,yA rfl⟩
 have HC:Hid (∀ W,Calls Tryz.prog 37 #[.int .i64 1000000000] W (vD R W)):=yA (fun W=>by
  have h:=yaK 1000000000 W (by omega) (by omega)
  rw [← HR.out,show yO (jD 71)=((1000000000:Nat):Rat)/((1:Nat):Rat) from zC rfl]
  rw [show ((1000000000:Nat):Rat)/((1:Nat):Rat)=((1000000000:Int):Rat) by simp<;>grind];exact h)
 obtain ⟨sb,hsb⟩:∃ sb,Hid (sb=decide (R.num<0)):=⟨_,yA rfl⟩
 rw [HR.out]
 clear HR
 go_enter Tryz.func92,Tryz.ntmps92
 go_wp2_with fail
 refine (HC.out _).mono ?_
 rintro e w1 ⟨x,rfl,hx,hb1⟩
 obtain ⟨pr,nr,cr,pq,nq,cq,rfl,hu,hv⟩:=hx.slices
 rw [← hsb.out]
 have hr1:=yA (yP.out.next hb1)
 have yE:=yA (hr1.out.fin (Nat.le_refl _) hsb.out hu hv)
 obtain ⟨z0,z1,z2,l0,l1,l2,f0,f1,f2⟩:=hr1.out.slots
 clear hu hv hb1 hx
 go_wp2_with fail
 refine bodyPost_ret (v:=.tuple #[.agg #[.bool sb,.slice pr nr cr,.slice pq nq cq],.bool true]) ?h1 rfl ?h2
 case h1=>simp [results,Tryz.results92,go_sem,l0,l1,l2]
 obtain ⟨x,hx,hq,hb⟩:=yE.out
 cases hx
 exact ⟨_,_,_,_,_,_,_,rfl,hb,fun _=>hq⟩
theorem ynB (c:UInt8) (q:Rat) (w:World) (yf3:((c.toNat:Int)==110)=false) (yf4:((c.toNat:Int)==117)=false) (yf5:((c.toNat:Int)==109)=false) (h99:((c.toNat:Int)==99)=false) (yf6:((c.toNat:Int)==100)=false) (yf7:((c.toNat:Int)==104)=false) (yf8:((c.toNat:Int)==107)=false) (h77:((c.toNat:Int)==77)=false) (h71:((c.toNat:Int)==71)=false):Calls Tryz.prog 92 #[.int .u8 (c.toNat:Int)] w (zQ q false w):=by
 have HB:=yA (zK w (.cells #[.bool false,.slice none 0 0,.slice none 0 0] 44))
 go_enter Tryz.func92,Tryz.ntmps92
 go_wp2_with fail
 refine bodyPost_ret (v:=.tuple #[.agg #[.bool false,.slice none 0 0,.slice none 0 0],.bool false]) ?h1 rfl ?h2
 case h1=>simp [results,Tryz.results92,go_sem]
 exact ⟨_,_,_,_,_,_,_,rfl,HB.out,fun h=>by cases h⟩
theorem yl2 (c:UInt8) (w:World):Calls Tryz.prog 92 #[.int .u8 (c.toNat:Int)] w (zQ (yO (jD c)) (!(jD c).isEmpty) w):=by
 by_cases yf3:c=110
 ·subst yf3;exact ylW w
 by_cases yf4:c=117
 ·subst yf4;exact ylX w
 by_cases yf5:c=109
 ·subst yf5;exact ylY w
 by_cases h99:c=99
 ·subst h99;exact yny w
 by_cases yf6:c=100
 ·subst yf6;exact ylZ w
 by_cases yf7:c=104
 ·subst yf7;exact yl0 w
 by_cases yf8:c=107
 ·subst yf8;exact yl1 w
 by_cases h77:c=77
 ·subst h77;exact ynz w
 by_cases h71:c=71
 ·subst h71;exact ynA w
 have hp:jD c=[]:=by
  unfold jD
  simp [yf3,yf4,yf5,h99,yf6,yf7,yf8,h77,h71]
 rw [hp]
 have k:∀ {k:Nat},k<256→c≠UInt8.ofNat k→((c.toNat:Int)==(k:Int))=false:=fun hk h=>by rw [ysb hk,beq_eq_false_iff_ne.2 h]
 exact ynB c _ w (k (k:=110) (by decide) yf3) (k (k:=117) (by decide) yf4) (k (k:=109) (by decide) yf5) (k (k:=99) (by decide) h99) (k (k:=100) (by decide) yf6) (k (k:=104) (by decide) yf7) (k (k:=107) (by decide) yf8) (k (k:=77) (by decide) h77) (k (k:=71) (by decide) h71)
theorem ynF (s:ByteArray):vP (.string s):=fun x h=>by cases h
def BX (T:TypeId) (n:Nat) (W:World) (g:Nat):Prop:=∃ c:Array Value,W.heap[g]?=some (.cells c T (0,0))∧c.size=n∧∀ (j:Nat) v,c[j]?=some v→vP v
theorem BX.below {T n:Nat} {W W':World} {g:Nat} (h:BX T n W g) (hb:Below W.heap.size W W'):BX T n W' g:=by
 obtain ⟨c,h1,h2⟩:=h
 exact ⟨c,(hb.block g (Array.getElem?_eq_some_iff.1 h1).1).trans h1,h2⟩
theorem BX.drew {T n:Nat} {W:World} {g:Nat} (h:BX T n W g):BX T n W.drew g:=h
theorem BX.lt {T n:Nat} {W:World} {g:Nat} (h:BX T n W g):g<W.heap.size:=by
 obtain ⟨c,h1,-⟩:=h
 exact (Array.getElem?_eq_some_iff.1 h1).1
theorem BX.slot {T n:Nat} {W:World} {g:Nat} (h:BX T n W g) (k:Nat) (hk:k<n):∃ z,W.cell? ⟨g,k,none⟩=some z∧W.frozen? ⟨g,k,none⟩=false:=by
 obtain ⟨c,h1,h2,-⟩:=h
 exact ⟨c[k]'(by omega),by rw [yB h1];exact Array.getElem?_eq_getElem (by omega),vB h1 k⟩
theorem yre {T m:Nat} {W:World} {g:Nat} (h:BX T m W g) {p:Option Addr} {n:Nat} {l:List Nat} (hr:Rd W p n l) (k:Nat) (a:Value):Rd (W.setCell ⟨g,k,none⟩ a) p n l:=by
 obtain ⟨c,h1,h2,h3⟩:=h
 refine ⟨hr.len,?_⟩
 rcases hr.cell with h0|⟨b,off,hp,hlt,hc⟩
 ·exact .inl h0
 ·by_cases hn:n=0
  ·exact .inl hn
  refine .inr ⟨b,off,hp,by rw [World.size_setCell];exact hlt,fun j hj=>?_⟩
  have hne:b≠g:=by
   rintro rfl
   have h5:=hc 0 (by omega)
   rw [yB h1] at h5
   exact h3 _ _ h5 _ rfl
  rw [← hc j hj]
  exact World.cell?_of_block (w:=W) (Below.heap_setCell _ _ _ _ hne)
theorem ypY {T m:Nat} {W:World} {g:Nat} (h:BX T m W g) {v:Value} {q:Rat} (hx:zH W v q) (k:Nat) (a:Value):zH (W.setCell ⟨g,k,none⟩ a) v q:=by
 have one:∀ {v:Value} {x:Nat},yL W v x→yL (W.setCell ⟨g,k,none⟩ a) v x:=fun hx=>by
  obtain ⟨p,n,c,l,h1,h2,h3,h4⟩:=hx
  exact ⟨p,n,c,l,h1,h2,yre h h3 k a,h4⟩
 obtain ⟨u,v,rfl,hu,hv⟩:=hx
 exact ⟨u,v,rfl,one hu,hv.imp one fun h=>⟨one h.1,h.2⟩⟩
theorem BX.set {T n:Nat} {W:World} {g:Nat} (h:BX T n W g) (k:Nat) (a:Value) (ha:vP a):BX T n (W.setCell ⟨g,k,none⟩ a) g:=by
 obtain ⟨c,h1,h2,h3⟩:=h
 refine ⟨c.setIfInBounds k a,yK g k c T a h1,by rw [Array.size_setIfInBounds];exact h2,fun j v hj=>?_⟩
 by_cases e:k=j
 ·subst e
  rw [Array.getElem?_setIfInBounds_self] at hj
  split at hj
  ·cases hj;exact ha
  ·cases hj
 ·rw [Array.getElem?_setIfInBounds_ne e] at hj
  exact h3 _ _ hj
theorem BX.far {T n:Nat} {W:World} {g b:Nat} (h:BX T n W g) (hne:g≠b) (k:Nat) (a:Value):BX T n (W.setCell ⟨b,k,none⟩ a) g:=by
 obtain ⟨c,h1,h2⟩:=h
 exact ⟨c,(Below.heap_setCell _ _ _ _ hne).trans h1,h2⟩
def ya0 (W:World) (g:Nat):Nat→List Value→World
 | _,[]=>W
 | k,v::r=>ya0 (W.setCell ⟨g,k,none⟩ v) g (k+1) r
structure St (T n:Nat) (g:Nat) (W W':World):Prop where
 box:BX T n W' g
 nums:∀ v q,zH W v q→zH W' v q
 keep:∀ w L,w.heap.size≤g→(∀ x ∈ L,x.1≠g)→Keep w W L→Keep w W' L
 other:∀ U m b,b≠g→BX U m W b→BX U m W' b
 size:W'.heap.size=W.heap.size
theorem St.refl {T n:Nat} {W:World} {g:Nat} (h:BX T n W g):St T n g W W:=⟨h,fun _ _ h=>h,fun _ _ _ _ h=>h,fun _ _ _ _ h=>h,rfl⟩
theorem St.more {T n:Nat} {W W':World} {g:Nat} (h:St T n g W W') (k:Nat) (a:Value) (ha:vP a):St T n g W (W'.setCell ⟨g,k,none⟩ a) :=
 ⟨h.box.set k a ha,fun v q hq=>ypY h.box (h.nums v q hq) k a,fun w L hg hne hk=>by
  have hk':=h.keep w L hg hne hk
  exact ⟨hk'.below.setCell hg _,fun x hx=>(Below.heap_setCell _ _ _ _ (hne x hx)).trans (hk'.all x hx)⟩,fun U m b hb hx=>(h.other U m b hb hx).far hb k a,by rw [World.size_setCell,h.size]⟩
theorem St.go {T n:Nat} {W:World} {g:Nat} (vs:List Value):∀ (k:Nat) (W':World),St T n g W W'→(∀ v ∈ vs,vP v)→St T n g W (ya0 W' g k vs):=by
 induction vs with
 | nil=>intro k W' h _;exact h
 | cons v r ih=>intro k W' h hv;exact ih (k+1) _ (h.more k v (hv v (by simp))) (fun x hx=>hv x (by simp [hx]))
theorem St.all {T n:Nat} {W:World} {g:Nat} (h:BX T n W g) (vs:List Value) (hv:∀ v ∈ vs,vP v):St T n g W (ya0 W g 0 vs):=St.go vs 0 W (St.refl h) hv
def jU (l:List UInt8):Option (SymR × Rat) :=
 match zW.find? (fun s=>s.w==l) with
 | some s=>some (s,(s.o:Rat)/(s.b:Rat))
 | none=>match l with
  | []=>none
  | c::t=>if (jD c).isEmpty then none else match zW.find? (fun s=>s.pre&&s.w==t) with
   | some s=>some (s,yO (jD c)*((s.o:Rat)/(s.b:Rat)))
   | none=>none
def ycs (o:Option (SymR × Rat)) (w:World) (e:Ending) (w':World):Prop :=
 ∃ (SW:ByteArray) (so sb:Int) (pre:Bool) (a0 a1 a2 a3 a4 a5 a6:Int) (off:Bool) (z p:Int) (b1:Bool) (x1:Option Addr) (n1 c1:Nat) (x2:Option Addr) (n2 c2:Nat),e=.returned (.tuple #[.agg #[.string SW,.int .i64 so,.int .i64 sb,.bool pre,.int .i64 a0,.int .i64 a1,.int .i64 a2,.int .i64 a3,.int .i64 a4,.int .i64 a5,.int .i64 a6,.bool off,.int .i64 z,.int .i64 p],.agg #[.bool b1,.slice x1 n1 c1,.slice x2 n2 c2],.bool o.isSome])∧Below w.heap.size w w' ∧
  ∀ s r,o=some (s,r)→s=⟨SW.data.toList,so,sb,pre,[a0,a1,a2,a3,a4,a5,a6],off,z,p⟩∧zH w' (.agg #[.bool b1,.slice x1 n1 c1,.slice x2 n2 c2]) r
theorem ysX {l:List Int} (h:l.length=7):∃ a b c d e f g,l=[a,b,c,d,e,f,g]:=by
 match l,h with
 | [a,b,c,d,e,f,g],_=>exact ⟨a,b,c,d,e,f,g,rfl⟩
theorem yfA {k:Nat} (hk:k<zW.length):∃ (sw:List UInt8) (so sb:Int) (pre:Bool) (a0 a1 a2 a3 a4 a5 a6:Int) (off:Bool) (z p:Int),zW[k]=⟨sw,so,sb,pre,[a0,a1,a2,a3,a4,a5,a6],off,z,p⟩∧1≤so∧so≤100000∧1≤sb∧sb≤1000:=by
 have hm:=List.getElem_mem hk
 have h:=ydv _ hm
 generalize zW[k]=s at h
 obtain ⟨sw,so,sb,pre,ps,off,z,p⟩:=s
 obtain ⟨h1,h2,h3,h4,h5,-⟩:=h
 simp only at h1 h2 h3 h4 h5
 obtain ⟨a0,a1,a2,a3,a4,a5,a6,rfl⟩:=ysX h1
 exact ⟨_,_,_,_,_,_,_,_,_,_,_,_,_,_,rfl,h2,h3,h4,h5⟩
theorem yg9 {W:World} {g:Nat} (h:W.heap[g]?=some (.cells ycA.toArray 46 (0,0))) {k:Nat} (hk:k<zW.length) {sw:List UInt8} {so sb:Int} {pre:Bool} {a0 a1 a2 a3 a4 a5 a6:Int} {off:Bool} {z p:Int} (hs:zW[k]=⟨sw,so,sb,pre,[a0,a1,a2,a3,a4,a5,a6],off,z,p⟩) {SW:ByteArray} (hw:(⟨sw.toArray⟩:ByteArray)=SW) :
  ∀ (i:Nat) v,((#[.string SW,.int .i64 so,.int .i64 sb,.bool pre,.int .i64 a0,.int .i64 a1,.int .i64 a2,.int .i64 a3,.int .i64 a4,.int .i64 a5,.int .i64 a6,.bool off,.int .i64 z,.int .i64 p]:Array Value))[i]?=some v→W.cell? ⟨g,k*14+i,none⟩=some v:=by
 intro i v hi
 have hi14:i<14:=by
  have:=(Array.getElem?_eq_some_iff.1 hi).1
  simpa using this
 rw [ypW h hk hi14,hs]
 subst hw
 simpa [ynE] using hi
theorem yrf (a b:Int) (ha:1≤a∧a≤100000) (hb:1≤b∧b≤1000):uK 4 ((a:Rat)/(b:Rat)):=by
 have h1:∀ z:Int,1≤z→z≤100000→uK 2 (z:Rat):=fun z h1 h2=>⟨by rw [Rat.num_intCast,zN];omega,by rw [Rat.den_intCast,zN];omega⟩
 exact (h1 a ha.1 ha.2).quo (h1 b hb.1 (by omega))
theorem ysc:uK 4 (0:Rat):=⟨by show (0:Rat).num.natAbs<_;rw [zN];decide,by show (0:Rat).den<_;rw [zN];decide⟩
theorem ysd (c:UInt8):uK 4 (yO (jD c)):=by
 have h:∀ n d:Nat,n≤1000000000→d≤1000000000→uK 4 ((n:Rat)/(d:Rat)):=fun n d h1 h2=>by
  have k:∀ z:Nat,z≤1000000000→uK 2 ((z:Nat):Rat):=fun z hz=>⟨by rw [Rat.num_natCast,zN];omega,by rw [Rat.den_natCast,zN];omega⟩
  exact (k n h1).quo (k d h2)
 unfold jD
 repeat' split
 all_goals first|(rw [show yO _=((1:Nat):Rat)/((1000000000:Nat):Rat) from zC rfl];exact h 1 1000000000 (by omega) (by omega))|(rw [show yO _=((1:Nat):Rat)/((1000000:Nat):Rat) from zC rfl];exact h 1 1000000 (by omega) (by omega))|(rw [show yO _=((1:Nat):Rat)/((1000:Nat):Rat) from zC rfl];exact h 1 1000 (by omega) (by omega))|(rw [show yO _=((1:Nat):Rat)/((100:Nat):Rat) from zC rfl];exact h 1 100 (by omega) (by omega))|(rw [show yO _=((1:Nat):Rat)/((10:Nat):Rat) from zC rfl];exact h 1 10 (by omega) (by omega))|(rw [show yO _=((100:Nat):Rat)/((1:Nat):Rat) from zC rfl];exact h 100 1 (by omega) (by omega))|(rw [show yO _=((1000:Nat):Rat)/((1:Nat):Rat) from zC rfl];exact h 1000 1 (by omega) (by omega))|(rw [show yO _=((1000000:Nat):Rat)/((1:Nat):Rat) from zC rfl];exact h 1000000 1 (by omega) (by omega))|(rw [show yO _=((1000000000:Nat):Rat)/((1:Nat):Rat) from zC rfl];exact h 1000000000 1 (by omega) (by omega))|(rw [show yO []=0 from rfl];exact ysc)
theorem ye1 {W:World} {g:Nat} (h:W.heap[g]?=some (.cells #[.string ⟨#[]⟩,.int .i64 0,.int .i64 0,.bool false,.int .i64 0,.int .i64 0,.int .i64 0,.int .i64 0,.int .i64 0,.int .i64 0,.int .i64 0,.bool false,.int .i64 0,.int .i64 0] 46 (0,0))):BX 46 14 W g:=by
 refine ⟨_,h,rfl,?_⟩
 intro j v hj
 match j,hj with
 | 0,hj=>simp at hj;subst hj;exact ynF _
 | 1,hj=>simp at hj;subst hj;exact yD _
 | 2,hj=>simp at hj;subst hj;exact yD _
 | 3,hj=>simp at hj;subst hj;exact jI _
 | 4,hj=>simp at hj;subst hj;exact yD _
 | 5,hj=>simp at hj;subst hj;exact yD _
 | 6,hj=>simp at hj;subst hj;exact yD _
 | 7,hj=>simp at hj;subst hj;exact yD _
 | 8,hj=>simp at hj;subst hj;exact yD _
 | 9,hj=>simp at hj;subst hj;exact yD _
 | 10,hj=>simp at hj;subst hj;exact yD _
 | 11,hj=>simp at hj;subst hj;exact jI _
 | 12,hj=>simp at hj;subst hj;exact yD _
 | 13,hj=>simp at hj;subst hj;exact yD _
 | j+14,hj=>simp at hj
theorem ypZ {W:World} {g:Nat} (h:W.heap[g]?=some (.cells #[.bool false,.slice none 0 0,.slice none 0 0] 44 (0,0))):BX 44 3 W g:=by
 refine ⟨_,h,rfl,?_⟩
 intro j v hj
 match j,hj with
 | 0,hj=>simp at hj;subst hj;exact jI _
 | 1,hj=>simp at hj;subst hj;exact zA _ _ _
 | 2,hj=>simp at hj;subst hj;exact zA _ _ _
 | j+3,hj=>simp at hj
theorem yp0 (b:Bool) (p:Option Addr) (n c:Nat) (q:Option Addr) (m d:Nat):∀ v ∈ ([.bool b,.slice p n c,.slice q m d]:List Value),vP v:=by
 intro v hv
 simp only [List.mem_cons,List.not_mem_nil,or_false] at hv
 rcases hv with rfl|rfl|rfl
 ·exact jI _
 ·exact zA _ _ _
 ·exact zA _ _ _
theorem yin (SW:ByteArray) (so sb:Int) (pre:Bool) (a0 a1 a2 a3 a4 a5 a6:Int) (off:Bool) (z p:Int):∀ v ∈ ([.string SW,.int .i64 so,.int .i64 sb,.bool pre,.int .i64 a0,.int .i64 a1,.int .i64 a2,.int .i64 a3,.int .i64 a4,.int .i64 a5,.int .i64 a6,.bool off,.int .i64 z,.int .i64 p]:List Value),vP v:=by
 intro v hv
 simp only [List.mem_cons,List.not_mem_nil,or_false] at hv
 rcases hv with rfl|rfl|rfl|rfl|rfl|rfl|rfl|rfl|rfl|rfl|rfl|rfl|rfl|rfl
 ·exact ynF _
 ·exact yD _
 ·exact yD _
 ·exact jI _
 ·exact yD _
 ·exact yD _
 ·exact yD _
 ·exact yD _
 ·exact yD _
 ·exact yD _
 ·exact yD _
 ·exact jI _
 ·exact yD _
 ·exact yD _
theorem Keep.two (w:World) (c1 c2:Array Value) (t1 t2:TypeId):Keep w ((w.alloc (.cells c1 t1)).alloc (.cells c2 t2)) [(w.heap.size+1,c2,t2),(w.heap.size,c1,t1)]:=by
 have h:=((Keep.nil w).more c1 t1).more c2 t2
 rwa [show (w.alloc (.cells c1 t1)).heap.size=w.heap.size+1 from by simp] at h
theorem yl3 (p0 p1 p2 p3 p4 p5 p6 r0 r1 r2 r3 r4 r5 r6:Int) (W:World):(Op.equalIn 9999 22 (.agg #[.int .i64 p0,.int .i64 p1,.int .i64 p2,.int .i64 p3,.int .i64 p4,.int .i64 p5,.int .i64 p6]) (.agg #[.int .i64 r0,.int .i64 r1,.int .i64 r2,.int .i64 r3,.int .i64 r4,.int .i64 r5,.int .i64 r6])).run Tryz.prog W=.ok (decide ([p0,p1,p2,p3,p4,p5,p6]=[r0,r1,r2,r3,r4,r5,r6])) W:=by
 obtain ⟨i,hi⟩:=Option.isSome_iff_exists.1 (by kernel_rfl:(Tryz.prog.info? 3).isSome=true)
 have u3:=Tryz.underlying3
 rw [show (9999:Nat)=9998+1 from rfl,run_equalIn_array W 9998 _ _ Tryz.underlying22 hi]
 simp only [show List.range 7=[0,1,2,3,4,5,6] from rfl]
 have hc:Tryz.prog.cellsOf 3=1:=by kernel_rfl
 simp only [Op.eqItems,hc]
 go_simp
 by_cases h0:p0=r0
 ·by_cases h1:p1=r1
  ·by_cases h2:p2=r2
   ·by_cases h3:p3=r3
    ·by_cases h4:p4=r4
     ·by_cases h5:p5=r5
      ·by_cases h6:p6=r6
       ·simp [h0,h1,h2,h3,h4,h5,h6]
       ·simp [h0,h1,h2,h3,h4,h5,h6]
      ·simp [h0,h1,h2,h3,h4,h5]
     ·simp [h0,h1,h2,h3,h4]
    ·simp [h0,h1,h2,h3]
   ·simp [h0,h1,h2]
  ·simp [h0,h1]
 ·simp [h0]
end
end Go.Proofs.YtfjnipkpfbkegaaGreatDoor
