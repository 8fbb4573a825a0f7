/- Contracts. -/
import Derived.Test.YtgepehlpjpccaaaGreatDoorYK
namespace Go.Proofs.YtgepehlpjpccaaaGreatDoor
set_option maxHeartbeats 3200000
set_option maxRecDepth 100000
section
open Go.RowKit Big
section
variable {B : Nat} {s : Bool} {u1 v1 : Value} {t : Bool} {u2 v2 : Value} {w0 W W' : World}
end
section
variable {W : World}
end
section
variable {B : Nat} {w0 W W' : World}
end
theorem ytr (z:Int) (w:World) (h1:-9223372036854775808≤z) (h2:z≤9223372036854775807):Calls Tryz.prog 29 #[.int .i64 z] w (GW (z:Rat) w):=by
 have zA:=yA (Resa.start w)
 have hq:=yA (ykX z)
 have hno:∀ W,Hid (Calls Tryz.prog 66 #[.int .u64 ((z.natAbs:Nat):Int)] W (yX z.natAbs W)):=fun W=>yA (yaC _ W (by omega))
 have jE:∀ W,Hid (Calls Tryz.prog 67 #[] W (yX 1 W)):=fun W=>yA (yc3 W)
 have hmk:∀ W u v,yE W u z.natAbs→yE W v 1→Hid (Calls Tryz.prog 65 #[.bool (decide (z<0)),u,v] W (GW (z:Rat) W)):=fun W u v hu hv=>yA (by
  have h:=yb2 (decide (z<0)) u v z.natAbs 1 3 W (by omega) (by rw [zK];omega) (by rw [zK];omega) hu hv
  rw [hq.out] at h;exact h)
 by_cases hz:z<0
 ·obtain ⟨m,hm⟩:∃ m:Nat,z=-(m:Int)-1:=⟨(-z-1).toNat,by omega⟩
  have hab:z.natAbs=m+1:=by omega
  have hd:decide (z<0)=true:=by simpa using hz
  rw [hab] at hno
  rw [hd] at hmk
  rw [hab] at hmk
  have hm2:(m:Int)≤9223372036854775807:=by omega
  have hmz:-(z+1)=(m:Int):=by omega
  have hm3:((m+1:Nat):Int)=(m:Int)+1:=by omega
  rw [hm3] at hno
  clear hq
  go_enter Tryz.func29,Tryz.ntmps29
  go_wp2_with fail
  refine (hno _).out.mono ?_
  rintro e w1 ⟨v1,rfl,hv1,hb1,-⟩
  obtain ⟨p1,n1,c1,rfl⟩:=hv1.slice
  have hr1:=yA (zA.out.next hb1)
  have Hv1:=yA hv1
  clear hv1 hb1
  go_wp2_with fail
  refine (jE _).out.mono ?_
  rintro e w2 ⟨v2,rfl,hv2,hb2,-⟩
  obtain ⟨p2,n2,c2,rfl⟩:=hv2.slice
  have hr2:=yA (hr1.out.next hb2)
  have hm2':=hmk w2 _ _ (Hv1.out.below hb2) hv2
  clear hv2 hb2
  go_wp2_with fail
  refine hm2'.out.mono ?_
  rintro e w3 ⟨x3,rfl,hx3,hb3⟩
  obtain ⟨p3,n3,c3,p4,n4,c4,rfl,hu3,hv3⟩:=hx3.slices
  have hr3:=yA (hr2.out.next hb3)
  obtain ⟨z0,z1,z2,l0,l1,l2,f0,f1,f2⟩:=hr3.out.slots
  obtain ⟨sb,hsb⟩:∃ sb,Hid (sb=decide ((z:Rat).num<0)):=⟨_,yA rfl⟩
  rw [← hsb.out]
  have q1:=yA (hr3.out.nat3 (Nat.le_refl _) hu3 sb p3 p4 n3 c3 n4 c4)
  have q2:=yA (hv3.imp (fun h=>hr3.out.nat3 (Nat.le_refl _) h sb p3 p4 n3 c3 n4 c4) fun h=>And.intro (hr3.out.nat3 (Nat.le_refl _) h.1 sb p3 p4 n3 c3 n4 c4) h.2)
  have q3:=yA (hr3.out.put3 (Nat.le_refl _) sb p3 p4 n3 c3 n4 c4).below
  clear hu3 hv3 hb3 hm2' hx3
  go_wp2_with fail
  refine bodyPost_ret (v:=.agg #[.bool sb,.slice p3 n3 c3,.slice p4 n4 c4]) (by simp [results,Tryz.results29,go_sem,l0,l1,l2]) rfl ?_
  exact ⟨_,rfl,⟨_,_,by rw [hsb.out],q1.out,q2.out⟩,q3.out⟩
 ·obtain ⟨m,rfl⟩:∃ m:Nat,z=(m:Int):=⟨z.toNat,by omega⟩
  have hd:decide ((m:Int)<0)=false:=by simp
  rw [hd] at hmk
  have hab:((m:Int)).natAbs=m:=by omega
  rw [hab] at hno hmk
  clear hq
  go_enter Tryz.func29,Tryz.ntmps29
  go_wp2_with fail
  refine (hno _).out.mono ?_
  rintro e w1 ⟨v1,rfl,hv1,hb1,-⟩
  obtain ⟨p1,n1,c1,rfl⟩:=hv1.slice
  have hr1:=yA (zA.out.next hb1)
  have Hv1:=yA hv1
  clear hv1 hb1
  go_wp2_with fail
  refine (jE _).out.mono ?_
  rintro e w2 ⟨v2,rfl,hv2,hb2,-⟩
  obtain ⟨p2,n2,c2,rfl⟩:=hv2.slice
  have hr2:=yA (hr1.out.next hb2)
  have hm2':=hmk w2 _ _ (Hv1.out.below hb2) hv2
  clear hv2 hb2
  go_wp2_with fail
  refine hm2'.out.mono ?_
  rintro e w3 ⟨x3,rfl,hx3,hb3⟩
  obtain ⟨p3,n3,c3,p4,n4,c4,rfl,hu3,hv3⟩:=hx3.slices
  have hr3:=yA (hr2.out.next hb3)
  obtain ⟨z0,z1,z2,l0,l1,l2,f0,f1,f2⟩:=hr3.out.slots
  obtain ⟨sb,hsb⟩:∃ sb,Hid (sb=decide (((m:Int):Rat).num<0)):=⟨_,yA rfl⟩
  rw [← hsb.out]
  have q1:=yA (hr3.out.nat3 (Nat.le_refl _) hu3 sb p3 p4 n3 c3 n4 c4)
  have q2:=yA (hv3.imp (fun h=>hr3.out.nat3 (Nat.le_refl _) h sb p3 p4 n3 c3 n4 c4) fun h=>And.intro (hr3.out.nat3 (Nat.le_refl _) h.1 sb p3 p4 n3 c3 n4 c4) h.2)
  have q3:=yA (hr3.out.put3 (Nat.le_refl _) sb p3 p4 n3 c3 n4 c4).below
  clear hu3 hv3 hb3 hm2' hx3
  go_wp2_with fail
  refine bodyPost_ret (v:=.agg #[.bool sb,.slice p3 n3 c3,.slice p4 n4 c4]) (by simp [results,Tryz.results29,go_sem,l0,l1,l2]) rfl ?_
  exact ⟨_,rfl,⟨_,_,by rw [hsb.out],q1.out,q2.out⟩,q3.out⟩
end
section
open Go.RowKit Big
open Go.Lib
structure BR (B:Nat) (c:Array Value) (w0 W:World):Prop where
 bx:Bx B c w0 W
 rs:Resa (B+1) w0 W
theorem BR.start (w:World) (c:Array Value):BR w.heap.size c w ((w.alloc (.cells c 59)).alloc (.cells #[.bool false,.slice none 0 0,.slice none 0 0] 59)) :=
 ⟨(Bx.start w c).next (yF _ _),⟨by simp,(yF w _).trans ((yF _ _).mono (by simp)),.bool false,.slice none 0 0,.slice none 0 0,by rw [show w.heap.size+1=(w.alloc (.cells c 59)).heap.size from by simp];exact yY _ _,zD _,yK _ _ _,yK _ _ _⟩⟩
theorem BR.next {B:Nat} {c:Array Value} {w0 W W':World} (h:BR B c w0 W) (hb:Below W.heap.size W W'):BR B c w0 W':=⟨h.bx.next hb,h.rs.next hb⟩
theorem BR.drew {B:Nat} {c:Array Value} {w0 W:World} (h:BR B c w0 W):BR B c w0 W.drew:=⟨h.bx.drew,h.rs.next (Below.refl _ _).drew⟩
theorem BR.all {B:Nat} {a b c:Value} {w0 W:World} (h:BR B #[a,b,c] w0 W):BR B #[a,b,c] w0 W∧W.cell? ⟨B,0,none⟩=some a∧W.cell? ⟨B,1,none⟩=some b∧W.cell? ⟨B,2,none⟩=some c :=
 ⟨h,h.bx.all.2⟩
theorem BR.put3 {B:Nat} {c:Array Value} {w0 W:World} (h:BR B c w0 W) (hB:w0.heap.size≤B) (a:Bool) (p q:Option Addr) (n k m d:Nat):BR B c w0 (((W.setCell ⟨B+1,0,none⟩ (.bool a)).setCell ⟨B+1,1,none⟩ (.slice p n k)).setCell ⟨B+1,2,none⟩ (.slice q m d)) :=
 ⟨⟨by rw [World.size_setCell,World.size_setCell,World.size_setCell];exact h.bx.size,((h.bx.below.setCell (by simp;omega) _).setCell (by simp;omega) _).setCell (by simp;omega) _,((Below.heap_setCell _ _ _ _ (by simp)).trans (Below.heap_setCell _ _ _ _ (by simp))).trans ((Below.heap_setCell _ _ _ _ (by simp)).trans h.bx.x)⟩,h.rs.put3 (by omega) a p q n k m d⟩
theorem BR.below {B:Nat} {c:Array Value} {w0 W:World} (h:BR B c w0 W):Below w0.heap.size w0 W:=h.bx.below
end
section
open Go.RowKit
open Go.Lib
theorem yjq (s:List UInt8):yaV [] s=[]:=by unfold yaV;rw [ycr]
end
section
open Go.RowKit Go.Lib Big
theorem yiy (k:Nat):yL false k 1=(((k:Int)):Rat):=by
 have h:=ykX (k:Int)
 rw [show decide ((k:Int)<0)=false from by simp] at h
 exact h
theorem ydp (q:Rat):yiJ q=((q.floor:Int):Rat):=by
 have hd:(0:Int)<q.den:=by have:=q.den_pos;omega
 rw [Rat.floor_def]
 unfold yiJ
 by_cases hs:q.num<0
 ·have e1:decide (q.num<0)=true:=by simpa using hs
  rw [e1]
  have e2:yL true (vO true q.num.natAbs q.den) 1=-(((vO true q.num.natAbs q.den:Nat):Int):Rat):=by
   have:=yk4 false (vO true q.num.natAbs q.den) 1
   rw [yiy] at this
   exact this
  rw [e2,← Rat.intCast_neg]
  congr 1
  have hn:q.num=-(q.num.natAbs:Int):=by omega
  generalize q.num.natAbs=a at hn
  rw [hn]
  have hm:=Nat.div_add_mod a q.den
  have hml:=Nat.mod_lt a q.den_pos
  unfold vO
  by_cases h0:a%q.den=0
  ·have:(a%q.den==0)=true:=by simpa using h0
   rw [this]
   symm
   refine Int.ediv_eq_of_eq_mul_right (by omega) ?_
   simp
   have:(a:Int)=(q.den:Int)*((a/q.den:Nat):Int):=by rw [h0,Nat.add_zero] at hm;exact_mod_cast hm.symm
   rw [Int.natCast_ediv] at this
   rw [Int.mul_neg,← this]
  ·have:(a%q.den==0)=false:=by simpa using h0
   rw [this]
   symm
   simp only [Bool.true_and,Bool.not_false,if_true]
   have hm2:(q.den:Int)*((a/q.den:Nat):Int)+((a%q.den:Nat):Int)=(a:Int):=by exact_mod_cast hm
   have hml2:((a%q.den:Nat):Int)<q.den:=by exact_mod_cast hml
   have h02:(0:Int)<((a%q.den:Nat):Int):=by omega
   generalize ((a%q.den:Nat):Int)=r at hm2 hml2 h02
   rw [Int.natCast_add]
   generalize ((a/q.den:Nat):Int)=k at hm2
   have e:-(a:Int)=(q.den-r)+q.den*(-(k+1)):=by
    rw [← hm2,Int.mul_neg,Int.mul_add];omega
   rw [e,Int.add_mul_ediv_left _ _ (by omega),Int.ediv_eq_zero_of_lt (by omega) (by omega)]
   simp
 ·have e1:decide (q.num<0)=false:=by simpa using hs
  rw [e1,yiy]
  congr 1
  unfold vO
  simp
  have hn:(q.num.natAbs:Int)=q.num:=by omega
  rw [hn]
theorem yb5:jF+jF=1:=by rw [← yoZ];grind
theorem yts (a b:Rat) (hb:0<b):yaE a b-a≤b*jF∧-(yaE a b-a)≤b*jF:=by
 have hb0:b≠0:=by grind
 unfold yaE
 rw [ydp]
 have h1:=Rat.floor_le (a/b+jF)
 have h2:=Rat.lt_floor_add_one (a/b+jF)
 rw [Rat.intCast_add] at h2
 have ht:=yb5
 generalize (((a/b+jF).floor:Int):Rat)=k at h1 h2
 have e:(a/b)*b=a:=by rw [Rat.div_def,Rat.mul_assoc,Rat.inv_mul_cancel b hb0,Rat.mul_one]
 generalize a/b=c at h1 h2 e
 have h3:k*b≤(c+jF)*b:=Rat.mul_le_mul_of_nonneg_right h1 (by grind)
 have h4:(c+jF)*b≤(k+1)*b:=Rat.mul_le_mul_of_nonneg_right (by simpa using Rat.le_of_lt h2) (by grind)
 have h5:(jF+jF)*b=b:=by rw [ht,Rat.one_mul]
 subst e
 generalize jF=h at *
 constructor<;>grind
end
section
open Go.RowKit
open Go.Lib
def qv (x:List UInt8):Rat:=(num x).getD 0
theorem yrQ {q:Rat} (h:q≤0):ybg q≤0:=by
 rw [ygv]
 rcases yd3 q with ⟨_,e⟩|⟨_,e⟩|⟨h2,_⟩
 ·rw [e];decide
 ·rw [e];decide
 ·exact absurd h2 (Rat.not_lt.2 h)
theorem ytt {K L:Nat} {a b:Rat} (ha:QLt K a) (hb:QLt L b):QLt (K+L+1) (a-b):=by
 rw [Rat.sub_eq_add_neg];exact ha.add hb.neg
def ywI (s:Rat) (x y:List UInt8):Prop:=(num x).isSome=(num y).isSome∧((num x).isSome=true→qv x-qv y+(qv x-qv y)≤s∧-s≤qv x-qv y+(qv x-qv y))
theorem yll:(0:Rat)<jF:=by have:=yb5;grind
theorem ytu:jF<1:=by have:=yb5;have:=yll;grind
theorem yov (m:Int):((m:Rat)+jF).floor=m:=by
 have h1:=Rat.floor_le ((m:Rat)+jF)
 have h2:=Rat.lt_floor_add_one ((m:Rat)+jF)
 have h3:=yll
 have h4:=ytu
 have h5:((((m:Rat)+jF).floor:Int):Rat)<((m+1:Int):Rat):=by rw [Rat.intCast_add];grind
 have h6:(m:Rat)<(((((m:Rat)+jF).floor+1:Int)):Rat):=by grind
 have h7:=Rat.intCast_lt_intCast.1 h5
 have h8:=Rat.intCast_lt_intCast.1 h6
 omega
theorem yqj (a b:Rat) (hb:0<b):yaE (yaE a b) b=yaE a b:=by
 have hb0:b≠0:=by grind
 have e:yaE a b/b=((a/b+jF).floor:Int):=by
  unfold yaE
  rw [ydp,Rat.div_def,Rat.mul_assoc,Rat.mul_inv_cancel b hb0,Rat.mul_one]
 have e2:yaE (yaE a b) b=yiJ (yaE a b/b+jF)*b:=rfl
 rw [e2,e,ydp,yov]
 unfold yaE
 rw [ydp]
theorem ytv {s:List UInt8} (h:ych s=true):∃ b:Rat,num s=some b∧0<b:=by
 unfold ych yes at h
 rw [yen] at h
 cases hn:num s with
 | none=>rw [hn] at h;cases h
 | some b =>
  rw [hn] at h
  simp only [Bool.true_and,decide_eq_true_eq] at h
  refine ⟨b,rfl,?_⟩
  rcases yd3 (b-0) with ⟨_,e⟩|⟨_,e⟩|⟨h2,_⟩
  ·rw [e] at h;omega
  ·rw [e] at h;omega
  ·grind
theorem ylm {x s:List UInt8} {a b:Rat} (hx:num x=some a) (hs:num s=some b) (hb:0<b):yaV x s=GT (yaE a b):=by
 unfold yaV
 rw [hx,hs]
 show (if ybg b=1 then GT (yaE a b) else [])=_
 rw [if_pos ((yje b).2 hb)]
theorem yiz {k:Int} {x:List UInt8} (h:uB k x=true):x=[]∨(num x).isSome=true:=by
 by_cases hx:x=[]
 ·exact .inl hx
 ·have he:x.isEmpty=false:=by
   cases x with
   | nil=>exact absurd rfl hx
   | cons=>rfl
  refine .inr ?_
  unfold uB at h
  rw [he] at h
  simp only [Bool.false_or] at h
  have key:∀ B,(yax B x).isSome=true→(num x).isSome=true:=fun B hB=>by
   unfold yax at hB
   cases hn:num x with
   | none=>rw [hn] at hB;cases hB
   | some q=>rfl
  split at h
  ·exact key _ h
  ·split at h
   ·exact key _ h
   ·split at h
    ·exact key _ h
    ·split at h
     ·exact key _ h
     ·split at h
      ·exact h
      ·cases h
theorem yow {k:Int} {x s:List UInt8} {b:Rat} (hs:num s=some b) (hb:0<b) (hf:uB k x=true) (yiZ:vF k s x=false):uB k (yaV x s)=true∧yaV (yaV x s) s=yaV x s∧ywI b x (yaV x s):=by
 unfold vF at yiZ
 rw [Bool.or_eq_false_iff] at yiZ
 have h2:uB k (yaV x s)=true:=by simpa using yiZ.2
 refine ⟨h2,?_⟩
 rcases yiz hf with rfl|hx
 ·rw [yjq,yjq]
  refine ⟨rfl,rfl,fun h=>?_⟩
  rw [ycr] at h;cases h
 ·obtain ⟨a,ha⟩:=Option.isSome_iff_exists.1 hx
  have hxe:x≠[]:=fun e=>by rw [e,ycr] at ha;cases ha
  have h1:=yiZ.1
  rw [decide_eq_false hxe,Bool.not_false,Bool.true_and,decide_eq_false_iff_not] at h1
  have e:=ylm ha hs hb
  rw [e] at h1 ⊢
  have hn:=yjf h1
  refine ⟨by rw [ylm hn hs hb,yqj a b hb],?_,fun _=>?_⟩
  ·rw [ha,hn];rfl
  ·unfold qv
   rw [ha,hn]
   show a-yaE a b+(a-yaE a b)≤b∧-b≤a-yaE a b+(a-yaE a b)
   obtain ⟨g1,g2⟩:=yts a b hb
   have ht:b*jF+b*jF=b:=by rw [← Rat.mul_add,yb5,Rat.mul_one]
   constructor<;>grind
end
section
open Go.RowKit Big
open Go.Lib
def gq (x:List UInt8):Rat:=if x.length≤82 then match uC x with|some (sg,n,d)=>yL sg n d|none=>0 else 0
theorem ymB {x:List UInt8} {q:Rat} (h:num x=some q):gq x=q:=by
 unfold gq
 have h82:x.length≤82:=by
  by_cases h82:x.length≤82
  ·exact h82
  ·have hn:num x=none:=by unfold num uD;rw [if_pos (by omega)];rfl
   rw [hn] at h;cases h
 rw [if_pos h82]
 cases hr:uC x with
 | none=>rw [yc8 hr] at h;cases h
 | some t =>
  obtain ⟨sg,n,d⟩:=t
  obtain ⟨hK,hd⟩:=yeh hr h82
  rw [ymo hr h82 hd] at h
  split at h
  ·exact Option.some.inj h
  ·cases h
theorem ygK:QLt 10 (0:Rat):=⟨by show 0<B9^10;exact Nat.pow_pos zM,by show 1<B9^10;rw [zK];decide⟩
theorem yvz (x:List UInt8):QLt 10 (gq x):=by
 unfold gq
 split
 ·rename_i h82
  cases hr:uC x with
  | none=>exact ygK
  | some t =>
   obtain ⟨sg,n,d⟩:=t
   exact (yeh hr h82).1
 ·exact ygK
theorem ytA (x:List UInt8) (w:World):Calls Tryz.prog 31 #[.string ⟨x.toArray⟩] w (ya7 (gq x) (num x).isSome w):=by
 obtain ⟨s,hs⟩:∃ s:ByteArray,s=⟨x.toArray⟩:=⟨_,rfl⟩
 have hx:s.data.toList=x:=by rw [hs]
 have hls:x.length=s.size:=by rw [← hx];simp
 rw [← hs]
 unfold gq
 by_cases h82:s.size≤82
 ·rw [if_pos (by omega)]
  cases hr:uC x with
  | none =>
   rw [yc8 hr]
   exact yhT s w (by omega) (fun W=>yA (by have h:=ydj s W (by omega);rw [hx,hr] at h;exact h))
  | some t =>
   obtain ⟨sg,n,d⟩:=t
   obtain ⟨hK,hd⟩:=yeh hr (by omega)
   rw [ymo hr (by omega) hd]
   obtain ⟨y,hy⟩:∃ y:ByteArray,y=⟨(GT (yL sg n d)).toArray⟩:=⟨_,rfl⟩
   have hyl:y.data.toList=GT (yL sg n d):=by rw [hy]
   have yqs:y.toList=GT (yL sg n d):=by rw [Lib.toList_data];exact hyl
   have hpl:∀ W,Hid (Calls Tryz.prog 68 #[.string s] W (zF (yL sg n d) true W)):=fun W=>yA (by have h:=ydj s W (by omega);rw [hx,hr] at h;exact h)
   have htx:∀ f,f=(!(GT (yL sg n d)).isEmpty)→∀ W x,uM W x (yL sg n d)→Hid (Calls Tryz.prog 69 #[x] W fun e w'=>e=.returned (.tuple #[.string y,.bool f])∧Below W.heap.size W w'):=by
    rintro f rfl W x hx
    rw [hy];exact yA (yrD x _ 10 W (by omega) hK hx)
   have hne:x≠[]:=by intro h;rw [h] at hr;cases hr
   cases hf:(GT (yL sg n d)).isEmpty with
   | true =>
    have h0:GT (yL sg n d)=[]:=List.isEmpty_iff.1 hf
    rw [if_neg (by rw [h0];exact fun h=>hne h.symm)]
    exact yoB s y (yL sg n d) w (by omega) hpl (htx false (by rw [hf];rfl))
   | false =>
    by_cases he:GT (yL sg n d)=x
    ·rw [if_pos he]
     refine (yrp s y (yL sg n d) w (by omega) hpl (htx true (by rw [hf];rfl)) (by rw [yqs,he,Lib.toList_data,hx];simp)).mono ?_
     rintro e w' ⟨b,p,n2,c,p2,n3,c2,rfl,hb,hq⟩
     exact ⟨b,p,n2,c,p2,n3,c2,rfl,hb,hq rfl⟩
    ·rw [if_neg he]
     exact yoA s y (yL sg n d) w (by omega) hpl (htx true (by rw [hf];rfl)) (by rw [yqs,Lib.toList_data,beq_eq_false_iff_ne,hx];exact he)
 ·rw [if_neg (by omega)]
  have hn:num x=none:=by unfold num uD;rw [if_pos (by omega)];rfl
  rw [hn]
  exact yhS s w (by omega)
end
set_option maxHeartbeats 8000000
section
open Go.RowKit
open Go.Lib
def yc7 (s:Rat) (x y:List UInt8):Prop:=(num x).isSome=(num y).isSome∧gq x-gq y≤s∧-(gq x-gq y)≤s
theorem yox (p q:Option Addr) (c d n KS:Nat) (xs ys:List (List UInt8)) (s:Rat) (bS:Bool) (pS qS:Option Addr) (nS cS mS dS:Nat) (w:World) (hx:Hid (xs.length=n)) (hy:Hid (ys.length=n)) (hn:n≤100) (hp:Ss w p xs) (hq:Ss w q ys) (hqs:uM w (.agg #[.bool bS,.slice pS nS cS,.slice qS mS dS]) s) (hKS:KS≤1000) (HSL:Hid (QLt KS s)) (hnear:Hid (∀ j,j<n→yc7 s (xs.getD j []) (ys.getD j []))) :
  Calls Tryz.prog 33 #[.slice p n c,.slice q n d,.agg #[.bool bS,.slice pS nS cS,.slice qS mS dS]] w fun e w'=>e=.returned (.bool true)∧Below w.heap.size w w':=by
 have HP:=Lib.hid hp
 have HQ:=Lib.hid hq
 have hni:(n:Int)≤100:=by omega
 have hnn:((n:Int)==(n:Int))=true:=by simp
 obtain ⟨GS,ync⟩:∃ GS,Hid (w.heap.size=GS):=⟨_,rfl⟩
 obtain ⟨W2,HW2⟩:∃ W2,Hid (w.alloc (.cells #[.bool bS,.slice pS nS cS,.slice qS mS dS] 59)=W2):=⟨_,Lib.hid rfl⟩
 have uV:Hid (Below w.heap.size w W2):=Lib.hid (by rw [← HW2.out];exact (Below.refl _ _).alloc (Nat.le_refl _) _)
 have ydA:Hid (W2.heap[GS]?=some (.cells #[.bool bS,.slice pS nS cS,.slice qS mS dS] 59 (0,0))):=Lib.hid (by rw [← HW2.out,← ync.out];exact World.alloc_heap_new w _)
 have HQS:Hid (uM W2 (.agg #[.bool bS,.slice pS nS cS,.slice qS mS dS]) s):=Lib.hid (hqs.below uV.out)
 clear hp hq hqs
 go_enter Tryz.func33,Tryz.ntmps33
 go_wp2_with fail
 rw [HW2.out,ync.out]
 go_loopw [7] (fun iv wr=>∃ i:Nat,i≤n∧iv=.int .i64 i∧Hid (Below W2.heap.size W2 wr)) (fun iv _=>n-(intOf iv).toNat)
 case atStart=>exact ⟨0,Nat.zero_le _,rfl,Lib.hid (Below.refl _ _)⟩
 case round =>
  obtain ⟨i,hi,rfl,HB⟩:=hrel
  have ii:(i:Int)≤(n:Int):=by omega
  have HBW:Hid (Below w.heap.size w wr):=Lib.hid (uV.out.trans (HB.out.mono uV.out.size))
  by_cases hlt:i<n
  ·have ilt:(i:Int)<(n:Int):=by omega
   obtain ⟨b1,o1,x,e1,hl1,hc1,hxx⟩:=(HP.out.below HBW.out).at (k:=i) (by rw [hx.out];exact hlt)
   obtain ⟨b2,o2,y,e2,hl2,hc2,hyy⟩:=(HQ.out.below HBW.out).at (k:=i) (by rw [hy.out];exact hlt)
   subst e1
   subst e2
   have HNE:=Lib.hid (hnear.out i hlt)
   rw [hxx.out,hyy.out] at HNE
   obtain ⟨f,HF⟩:∃ f,Hid ((num x).isSome=f):=⟨_,rfl⟩
   have HF2:Hid ((num y).isSome=f):=Lib.hid (by rw [← HNE.out.1];exact HF.out)
   obtain ⟨a,HA⟩:∃ a,Hid (gq x=a):=⟨_,rfl⟩
   obtain ⟨b,HBQ⟩:∃ b,Hid (gq y=b):=⟨_,rfl⟩
   obtain ⟨X,HX⟩:∃ X:ByteArray,Hid (⟨x.toArray⟩=X):=⟨_,rfl⟩
   obtain ⟨Y,HY⟩:∃ Y:ByteArray,Hid (⟨y.toArray⟩=Y):=⟨_,rfl⟩
   rw [HX.out] at hc1
   rw [HY.out] at hc2
   have HGX:Hid (∀ W,Calls Tryz.prog 31 #[.string X] W (ya7 a f W)):=Lib.hid (fun W=>by
    have h:=ytA x W
    rwa [HX.out,HA.out,HF.out] at h)
   have HGY:Hid (∀ W,Calls Tryz.prog 31 #[.string Y] W (ya7 b f W)):=Lib.hid (fun W=>by
    have h:=ytA y W
    rwa [HY.out,HBQ.out,HF2.out] at h)
   have HLA:Hid (QLt 10 a):=Lib.hid (by rw [← HA.out];exact yvz x)
   have HLB:Hid (QLt 10 b):=Lib.hid (by rw [← HBQ.out];exact yvz y)
   have HL2:=Lib.hid hl2
   have HC2:=Lib.hid hc2
   clear hl1 hl2 hc2
   go_wp2_with fail
   refine (HGX.out _).mono ?_
   rintro e w3 ⟨bX,pX,nX,cX,qX,mX,dX,rfl,hb3,hqx⟩
   obtain ⟨GX,HGXx⟩:∃ G,Hid (w3.heap.size=G):=⟨_,rfl⟩
   obtain ⟨W4,HW4⟩:∃ W4,Hid (w3.alloc (.cells #[.bool bX,.slice pX nX cX,.slice qX mX dX] 59)=W4):=⟨_,Lib.hid rfl⟩
   have yiV:Below w3.heap.size w3 W4:=by rw [← HW4.out];exact (Below.refl _ _).alloc (Nat.le_refl _) _
   have HR4:Hid (Below wr.heap.size wr W4):=Lib.hid (hb3.trans (yiV.mono hb3.size))
   have HBX:Hid (W4.heap[GX]?=some (.cells #[.bool bX,.slice pX nX cX,.slice qX mX dX] 59 (0,0))):=Lib.hid (by rw [← HW4.out,← HGXx.out];exact World.alloc_heap_new w3 _)
   have HQX:Hid (uM W4 (.agg #[.bool bX,.slice pX nX cX,.slice qX mX dX]) a):=Lib.hid (hqx.below yiV)
   have hd2:=(HR4.out.cell (p:=⟨b2,o2+i,none⟩) HL2.out).trans HC2.out
   rw [← HW4.out] at hd2
   clear hb3 yiV hqx hc1
   go_wp2_with fail
   rw [HW4.out,HGXx.out]
   refine (HGY.out _).mono ?_
   rintro e w5 ⟨bY,pY,nY,cY,qY,mY,dY,rfl,hb5,hqy⟩
   obtain ⟨W6,HW6⟩:∃ W6,Hid (w5.alloc (.cells #[.bool bY,.slice pY nY cY,.slice qY mY dY] 59)=W6):=⟨_,Lib.hid rfl⟩
   have ywh:Below w5.heap.size w5 W6:=by rw [← HW6.out];exact (Below.refl _ _).alloc (Nat.le_refl _) _
   have HR6:Hid (Below W4.heap.size W4 W6):=Lib.hid (hb5.trans (ywh.mono hb5.size))
   have ytN:W6.heap[GX]?=some (.cells #[.bool bX,.slice pX nX cX,.slice qX mX dX] 59 (0,0)):=(HR6.out.block GX (Array.getElem?_eq_some_iff.1 HBX.out).1).trans HBX.out
   have hx0:W6.cell? ⟨GX,0,none⟩=some (.bool bX):=by simp [World.cell?,ytN]
   have hx1:W6.cell? ⟨GX,1,none⟩=some (.slice pX nX cX):=by simp [World.cell?,ytN]
   have hx2:W6.cell? ⟨GX,2,none⟩=some (.slice qX mX dX):=by simp [World.cell?,ytN]
   rw [← HW6.out] at hx0 hx1 hx2
   have HMI:Hid (Calls Tryz.prog 51 #[.agg #[.bool bX,.slice pX nX cX,.slice qX mX dX],.agg #[.bool bY,.slice pY nY cY,.slice qY mY dY]] W6 (yiB (a-b) W6)):=Lib.hid ((yid _ _ a b 10 10 W6 (by omega) HLA.out HLB.out (HQX.out.below HR6.out) (hqy.below ywh)).mono fun _ _ h=>h.c)
   have hff:(f != f)=false:=by simp
   clear hb5 ywh hqy ytN hd2
   go_wp2_with fail
   rw [HW6.out]
   refine (HMI.out).mono ?_
   rintro e w7 ⟨bD,pD,nD,cD,qD,mD,dD,rfl,hqd,hb7⟩
   obtain ⟨GD,HGDx⟩:∃ G,Hid (w7.heap.size=G):=⟨_,rfl⟩
   obtain ⟨W8,HW8⟩:∃ W8,Hid (w7.alloc (.cells #[.bool bD,.slice pD nD cD,.slice qD mD dD] 59)=W8):=⟨_,Lib.hid rfl⟩
   have yfc:Below w7.heap.size w7 W8:=by rw [← HW8.out];exact (Below.refl _ _).alloc (Nat.le_refl _) _
   have HR8:Hid (Below wr.heap.size wr W8):=Lib.hid (HR4.out.trans ((HR6.out.trans ((hb7.trans (yfc.mono hb7.size)).mono HR6.out.size)).mono HR4.out.size))
   have HBD:Hid (W8.heap[GD]?=some (.cells #[.bool bD,.slice pD nD cD,.slice qD mD dD] 59 (0,0))):=Lib.hid (by rw [← HW8.out,← HGDx.out];exact World.alloc_heap_new w7 _)
   have HQD:Hid (uM W8 (.agg #[.bool bD,.slice pD nD cD,.slice qD mD dD]) (a-b)):=Lib.hid (hqd.below yfc)
   have yi5:Hid (Below W2.heap.size W2 W8):=Lib.hid (HB.out.trans (HR8.out.mono HB.out.size))
   have GP:Hid (∀ W,Below W8.heap.size W8 W→Below W8.heap.size W8 W∧W.cell? ⟨GD,0,none⟩=some (.bool bD)∧W.cell? ⟨GD,1,none⟩=some (.slice pD nD cD)∧W.cell? ⟨GD,2,none⟩=some (.slice qD mD dD)∧W.cell? ⟨GS,0,none⟩=some (.bool bS)∧W.cell? ⟨GS,1,none⟩=some (.slice pS nS cS)∧W.cell? ⟨GS,2,none⟩=some (.slice qS mS dS)):=Lib.hid (fun W hW=>by
    have h1:=(hW.block GD (Array.getElem?_eq_some_iff.1 HBD.out).1).trans HBD.out
    have h2:W.heap[GS]?=_:=((yi5.out.trans (hW.mono yi5.out.size)).block GS (Array.getElem?_eq_some_iff.1 ydA.out).1).trans ydA.out
    exact ⟨hW,by simp [World.cell?,h1],by simp [World.cell?,h1],by simp [World.cell?,h1],by simp [World.cell?,h2],by simp [World.cell?,h2],by simp [World.cell?,h2]⟩)
   have HLD:Hid (QLt (10+10+1) (a-b)):=Lib.hid (ytt HLA.out HLB.out)
   obtain ⟨KD,HKD⟩:∃ K,Hid (10+10+1=K):=⟨_,Lib.hid rfl⟩
   rw [HKD.out] at HLD
   have hKD:KD≤100:=by have:=HKD.out;omega
   have HOP:Hid (∀ W,Below W8.heap.size W8 W→Calls Tryz.prog 53 #[.agg #[.bool bD,.slice pD nD cD,.slice qD mD dD]] W (yiB (-(a-b)) W)):=Lib.hid (fun W hW=>(yoU _ (a-b) W (HQD.out.below hW)).mono fun _ _ h=>h.c)
   obtain ⟨z1,HZ1⟩:∃ z,Hid (ybg (a-b-s)=z):=⟨_,rfl⟩
   obtain ⟨z2,HZ2⟩:∃ z,Hid (ybg (-(a-b)-s)=z):=⟨_,rfl⟩
   have HCM1:Hid (∀ W,Below W8.heap.size W8 W→Calls Tryz.prog 52 #[.agg #[.bool bD,.slice pD nD cD,.slice qD mD dD],.agg #[.bool bS,.slice pS nS cS,.slice qS mS dS]] W fun e w'=>e=.returned (.int .i64 z1)∧Below W.heap.size W w'):=Lib.hid (fun W hW=>by
    have h:=yjd _ _ _ s KD KS W (by omega) HLD.out HSL.out (HQD.out.below hW) (HQS.out.below (yi5.out.trans (hW.mono yi5.out.size)))
    rwa [HZ1.out] at h)
   have HCM2:Hid (∀ W v,Below W8.heap.size W8 W→uM W v (-(a-b))→Calls Tryz.prog 52 #[v,.agg #[.bool bS,.slice pS nS cS,.slice qS mS dS]] W fun e w'=>e=.returned (.int .i64 z2)∧Below W.heap.size W w'):=Lib.hid (fun W v hW hv=>by
    have h:=yjd v _ (-(a-b)) s KD KS W (by omega) HLD.out.neg HSL.out hv (HQS.out.below (yi5.out.trans (hW.mono yi5.out.size)))
    rwa [HZ2.out] at h)
   have hz1:z1≤0:=by
    have h:=HNE.out.2.1
    rw [HA.out,HBQ.out] at h
    rw [← HZ1.out];exact yrQ (by grind)
   have hz2:z2≤0:=by
    have h:=HNE.out.2.2
    rw [HA.out,HBQ.out] at h
    rw [← HZ2.out];exact yrQ (by grind)
   have hz1d:decide ((0:Int)<z1)=false:=decide_eq_false (by omega)
   have hz2d:decide ((0:Int)<z2)=false:=decide_eq_false (by omega)
   have hz1n:¬ (0:Int)<z1:=by omega
   have hz2n:¬ (0:Int)<z2:=by omega
   clear hb7 yfc hqd hx0 hx1 hx2
   go_wp2_with fail
   rw [HW8.out,HGDx.out]
   go_region_held3 (fun W=>Below W8.heap.size W8 W∧W.cell? ⟨GD,0,none⟩=some (.bool bD)∧W.cell? ⟨GD,1,none⟩=some (.slice pD nD cD)∧W.cell? ⟨GD,2,none⟩=some (.slice qD mD dD)∧W.cell? ⟨GS,0,none⟩=some (.bool bS)∧W.cell? ⟨GS,1,none⟩=some (.slice pS nS cS)∧W.cell? ⟨GS,2,none⟩=some (.slice qS mS dS))
    (first|exact GP.out _ (Below.refl _ _)|exact GP.out _ (Below.refl _ _).drew|(go_split_ands;exact GP.out _ hB.out)|(go_split_ands;exact GP.out _ hE.out)|(go_split_ands;exact GP.out _ hF.out))
    (first|(go_at_call 53;go_split_ands;refine (HOP.out _ (by assumption)).mono ?_;rintro e wE ⟨sE,pE,nE,cE,qE,mE,dE,rfl,hqE,hbE⟩;have hE:Hid (Below W8.heap.size W8 wE):=Lib.hid (Below.trans (by assumption) (hbE.mono (Below.size (by assumption)))))|(go_at_call 52;go_split_ands;have hx:=hbB;refine (HCM2.out _ _ (by assumption) (by first|exact hqE|exact hqE.dr)).mono ?_;rintro e wF ⟨rfl,hbF⟩;have hF:Hid (Below W8.heap.size W8 wF):=Lib.hid (Below.trans (by assumption) (hbF.mono (Below.size (by assumption)))))|(go_at_call 52;go_split_ands;refine (HCM1.out _ (by assumption)).mono ?_;rintro e wB ⟨rfl,hbB⟩;have hB:Hid (Below W8.heap.size W8 wB):=Lib.hid (Below.trans (by assumption) (hbB.mono (Below.size (by assumption))))))
   all_goals
    have HBF:Hid (Below W2.heap.size W2 wF):=Lib.hid (yi5.out.trans (hF.out.mono yi5.out.size))
    go_wp2_with fail
    go_roundw
    case rel=>exact ⟨i+1,by omega,by go_num,HBF⟩
    case measure=>simp [intOf];omega
  ·obtain rfl:i=n:=by omega
   have ilt:¬ (i:Int)<(i:Int):=by omega
   go_wp2_with fail
   go_ret
   exact ⟨rfl,HBW.out⟩
end
end Go.Proofs.YtgepehlpjpccaaaGreatDoor
