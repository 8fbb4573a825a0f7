/- Contracts. -/
import Derived.Test.YtgepehlpjpccaaaGreatDoorRg
namespace Go.Proofs.YtgepehlpjpccaaaGreatDoor
set_option maxHeartbeats 3200000
set_option maxRecDepth 100000
section
open Go.RowKit Big
open Go.Lib
def ya7 (q:Rat) (f:Bool) (w:World) (e:Ending) (w':World):Prop:=∃ b p n c p2 n2 c2,e=.returned (.tuple #[.agg #[.bool b,.slice p n c,.slice p2 n2 c2],.bool f])∧Below w.heap.size w w'∧uM w' (.agg #[.bool b,.slice p n c,.slice p2 n2 c2]) q
theorem ya7.flag {q:Rat} {f:Bool} {w w':World} {e:Ending} (h:ya7 q f w e w'):zF q f w e w':=by
 obtain ⟨b,p,n,c,p2,n2,c2,he,hb,hq⟩:=h
 exact ⟨b,p,n,c,p2,n2,c2,he,hb,fun _=>hq⟩
theorem yhS (s:ByteArray) (w:World) (h82:(82:Int)<s.size):Calls Tryz.prog 31 #[.string s] w (ya7 0 false w):=by
 have zA:=yA (Resa.start w)
 go_enter Tryz.func31,Tryz.ntmps31
 go_wp2_with fail
 refine bodyPost_ret (v:=.tuple #[.agg #[.bool false,.slice none 0 0,.slice none 0 0],.bool false]) ?h1 rfl ?h2
 case h1=>simp [results,Tryz.results31,go_sem]
 exact ⟨_,_,_,_,_,_,_,rfl,zA.out.below,uM.zero _⟩
theorem yhT (s:ByteArray) (w:World) (h82:(s.size:Int)≤82) (hpl:∀ W,Hid (Calls Tryz.prog 68 #[.string s] W (ydi none W))):Calls Tryz.prog 31 #[.string s] w (ya7 0 false w):=by
 have zA:=yA (Resa.start w)
 go_enter Tryz.func31,Tryz.ntmps31
 go_wp2_with fail
 refine (hpl _).out.mono ?_
 rintro e w1 ⟨q1,b,p,n,c,p2,n2,c2,rfl,hb1,-⟩
 have hr2:=yA ((zA.out.next hb1).next (yF w1 (.cells #[.bool b,.slice p n c,.slice p2 n2 c2] 59)))
 obtain ⟨z0,z1,z2,l0,l1,l2,f0,f1,f2⟩:=hr2.out.slots
 have q3:=yA (hr2.out.put3 (Nat.le_refl _) false none none 0 0 0 0).below
 clear hb1
 go_wp2_with fail
 refine bodyPost_ret (v:=.tuple #[.agg #[.bool false,.slice none 0 0,.slice none 0 0],.bool false]) ?h1 rfl ?h2
 case h1=>simp [results,Tryz.results31,go_sem,l0,l1,l2]
 exact ⟨_,_,_,_,_,_,_,rfl,q3.out,uM.zero _⟩
theorem yrp (s y:ByteArray) (q:Rat) (w:World) (h82:(s.size:Int)≤82) (hpl:∀ W,Hid (Calls Tryz.prog 68 #[.string s] W (zF q true W))) (htx:∀ W x,uM W x q→Hid (Calls Tryz.prog 69 #[x] W fun e w'=>e=.returned (.tuple #[.string y,.bool true])∧Below W.heap.size W w')) (he:(y.toList==s.toList)=true):Calls Tryz.prog 31 #[.string s] w (zF q true w):=by
 have zA:=yA (Resa.start w)
 go_enter Tryz.func31,Tryz.ntmps31
 go_wp2_with fail
 refine (hpl _).out.mono ?_
 rintro e w1 ⟨b,p,n,c,p2,n2,c2,rfl,hb1,hq⟩
 have hr1:=zA.out.next hb1
 have hq1:=hq rfl
 have hr2:=yA (hr1.next (yF w1 (.cells #[.bool b,.slice p n c,.slice p2 n2 c2] 59)))
 have hq2:=yA (hq1.below (yF w1 (.cells #[.bool b,.slice p n c,.slice p2 n2 c2] 59)))
 have hbx:Hid ((w1.alloc (.cells #[.bool b,.slice p n c,.slice p2 n2 c2] 59)).heap[w1.heap.size]?=some (.cells #[.bool b,.slice p n c,.slice p2 n2 c2] 59 (0,0))):=yA (yY _ _)
 have ht:=htx _ _ hq2.out
 clear hb1 hq hr1 hq1
 go_wp2_with fail
 refine ht.out.mono ?_
 rintro e w3 ⟨rfl,hb3⟩
 have hr3:=yA (hr2.out.next hb3)
 have hq3:=hq2.out.below hb3
 have ycj:w3.heap[w1.heap.size]?=some (.cells #[.bool b,.slice p n c,.slice p2 n2 c2] 59 (0,0)):=(hb3.block _ (by simp)).trans hbx.out
 have c0:=zU ycj 0
 have c1:=zU ycj 1
 have c2':=zU ycj 2
 obtain ⟨z0,z1,z2,l0,l1,l2,f0,f1,f2⟩:=hr3.out.slots
 obtain ⟨u,v,he,hu,hv⟩:=hq3
 cases he
 have yD:=yA (hr3.out.fin (Nat.le_refl _) rfl hu hv)
 obtain ⟨sb,hsb⟩:∃ sb,Hid (sb=decide (q.num<0)):=⟨_,yA rfl⟩
 rw [← hsb.out] at yD c0 ycj
 rw [← hsb.out]
 clear ycj hb3 hu hv ht
 go_wp2_with fail
 refine bodyPost_ret (v:=.tuple #[.agg #[.bool sb,.slice p n c,.slice p2 n2 c2],.bool true]) ?h1 rfl ?h2
 case h1=>simp [results,Tryz.results31,go_sem,l0,l1,l2]
 obtain ⟨x,hx,hq,hb⟩:=yD.out
 cases hx
 exact ⟨_,_,_,_,_,_,_,rfl,hb,fun _=>hq⟩
theorem yoA (s y:ByteArray) (q:Rat) (w:World) (h82:(s.size:Int)≤82) (hpl:∀ W,Hid (Calls Tryz.prog 68 #[.string s] W (zF q true W))) (htx:∀ W x,uM W x q→Hid (Calls Tryz.prog 69 #[x] W fun e w'=>e=.returned (.tuple #[.string y,.bool true])∧Below W.heap.size W w')) (he:(y.toList==s.toList)=false):Calls Tryz.prog 31 #[.string s] w (ya7 q false w):=by
 have zA:=yA (Resa.start w)
 go_enter Tryz.func31,Tryz.ntmps31
 go_wp2_with fail
 refine (hpl _).out.mono ?_
 rintro e w1 ⟨b,p,n,c,p2,n2,c2,rfl,hb1,hq⟩
 have hr1:=zA.out.next hb1
 have hq1:=hq rfl
 have hr2:=yA (hr1.next (yF w1 (.cells #[.bool b,.slice p n c,.slice p2 n2 c2] 59)))
 have hq2:=yA (hq1.below (yF w1 (.cells #[.bool b,.slice p n c,.slice p2 n2 c2] 59)))
 have hbx:Hid ((w1.alloc (.cells #[.bool b,.slice p n c,.slice p2 n2 c2] 59)).heap[w1.heap.size]?=some (.cells #[.bool b,.slice p n c,.slice p2 n2 c2] 59 (0,0))):=yA (yY _ _)
 have ht:=htx _ _ hq2.out
 clear hb1 hq hr1 hq1
 go_wp2_with fail
 refine ht.out.mono ?_
 rintro e w3 ⟨rfl,hb3⟩
 have hr3:=yA (hr2.out.next hb3)
 have hq3:=hq2.out.below hb3
 have ycj:w3.heap[w1.heap.size]?=some (.cells #[.bool b,.slice p n c,.slice p2 n2 c2] 59 (0,0)):=(hb3.block _ (by simp)).trans hbx.out
 have c0:=zU ycj 0
 have c1:=zU ycj 1
 have c2':=zU ycj 2
 obtain ⟨z0,z1,z2,l0,l1,l2,f0,f1,f2⟩:=hr3.out.slots
 obtain ⟨u,v,he,hu,hv⟩:=hq3
 cases he
 have yD:=yA (hr3.out.fin (Nat.le_refl _) rfl hu hv)
 obtain ⟨sb,hsb⟩:∃ sb,Hid (sb=decide (q.num<0)):=⟨_,yA rfl⟩
 rw [← hsb.out] at yD c0 ycj
 rw [← hsb.out]
 clear ycj hb3 hu hv ht
 go_wp2_with fail
 refine bodyPost_ret (v:=.tuple #[.agg #[.bool sb,.slice p n c,.slice p2 n2 c2],.bool false]) ?h1 rfl ?h2
 case h1=>simp [results,Tryz.results31,go_sem,l0,l1,l2]
 obtain ⟨x,hx,hq,hb⟩:=yD.out
 cases hx
 exact ⟨_,_,_,_,_,_,_,rfl,hb,hq⟩
theorem yoB (s y:ByteArray) (q:Rat) (w:World) (h82:(s.size:Int)≤82) (hpl:∀ W,Hid (Calls Tryz.prog 68 #[.string s] W (zF q true W))) (htx:∀ W x,uM W x q→Hid (Calls Tryz.prog 69 #[x] W fun e w'=>e=.returned (.tuple #[.string y,.bool false])∧Below W.heap.size W w')) :Calls Tryz.prog 31 #[.string s] w (ya7 q false w):=by
 have zA:=yA (Resa.start w)
 go_enter Tryz.func31,Tryz.ntmps31
 go_wp2_with fail
 refine (hpl _).out.mono ?_
 rintro e w1 ⟨b,p,n,c,p2,n2,c2,rfl,hb1,hq⟩
 have hr1:=zA.out.next hb1
 have hq1:=hq rfl
 have hr2:=yA (hr1.next (yF w1 (.cells #[.bool b,.slice p n c,.slice p2 n2 c2] 59)))
 have hq2:=yA (hq1.below (yF w1 (.cells #[.bool b,.slice p n c,.slice p2 n2 c2] 59)))
 have hbx:Hid ((w1.alloc (.cells #[.bool b,.slice p n c,.slice p2 n2 c2] 59)).heap[w1.heap.size]?=some (.cells #[.bool b,.slice p n c,.slice p2 n2 c2] 59 (0,0))):=yA (yY _ _)
 have ht:=htx _ _ hq2.out
 clear hb1 hq hr1 hq1
 go_wp2_with fail
 refine ht.out.mono ?_
 rintro e w3 ⟨rfl,hb3⟩
 have hr3:=yA (hr2.out.next hb3)
 have hq3:=hq2.out.below hb3
 have ycj:w3.heap[w1.heap.size]?=some (.cells #[.bool b,.slice p n c,.slice p2 n2 c2] 59 (0,0)):=(hb3.block _ (by simp)).trans hbx.out
 have c0:=zU ycj 0
 have c1:=zU ycj 1
 have c2':=zU ycj 2
 obtain ⟨z0,z1,z2,l0,l1,l2,f0,f1,f2⟩:=hr3.out.slots
 obtain ⟨u,v,he,hu,hv⟩:=hq3
 cases he
 have yD:=yA (hr3.out.fin (Nat.le_refl _) rfl hu hv)
 obtain ⟨sb,hsb⟩:∃ sb,Hid (sb=decide (q.num<0)):=⟨_,yA rfl⟩
 rw [← hsb.out] at yD c0 ycj
 rw [← hsb.out]
 clear ycj hb3 hu hv ht
 go_wp2_with fail
 refine bodyPost_ret (v:=.tuple #[.agg #[.bool sb,.slice p n c,.slice p2 n2 c2],.bool false]) ?h1 rfl ?h2
 case h1=>simp [results,Tryz.results31,go_sem,l0,l1,l2]
 obtain ⟨x,hx,hq,hb⟩:=yD.out
 cases hx
 exact ⟨_,_,_,_,_,_,_,rfl,hb,hq⟩
def yoC (o:Option Rat) (w:World) (e:Ending) (w':World):Prop:=match o with
 | some q=>zF q true w e w'
 | none=>∃ q,zF q false w e w'
theorem yeh {l:List UInt8} {s:Bool} {n d:Nat} (h:uC l=some (s,n,d)) (hl:l.length≤82):QLt 10 (yL s n d)∧0<d:=by
 unfold uC at h
 rw [Option.map_eq_some_iff] at h
 obtain ⟨⟨n',d'⟩,h1,h2⟩:=h
 simp only [Prod.mk.injEq] at h2
 rw [h2.2.1,h2.2.2] at h1
 have hd:=yfu h1
 refine ⟨?_,hd⟩
 have h3:n<B9^10∧d<B9^10:=by
  have e9:B9^10=10^90:=by rw [yaf]
  rw [e9]
  have hle:(Lib.trimPrefix l [45]).length≤82:=Nat.le_trans (ygs l) hl
  generalize Lib.trimPrefix l [45]=m at h1 hle
  have hdv:∀ x:List UInt8,yO x=true→x.length≤82→yV x<10^90:=fun x hx hxl =>
   Nat.lt_of_lt_of_le (ycp x (jD hx)) (Nat.pow_le_pow_right (by omega) (by omega))
  obtain ⟨k1,k2,k3⟩:=yc1 m 46
  obtain ⟨m1,m2,m3⟩:=yc1 m 47
  unfold vR at h1
  split at h1
  ·split at h1
   ·rename_i hdd
    rw [Bool.and_eq_true] at hdd
    simp only [Option.some.injEq,Prod.mk.injEq] at h1
    obtain ⟨rfl,rfl⟩:=h1
    refine ⟨hdv _ ?_ (by rw [List.length_append];omega),Nat.pow_lt_pow_right (by omega) (by omega)⟩
    unfold yO
    rw [List.all_append,jD hdd.1,jD hdd.2]
    have:=hdd.1
    unfold yO at this
    simp at this ⊢
    intro h;exact absurd h this.2
   ·cases h1
  ·split at h1
   ·split at h1
    ·rename_i hdd
     rw [Bool.and_eq_true,Bool.and_eq_true] at hdd
     simp only [Option.some.injEq,Prod.mk.injEq] at h1
     obtain ⟨rfl,rfl⟩:=h1
     exact ⟨hdv _ hdd.1.1 (by omega),hdv _ hdd.1.2 (by omega)⟩
    ·cases h1
   ·split at h1
    ·rename_i hdd
     simp only [Option.some.injEq,Prod.mk.injEq] at h1
     obtain ⟨rfl,rfl⟩:=h1
     exact ⟨hdv _ hdd hle,Nat.one_lt_pow (by omega) (by omega)⟩
    ·cases h1
 have e:yL s n d=yL (s&&!(n==0)) n d:=(jQ s n d).symm
 rw [e]
 exact yoT _ h3.1 h3.2 hd (by intro h;simp at h;omega)
theorem yc8 {l:List UInt8} (h:uC l=none):num l=none:=by
 unfold num uD;rw [h];split<;>rfl
theorem ymo {l:List UInt8} {s:Bool} {n d:Nat} (h:uC l=some (s,n,d)) (hl:l.length≤82) (hd:0<d):num l=if GT (yL s n d)=l then some (yL s n d) else none:=by
 unfold num uD
 rw [if_neg (by omega),h]
 have e:=yjL (s:=s) (a:=n) (b:=d) hd
 rw [jQ] at e
 simp only [e]
 split
 ·simp [jQ]
 ·rfl
theorem yoD (s:ByteArray) (w:World):Calls Tryz.prog 31 #[.string s] w (yoC (num s.data.toList) w):=by
 have hls:s.data.toList.length=s.size:=by simp
 by_cases h82:s.size≤82
 ·cases hr:uC s.data.toList with
  | none =>
   rw [yc8 hr]
   exact (yhT s w (by omega) (fun W=>yA (by have h:=ydj s W (by omega);rw [hr] at h;exact h))).mono fun e w' h=>⟨_,h.flag⟩
  | some t =>
   obtain ⟨sg,n,d⟩:=t
   obtain ⟨hK,hd⟩:=yeh hr (by omega)
   rw [ymo hr (by omega) hd]
   obtain ⟨y,hy⟩:∃ y:ByteArray,y=⟨(GT (yL sg n d)).toArray⟩:=⟨_,rfl⟩
   have hyl:y.data.toList=GT (yL sg n d):=by rw [hy]
   have yqs:y.toList=GT (yL sg n d):=by rw [Lib.toList_data];exact hyl
   have hpl:∀ W,Hid (Calls Tryz.prog 68 #[.string s] W (zF (yL sg n d) true W)):=fun W=>yA (by have h:=ydj s W (by omega);rw [hr] at h;exact h)
   have htx:∀ f,f=(!(GT (yL sg n d)).isEmpty)→∀ W x,uM W x (yL sg n d)→Hid (Calls Tryz.prog 69 #[x] W fun e w'=>e=.returned (.tuple #[.string y,.bool f])∧Below W.heap.size W w'):=by
    rintro f rfl W x hx
    rw [hy];exact yA (yrD x _ 10 W (by omega) hK hx)
   have hne:s.data.toList≠[]:=by intro h;rw [h] at hr;cases hr
   cases hf:(GT (yL sg n d)).isEmpty with
   | true =>
    have h0:GT (yL sg n d)=[]:=List.isEmpty_iff.1 hf
    rw [if_neg (by rw [h0];exact fun h=>hne h.symm)]
    exact (yoB s y (yL sg n d) w (by omega) hpl (htx false (by rw [hf];rfl))).mono fun e w' h=>⟨_,h.flag⟩
   | false =>
    by_cases he:GT (yL sg n d)=s.data.toList
    ·rw [if_pos he]
     exact yrp s y (yL sg n d) w (by omega) hpl (htx true (by rw [hf];rfl)) (by rw [yqs,he,Lib.toList_data];simp)
    ·rw [if_neg he]
     exact (yoA s y (yL sg n d) w (by omega) hpl (htx true (by rw [hf];rfl)) (by rw [yqs,Lib.toList_data,beq_eq_false_iff_ne];exact he)).mono fun e w' h=>⟨_,h.flag⟩
 ·have hn:num s.data.toList=none:=by unfold num uD;rw [if_pos (by omega)];rfl
  rw [hn]
  exact (yhS s w (by omega)).mono fun e w' h=>⟨_,h.flag⟩
def yiB (q:Rat) (w:World) (e:Ending) (w':World):Prop:=∃ sb p n c p2 n2 c2,e=.returned (.agg #[.bool sb,.slice p n c,.slice p2 n2 c2])∧uM w' (.agg #[.bool sb,.slice p n c,.slice p2 n2 c2]) q∧Below w.heap.size w w'
theorem GW.c {q:Rat} {w w':World} {e:Ending} (h:GW q w e w'):yiB q w e w':=by
 obtain ⟨x,rfl,hx,hb⟩:=h
 obtain ⟨p,n,c,p2,n2,c2,rfl,h1,h2⟩:=hx.slices
 exact ⟨_,p,n,c,p2,n2,c2,rfl,hx,hb⟩
theorem Keep.put3 {w0 W:World} {L:List Blk} {g:Nat} {z0 z1 z2:Value} {T:TypeId} (h:Keep w0 W ((g,#[z0,z1,z2],T)::L)) (hg:w0.heap.size≤g) (hne:∀ x ∈ L,x.1≠g) (a b c:Value) :
  Keep w0 (((W.setCell ⟨g,0,none⟩ a).setCell ⟨g,1,none⟩ b).setCell ⟨g,2,none⟩ c) ((g,#[a,b,c],T)::L) :=
 ((h.put hg hne 0 a).put hg hne 1 b).put hg hne 2 c
theorem uM.put3 {B:Nat} {w0 W:World} {x:Value} {r:Rat} (hq:uM W x r) (h:Resa B w0 W) (hB:w0.heap.size≤B) (a:Bool) (p q:Option Addr) (n c m d:Nat):uM (((W.setCell ⟨B,0,none⟩ (.bool a)).setCell ⟨B,1,none⟩ (.slice p n c)).setCell ⟨B,2,none⟩ (.slice q m d)) x r:=by
 obtain ⟨u,v,rfl,hu,hv⟩:=hq
 exact ⟨u,v,rfl,h.nat3 hB hu a p q n c m d,hv.imp (fun h2=>h.nat3 hB h2 a p q n c m d) fun h2=>⟨h.nat3 hB h2.1 a p q n c m d,h2.2⟩⟩
theorem yi8 {l:List UInt8} {q:Rat} (h:num l=some q):QLt 5 q:=by
 have hs:=ypN h
 unfold ykc at hs
 have hb:∀ n:Nat,nDigits n≤40→n<B9^5:=by
  intro n hn
  have h1:=ycp (decDigits n) (yan n).1
  rw [(yan n).2,decDigits_length] at h1
  rw [yaf]
  exact Nat.lt_of_lt_of_le h1 (Nat.pow_le_pow_right (by omega) (by omega))
 exact ⟨hb _ hs.1,hb _ hs.2⟩
theorem ynf {K:Nat} {q:Rat} {s:Bool} {a b:Nat} (h:yL s a b=q) (ha:a<B9^K) (hb:b<B9^K) (hb0:0<b):QLt K q:=by
 rw [← h,← jQ]
 exact yoT _ ha hb hb0 (by intro h;simp at h;omega)
theorem yr7 (a b:Rat):∃ (s:Bool) (n:Nat),yL s n (a.den*b.den)=a+b∧n≤a.num.natAbs*b.den+b.num.natAbs*a.den:=by
 have e1:yL (decide (a.num<0)) (a.num.natAbs*b.den) (a.den*b.den)=a:=by rw [vZ a.den_pos b.den_pos,uT]
 have e2:yL (decide (b.num<0)) (b.num.natAbs*a.den) (a.den*b.den)=b:=by rw [Nat.mul_comm a.den b.den,vZ b.den_pos a.den_pos,uT]
 by_cases h:decide (a.num<0)=decide (b.num<0)
 ·rw [← h] at e2
  exact ⟨_,_,by rw [yeS,e1,e2],Nat.le_refl _⟩
 ·by_cases hle:b.num.natAbs*a.den≤a.num.natAbs*b.den
  ·exact ⟨_,_,by rw [yaH h hle,e1,e2],by omega⟩
  ·exact ⟨_,_,by rw [yaH (fun e=>h e.symm) (Nat.le_of_lt (Nat.lt_of_not_le hle)),e1,e2,Rat.add_comm],by omega⟩
theorem QLt.add {K L:Nat} {a b:Rat} (ha:QLt K a) (hb:QLt L b):QLt (K+L+1) (a+b):=by
 obtain ⟨s,n,h1,h2⟩:=yr7 a b
 have h3:=vN ha.1 hb.2
 have h4:=vN hb.1 ha.2
 rw [Nat.add_comm L K] at h4
 have h5:B9^(K+L+1)=B9^(K+L)*1000000000:=by rw [Nat.pow_succ,zK]
 exact ynf h1 (by omega) (yab (vN ha.2 hb.2) (by omega)) (Nat.mul_pos a.den_pos b.den_pos)
end
set_option maxHeartbeats 2000000
section
open Go.RowKit
open Go.Lib
def vA (k:Int):Nat:=if k=1 then 1 else if k=2 then 2 else if k=3 then 4 else if k=4 then 8 else 0
def isT (k:Int):Bool:=decide (1≤k)&&decide (k≤5)
theorem yd8 (k:Int):vA k≤8:=by
 unfold vA
 repeat' split
 all_goals omega
theorem yr8 {k:Int} (h:k<1∨4<k):vA k=0:=by
 unfold vA
 rw [if_neg (by omega),if_neg (by omega),if_neg (by omega),if_neg (by omega)]
theorem kinds (k:Int):k=1∨k=2∨k=3∨k=4∨k=5∨k<1∨5<k:=by omega
def uA (k:Int) (xs:List (List UInt8)):Int:=if isT k=false then 2 else if xs.all (uB k)=false then 41 else 0
theorem yb8 (k:Int) (w:World):Calls Tryz.prog 13 #[.int .i64 k] w fun e w'=>e=.returned (.int .i64 (vA k:Int))∧w=w':=by
 by_cases h1:k=1
 ·subst h1
  go_enter Tryz.func13,Tryz.ntmps13
  go_wp2_with fail
  go_ret
  exact ⟨rfl,rfl⟩
 by_cases h2:k=2
 ·subst h2
  go_enter Tryz.func13,Tryz.ntmps13
  go_wp2_with fail
  go_ret
  exact ⟨rfl,rfl⟩
 by_cases h3:k=3
 ·subst h3
  go_enter Tryz.func13,Tryz.ntmps13
  go_wp2_with fail
  go_ret
  exact ⟨rfl,rfl⟩
 by_cases h4:k=4
 ·subst h4
  go_enter Tryz.func13,Tryz.ntmps13
  go_wp2_with fail
  go_ret
  exact ⟨rfl,rfl⟩
 have e:vA k=0:=by unfold vA;rw [if_neg h1,if_neg h2,if_neg h3,if_neg h4]
 rw [e]
 have g1:(k==1)=false:=by simpa using h1
 have g2:(k==2)=false:=by simpa using h2
 have g3:(k==3)=false:=by simpa using h3
 have g4:(k==4)=false:=by simpa using h4
 go_enter Tryz.func13,Tryz.ntmps13
 go_wp2_with fail
 go_ret
 exact ⟨rfl,rfl⟩
theorem ydW (k:Int) (w:World):Calls Tryz.prog 39 #[.int .i64 k] w fun e w'=>e=.returned (.bool (isT k))∧w=w':=by
 have HW:=Lib.hid (yb8 k w)
 obtain ⟨d,HD⟩:∃ d,Hid (d=vA k):=⟨_,rfl⟩
 rw [← HD.out] at HW
 obtain ⟨b,HB⟩:∃ b,Hid (b=isT k):=⟨_,rfl⟩
 rw [← HB.out]
 by_cases h:1≤k∧k≤4
 ·obtain rfl:b=true:=by rw [HB.out];unfold isT;rw [decide_eq_true h.1,decide_eq_true (by omega)];rfl
  have hd:(0:Int)<(d:Int):=by
   have:0<d:=by
    rw [HD.out];unfold vA
    have:k=1∨k=2∨k=3∨k=4:=by omega
    rcases this with rfl|rfl|rfl|rfl<;>decide
   omega
  go_enter Tryz.func39,Tryz.ntmps39
  go_wp2_with fail
  refine (HW.out).mono ?_
  rintro e w' ⟨rfl,rfl⟩
  go_wp2_with fail
  go_ret
  exact ⟨rfl,rfl⟩
 ·obtain rfl:d=0:=by rw [HD.out];exact yr8 (by omega)
  by_cases h5:k=5
  ·subst h5
   obtain rfl:b=true:=HB.out
   go_enter Tryz.func39,Tryz.ntmps39
   go_wp2_with fail
   refine (HW.out).mono ?_
   rintro e w' ⟨rfl,rfl⟩
   go_wp2_with fail
   go_ret
   exact ⟨rfl,rfl⟩
  ·obtain rfl:b=false:=by
    rw [HB.out];unfold isT
    by_cases h1:1≤k
    ·rw [decide_eq_false (show ¬ k≤5 by omega),Bool.and_false]
    ·rw [decide_eq_false h1];rfl
   have g5:(k==5)=false:=by simpa using h5
   go_enter Tryz.func39,Tryz.ntmps39
   go_wp2_with fail
   refine (HW.out).mono ?_
   rintro e w' ⟨rfl,rfl⟩
   go_wp2_with fail
   go_ret
   exact ⟨rfl,rfl⟩
theorem ylw (k:Int) (w:World):Calls Tryz.prog 41 #[.int .i64 k] w fun e w'=>e=.returned (.bool (isT k))∧w=w':=by
 obtain ⟨b,HB⟩:∃ b,Hid (b=isT k):=⟨_,rfl⟩
 rw [← HB.out]
 by_cases h1:1≤k
 ·by_cases h5:k≤5
  ·obtain rfl:b=true:=by rw [HB.out];unfold isT;rw [decide_eq_true h1,decide_eq_true h5];rfl
   go_enter Tryz.func41,Tryz.ntmps41
   go_wp2_with fail
   go_ret
   exact ⟨rfl,rfl⟩
  ·obtain rfl:b=false:=by rw [HB.out];unfold isT;rw [decide_eq_false h5,Bool.and_false]
   have h6:5<k:=by omega
   go_enter Tryz.func41,Tryz.ntmps41
   go_wp2_with fail
   go_ret
   exact ⟨rfl,rfl⟩
 ·obtain rfl:b=false:=by rw [HB.out];unfold isT;rw [decide_eq_false h1];rfl
  have h6:k<1:=by omega
  go_enter Tryz.func41,Tryz.ntmps41
  go_wp2_with fail
  go_ret
  exact ⟨rfl,rfl⟩
theorem ycv (k:Int) (p:Option Addr) (c n:Nat) (xs:List (List UInt8)) (w:World) (hx:Hid (xs.length=n)) (hn:n≤4096) (hs:Ss w p xs) (he:Env w) :
  Calls Tryz.prog 44 #[.int .i64 k,.slice p n c] w fun e w'=>e=.returned (.int .i64 (uA k xs))∧Below w.heap.size w w':=by
 have HS:=Lib.hid hs
 have hn':(n:Int)≤4096:=by omega
 have HT:=Lib.hid (fun W=>ydW k W)
 have HE:=Lib.hid he
 clear he
 obtain ⟨b,HBT⟩:∃ b,Hid (isT k=b):=⟨_,rfl⟩
 rw [HBT.out] at HT
 obtain ⟨v,HV⟩:∃ v,Hid (v=uA k xs):=⟨_,rfl⟩
 rw [← HV.out]
 have HB0:=Lib.hid (Below.refl w.heap.size w)
 clear hs
 cases b with
 | false =>
  obtain rfl:v=2:=by rw [HV.out];unfold uA;rw [if_pos HBT.out]
  go_enter Tryz.func44,Tryz.ntmps44
  go_wp2_with fail
  refine (HT.out _).mono ?_
  rintro e w' ⟨rfl,rfl⟩
  go_wp2_with fail
  go_ret
  exact ⟨rfl,HB0.out⟩
 | true =>
  have HNO:Hid (∀ j,j<n→uB k (xs.getD j [])=false→v=41):=Lib.hid (fun j hj h=>by
   rw [HV.out];unfold uA
   rw [if_neg (by rw [HBT.out];simp),if_pos]
   rw [List.all_eq_false]
   have hj2:j<xs.length:=by rw [hx.out];exact hj
   rw [List.getD_eq_getElem?_getD,List.getElem?_eq_getElem hj2] at h
   exact ⟨_,List.getElem_mem hj2,by simpa using h⟩)
  have yqt:Hid ((∀ j,j<n→uB k (xs.getD j [])=true)→v=0):=Lib.hid (fun h=>by
   rw [HV.out];unfold uA
   rw [if_neg (by rw [HBT.out];simp),if_neg]
   rw [Bool.not_eq_false,List.all_eq_true]
   intro x hx2
   obtain ⟨j,hj,rfl⟩:=List.getElem_of_mem hx2
   have:=h j (by rw [← hx.out];exact hj)
   rwa [List.getD_eq_getElem?_getD,List.getElem?_eq_getElem hj] at this)
  go_enter Tryz.func44,Tryz.ntmps44
  go_wp2_with fail
  refine (HT.out _).mono ?_
  rintro e w' ⟨rfl,rfl⟩
  go_wp2_with fail
  refine (yda n hn' _).mono ?_
  rintro e w' ⟨rfl,rfl⟩
  go_wp2_with fail
  go_loopw [16] (fun iv wr=>∃ i:Nat,i≤n∧iv=.int .i64 i∧Hid (Below w.heap.size w wr)∧Hid (∀ j,j<i→uB k (xs.getD j [])=true)) (fun iv _=>n-(intOf iv).toNat)
  case atStart=>exact ⟨0,Nat.zero_le _,rfl,HB0,Lib.hid (fun j hj=>by omega)⟩
  case round =>
   obtain ⟨i,hi,rfl,HB,HA⟩:=hrel
   have ii:(i:Int)≤(n:Int):=by omega
   by_cases hlt:i<n
   ·have ilt:(i:Int)<(n:Int):=by omega
    obtain ⟨b1,o1,x,e1,hb1,hc1,hxx⟩:=(HS.out.below HB.out).at (k:=i) (by rw [hx.out];exact hlt)
    subst e1
    have HC:=Lib.hid (ygM k x wr (HE.out.below HB.out))
    obtain ⟨f,HF⟩:∃ f,Hid (uB k x=f):=⟨_,rfl⟩
    rw [HF.out] at HC
    cases f with
    | true =>
     have HA2:Hid (∀ j,j<i+1→uB k (xs.getD j [])=true):=Lib.hid (fun j hj=>by
      by_cases e:j=i
      ·rw [e,hxx.out];exact HF.out
      ·exact HA.out j (by omega))
     go_wp2_with fail
     refine (HC.out).mono ?_
     rintro e w2 ⟨rfl,hb2⟩
     have uV:=Lib.hid (HB.out.trans (hb2.mono HB.out.size))
     clear hb2
     go_wp2_with fail
     go_roundw
     case rel=>exact ⟨i+1,by omega,by go_num,uV,HA2⟩
     case measure=>simp [intOf];omega
    | false =>
     obtain rfl:v=41:=HNO.out i hlt (by rw [hxx.out];exact HF.out)
     go_wp2_with fail
     refine (HC.out).mono ?_
     rintro e w2 ⟨rfl,hb2⟩
     have uV:=Lib.hid (HB.out.trans (hb2.mono HB.out.size))
     clear hb2
     go_wp2_with fail
     go_ret
     exact ⟨rfl,uV.out⟩
   ·obtain rfl:i=n:=by omega
    have ilt:¬ (i:Int)<(i:Int):=by omega
    obtain rfl:v=0:=yqt.out HA.out
    go_wp2_with fail
    go_ret
    exact ⟨rfl,HB.out⟩
end
set_option maxHeartbeats 1600000
section
open Go.RowKit
open Go.Lib
theorem yak {w w':World} (h:Below w.heap.size w w') (r:Option Nat):w.grownBy w' r:=⟨h.os,h.tape,h.output,h.size,fun k hk _=>h.block k hk⟩
theorem GK {w w':World} {B e size n:Nat} {v:Value} {xs:List Value} (h:w.ownsRow B e size v n xs) (hb:Below w.heap.size w w'):w'.ownsRow B e size v n xs:=by
 refine h.kept (row:=none) (yak hb none) ?_
 cases v.ownBlock with
 | none=>exact .inl rfl
 | some a=>exact .inr (by simp)
theorem Grew.of_below {B:Nat} {w w':World} {v:Value} {l:List UInt8} (h:w.ownsRow B 5 1 v l.length (zS l)) (hb:Below w.heap.size w w'):Grew B w v l w' v:=⟨GK h hb,yak hb _,.inl rfl⟩
theorem yfd (B:Nat) (v:Value) (l x:List UInt8) (z:Int) (y n:Nat) (w:World) (hn:n≤8) (hl:l.length≤100000000) (hB:B≤w.heap.size) (hv:w.ownsRow B 5 1 v l.length (zS l)) (hx:x.length≤100) (hp:parseIntB 64 x=.ok z) (hy:IntKind.u64.wrap z=(y:Int)) (hy2:y<18446744073709551616) :
  Calls Tryz.prog 77 #[v,.string ⟨x.toArray⟩,.int .i64 (n:Int)] w (App B w v (l++be n y)):=by
 have HP:=Lib.hid (Tryz.strconv_ParseInt_10_at64_ok ⟨x.toArray⟩ (by rw [← ByteArray.size_data];simp;omega) z (by simpa using hp) w)
 have HW:Hid (∀ W,Below w.heap.size w W→Calls Tryz.prog 128 #[v,.int .u64 (y:Int),.int .i64 (n:Int)] W (App B W v (l++be n y))):=Lib.hid fun W hW=>jN B v l y n W hn hl (Nat.le_trans hB hW.size) (GK hv hW) hy2
 have HG:=Lib.hid hv
 clear hv hp hx hl hB
 clear hy2 hn
 go_enter Tryz.func77,Tryz.ntmps77
 go_wp2_with fail
 refine (HP.out).mono ?_
 rintro e w1 ⟨rfl,hb1⟩
 have zG:=Lib.hid (ycV hb1)
 clear hb1
 go_wp2_with fail
 refine (HW.out _ zG.out).mono ?_
 rintro e w2 ⟨v2,rfl,hg2⟩
 have HG2:=Lib.hid ((Grew.of_below HG.out zG.out).trans hg2)
 clear hg2
 go_wp2_with fail
 go_ret
 exact ⟨_,rfl,HG2.out⟩
theorem yeK (B:Nat) (v:Value) (l x:List UInt8) (n:Nat) (w:World) (hn:n≤8) (hl:l.length≤100000000) (hB:B≤w.heap.size) (hv:w.ownsRow B 5 1 v l.length (zS l)) (hx:x.length≤100) (hp:parseIntB 64 x=parseIntB 64 []) (he:Env w) :
  Calls Tryz.prog 77 #[v,.string ⟨x.toArray⟩,.int .i64 (n:Int)] w (App B w v (l++be n 0)):=by
 obtain ⟨ev,h1,k1⟩:=he.syn
 have HP:Hid (Calls Tryz.prog 127 #[.string ⟨x.toArray⟩,.int .i64 10,.int .i64 64] w fun e w'=>Below w.heap.size w w'∧∃ z T N,e=.returned (.tuple #[.int .i64 z,.iface T (.pointer (some ⟨N,0,none⟩))])):=Lib.hid
  ((Tryz.strconv_ParseInt_10_at64_syntax ⟨x.toArray⟩ (by rw [← ByteArray.size_data];simp;omega) (by simpa using hp) ev w h1 k1).mono fun e w' ⟨N,h,_,_,hb⟩=>⟨hb,_,_,N,h⟩)
 have HW:Hid (∀ W,Below w.heap.size w W→Calls Tryz.prog 128 #[v,.int .u64 ((0:Nat):Int),.int .i64 (n:Int)] W (App B W v (l++be n 0))):=Lib.hid fun W hW=>jN B v l 0 n W hn hl (Nat.le_trans hB hW.size) (GK hv hW) (by omega)
 have HG:=Lib.hid hv
 clear hv hp hx hl hB he h1 k1
 clear hn
 go_enter Tryz.func77,Tryz.ntmps77
 go_wp2_with fail
 refine (HP.out).mono ?_
 rintro e w1 ⟨hb1,z,T,N,rfl⟩
 have zG:=Lib.hid hb1
 clear hb1
 go_wp2_with fail
 refine (HW.out _ zG.out).mono ?_
 rintro e w2 ⟨v2,rfl,hg2⟩
 have HG2:=Lib.hid ((Grew.of_below HG.out zG.out).trans hg2)
 clear hg2
 go_wp2_with fail
 go_ret
 exact ⟨_,rfl,HG2.out⟩
end
set_option maxHeartbeats 2000000
section
open Go.RowKit
open Go.Lib
def vT (x:List UInt8):Nat:=match num x with
 | some q=>(q.num%18446744073709551616).toNat
 | none=>0
def uL (k:Int) (x:List UInt8):List UInt8:=if k=5 then (if x=[] then [] else UInt8.ofNat x.length::x) else be (vA k) (vT x)
theorem yxD (x:List UInt8):vT x<18446744073709551616:=by
 unfold vT
 split
 ·omega
 ·omega
theorem ywj:vT []=0:=by unfold vT;rw [ycr]
structure Gro (B:Nat) (w:World) (v:Value) (l:List UInt8) (w':World) (v':Value):Prop where
 own:w'.ownsRow B 5 1 v' l.length (zS l)
 grown:w.grownBy w' v.ownBlock
def yiI (B:Nat) (w:World) (v:Value) (l:List UInt8) (e:Ending) (w':World):Prop:=∃ v',e=.returned v'∧Gro B w v l w' v'
theorem yvp {B:Nat} {w w':World} {v:Value} {l:List UInt8} {e:Ending} (h:App B w v l e w'):yiI B w v l e w':=by
 obtain ⟨v',h1,h2⟩:=h
 exact ⟨v',h1,h2.own,h2.grown⟩
theorem yoE {k:Int} {x:List UInt8} (h:uB k x=true) (h1:1≤k) (h4:k≤4) (hx:x≠[]):∃ q:Rat,num x=some q∧q.den=1∧-((2^(8*vA k-1):Nat):Int)≤q.num∧q.num<((2^(8*vA k-1):Nat):Int):=by
 have key:∀ B,(x.isEmpty || (yax B x).isSome)=true→∃ q:Rat,num x=some q∧q.den=1∧-((2^(B-1):Nat):Int)≤q.num∧q.num<((2^(B-1):Nat):Int):=fun B hB=>by
  have he:x.isEmpty=false:=by cases x with
   | nil=>exact absurd rfl hx
   | cons=>rfl
  rw [he,Bool.false_or] at hB
  unfold yax at hB
  cases hn:num x with
  | none=>rw [hn] at hB;cases hB
  | some q =>
   rw [hn] at hB
   simp only at hB
   by_cases hc:q.den=1∧-((2^(B-1):Nat):Int)≤q.num∧q.num<((2^(B-1):Nat):Int)
   ·exact ⟨q,rfl,hc.1,hc.2.1,hc.2.2⟩
   ·rw [if_neg hc] at hB;cases hB
 have hk:k=1∨k=2∨k=3∨k=4:=by omega
 unfold uB at h
 rcases hk with rfl|rfl|rfl|rfl
 ·exact key 8 h
 ·exact key 16 h
 ·exact key 32 h
 ·exact key 64 h
theorem yr9 (k:Int):(2^(8*vA k-1):Nat)≤9223372036854775808:=by
 have:=yd8 k
 calc 2^(8*vA k-1)≤2^63:=Nat.pow_le_pow_right (by omega) (by omega)
  _=9223372036854775808:=by decide
theorem ypt {k:Int} {x:List UInt8} (h:uB k x=true) (h1:1≤k) (h4:k≤4) (hx:x≠[]):∃ z:Int,parseIntB 64 x=.ok z∧IntKind.u64.wrap z=(vT x:Int):=by
 obtain ⟨q,hq,hd,hl,hh⟩:=yoE h h1 h4 hx
 have hp:=yr9 k
 have h64:yax 64 x=some q.num:=by
  unfold yax
  rw [hq]
  simp only
  rw [if_pos ⟨hd,by show -((2^63:Nat):Int)≤q.num;omega,by show q.num<((2^63:Nat):Int);omega⟩]
 have:=ygd (B:=64) (by decide) (by decide) hq
 rw [h64] at this
 refine ⟨q.num,this,?_⟩
 rw [IntKind.wrap_u64]
 unfold vT
 rw [hq]
 show q.num%18446744073709551616=((q.num%18446744073709551616).toNat:Int)
 omega
theorem yd9 {k:Int} {x:List UInt8} (h:uB k x=true):x.length≤82:=by
 have key:(x.isEmpty || (num x).isSome)=true→x.length≤82:=fun h=>by
  cases x with
  | nil=>simp
  | cons a r =>
   rw [show (a::r).isEmpty=false from rfl,Bool.false_or] at h
   obtain ⟨q,hq⟩:=Option.isSome_iff_exists.1 h
   exact yoQ hq
 by_cases hx:x=[]
 ·rw [hx];simp
 unfold uB at h
 have e:∀ B,(x.isEmpty || (yax B x).isSome)=true→(x.isEmpty || (num x).isSome)=true:=fun B hB=>by
  rw [Bool.or_eq_true] at hB ⊢
  refine hB.imp id (fun hB=>?_)
  unfold yax at hB
  cases hn:num x with
  | none=>rw [hn] at hB;cases hB
  | some q=>rfl
 repeat' split at h
 ·exact key (e _ h)
 ·exact key (e _ h)
 ·exact key (e _ h)
 ·exact key (e _ h)
 ·exact key h
 ·cases h
theorem ybS (B:Nat) (v:Value) (k:Int) (l x:List UInt8) (w:World) (hf:uB k x=true) (h1:1≤k) (h4:k≤4) (hl:l.length≤100000000) (hB:B≤w.heap.size) (hv:w.ownsRow B 5 1 v l.length (zS l)) (he:Env w) :
  Calls Tryz.prog 77 #[v,.string ⟨x.toArray⟩,.int .i64 (vA k:Int)] w (yiI B w v (l++uL k x)):=by
 have e5:uL k x=be (vA k) (vT x):=by unfold uL;rw [if_neg (by omega)]
 rw [e5]
 by_cases hx:x=[]
 ·subst hx
  rw [ywj]
  exact (yeK B v l [] (vA k) w (yd8 k) hl hB hv (by simp) rfl he).mono fun _ _=>yvp
 ·obtain ⟨z,hz,hw⟩:=ypt hf h1 h4 hx
  exact (yfd B v l x z (vT x) (vA k) w (yd8 k) hl hB hv (by have:=yd9 hf;omega) hz hw (yxD x)).mono fun _ _=>yvp
theorem yt9 (a b:List UInt8):zS (a++b)=zS a++zS b:=by simp [zS]
theorem yua (x:List UInt8):strCells ⟨x.toArray⟩=zS x:=by simp [strCells,zS]
theorem yde (B:Nat) (v:Value) (l x:List UInt8) (w:World) (hx:x.length≤82) (hl:l.length≤100000000) (hB:B≤w.heap.size) (hv:w.ownsRow B 5 1 v l.length (zS l)) :
  Calls Tryz.prog 76 #[v,.string ⟨x.toArray⟩] w (yiI B w v (l++(if x=[] then [] else UInt8.ofNat x.length::x))):=by
 obtain ⟨i0,hi,hz0,hz1,hz2⟩:=info_parts ya6
 have HG:=Lib.hid hv
 have HL:=Lib.hid hl
 have HBB:=Lib.hid hB
 clear hv hl hB
 by_cases he:x=[]
 ·subst he
  rw [if_pos rfl,List.append_nil]
  have HR:Hid (yiI B w v l (.returned v) w):=Lib.hid ⟨v,rfl,HG.out,ygL _ _⟩
  go_enter Tryz.func76,Tryz.ntmps76
  go_wp2_with fail
  go_ret
  exact HR.out
 rw [if_neg he]
 obtain ⟨m,HM⟩:∃ m,Hid (x.length=m):=⟨_,rfl⟩
 have hne:x.isEmpty=false:=by
  cases x with
  | nil=>exact absurd rfl he
  | cons=>rfl
 have hm82:(m:Int)≤82:=by rw [← HM.out];omega
 have hsz:(⟨x.toArray⟩:ByteArray).size=m:=by rw [← ByteArray.size_data];simpa using HM.out
 have hwr:IntKind.u8.wrap (m:Int)=((UInt8.ofNat m).toNat:Int):=by rw [UInt8.toNat_ofNat'];simp [IntKind.wrap_u8]
 have HX:=Lib.hid hx
 clear hx
 obtain ⟨c,HC⟩:∃ c,Hid (c=UInt8.ofNat m):=⟨_,rfl⟩
 have hcv:(m:Int)%256=((c.toNat:Nat):Int):=by rw [HC.out,UInt8.toNat_ofNat'];simp
 have hbl:Hid (l.length+1≤maxLen∧(l.length+1)*1≤140737488355328∧B≤w.heap.size+1):=Lib.hid (by
  have h2:=HL.out
  have h3:=HBB.out
  unfold maxLen;omega)
 have zA:Hid (l++UInt8.ofNat x.length::x=(l++[c])++x):=Lib.hid (by rw [HM.out,← HC.out];simp)
 rw [zA.out]
 go_enter Tryz.func76,Tryz.ntmps76
 go_wp2_with (at_builtin;refine wpList_append_own_at _ rfl (.tmp 8) (.tmp 12) 39 rfl B 5 i0 (.int .u8 0) 1 1 Tryz.underlying39 hi hz0 hz1 hz2 rfl (by decide) _ _ _ rfl ((HG.out).alloc _) ⟨_,0,none⟩ 1 1 [.int .u8 (c.toNat:Int)] rfl rfl (cell_one_new _ _ _) (by intro u hu;simp at hu;subst hu;rfl) hbl.out.1 hbl.out.2.1 (by simp;exact hbl.out.2.2) ?_)
 intro v5 w5 yQ yS _ ye1
 have HG5:=Lib.hid ((Grew.refl HG.out).next rfl yQ yS ye1)
 have yvM:Hid ((l++[c]).length+(⟨x.toArray⟩:ByteArray).size≤maxLen∧(l++[c]).length+(⟨x.toArray⟩:ByteArray).size≤140737488355328∧B≤w5.heap.size):=Lib.hid (by
  have h2:=HL.out
  have h3:=HBB.out
  have h4:=HG5.out.grown.size
  rw [hsz,List.length_append,List.length_singleton]
  unfold maxLen;omega)
 clear yQ yS ye1 hbl
 go_wp2_with (at_builtin;refine wpList_append_own_string _ rfl (.tmp 14) (.tmp 15) 39 9 rfl B 5 i0 Tryz.underlying39 Tryz.underlying9 hi hz0 hz1 hz2 _ _ _ rfl HG5.out.own ⟨x.toArray⟩ rfl yvM.out.1 yvM.out.2.1 yvM.out.2.2 ?_)
 intro v6 w6 ybi ycQ _
 have HG6:Hid (Gro B w v (l++[c]++x) w6 v6):=Lib.hid (by
  refine ⟨?_,?_⟩
  ·rw [yua,← yt9] at ybi
   have e:l.length+1+m=(l++[c]++x).length:=by simp only [List.length_append,HM.out,List.length_singleton]
   rw [e] at ybi
   exact ybi
  ·refine yfk HG5.out.grown ycQ (fun j hj=>?_)
   rcases HG5.out.lies with h|⟨i,h,h2⟩
   ·exact .inl h
   ·rw [h] at hj;cases hj;exact .inr h2)
 clear ybi ycQ
 go_wp2_with fail
 go_ret
 exact ⟨_,rfl,HG6.out⟩
end
end Go.Proofs.YtgepehlpjpccaaaGreatDoor
