/- Contracts. -/
import Derived.Test.YtgepehlpjpccaaaGreatDoorV06
namespace Go.Proofs.YtgepehlpjpccaaaGreatDoor
set_option maxHeartbeats 3200000
set_option maxRecDepth 100000
section
open Go.RowKit Big
theorem ydd {s:Bool} {q:Nat} (h:(s&&!(q==0))=true):0<q:=by
 rw [Bool.and_eq_true] at h
 have:=h.2
 simp at this;omega
def vO (s:Bool) (a b:Nat):Nat:=a/b+(if s&&!(a%b==0) then 1 else 0)
theorem ypY (x:Value) (s:Bool) (a b K:Nat) (w:World) (hK:K+2≤1073741824) (ha:a<yB^K) (hb:b<yB^K) (hb0:0<b) (hx:jU w x s a b):Calls Tryz.prog 90 #[x] w (uJ s (vO s a b) 1 w):=by
 obtain ⟨u1,v1,rfl,hu1,hv1,hs1⟩:=hx
 obtain ⟨p1,n1,k1,rfl⟩:=hu1.slice
 obtain ⟨p2,n2,k2,rfl⟩:=hv1.slice
 have jE:=One.start w s (.slice p1 n1 k1) (.slice p2 n2 k2)
 obtain ⟨c0,c1,c2⟩:=jE.cells
 have Hone:=yA jE
 have ybQ:Hid (∀ W,Below w.heap.size w W→Calls Tryz.prog 140 #[.slice p1 n1 k1,.slice p2 n2 k2] W (ya1 a b W)):=yA fun W h=>yc9 _ _ a b K W (by unfold yC;omega) ha hb hb0 (hu1.below h) (hv1.below h)
 have hqB:Hid (a/b<yB^K):=yA (Nat.lt_of_le_of_lt (Nat.div_le_self _ _) ha)
 have HK:=yA hK
 have hB1:Hid (1<yB):=yA (by rw [yM];omega)
 clear jE hu1 hv1 hs1 ha hb hb0 hK
 -- the end, from the quotient's value on
 have yai:Hid (∀ (W3:World) (qv:Value) (q:Nat),One w.heap.size s (.slice p1 n1 k1) (.slice p2 n2 k2) w W3→yH W3 qv q→∀ T,Calls Tryz.prog 132 #[.bool s,qv,.slice (some ⟨W3.heap.size,0,none⟩) 1 1] (W3.alloc (.cells #[.int .u64 1] T)) fun e w' =>
   ∃ p n c m,e=.returned (.agg #[.bool (s&&!(q==0)),.slice p n c,.slice (some ⟨m,0,none⟩) 1 1])∧One w.heap.size s (.slice p1 n1 k1) (.slice p2 n2 k2) w w'∧yH w' (.slice p n c) q∧yH w' (.slice (some ⟨m,0,none⟩) 1 1) 1):=yA (by
  intro W3 qv q h1 h2 T
  obtain ⟨p,n,c,rfl⟩:=h2.slice
  refine (vI s _ _ q 1 _ (h2.below (GB _ _)) (uS W3 1 T (by omega) hB1.out)).mono ?_
  rintro e w' ⟨rfl,hb⟩
  exact ⟨p,n,c,_,rfl,(h1.next (GB _ _)).next hb,(h2.below (GB _ _)).below hb,(uS W3 1 T (by omega) hB1.out).below hb⟩)
 go_enter Tryz.func90,Tryz.ntmps90
 go_wp2_with fail
 refine (ybQ.out _ Hone.out.below).mono ?_
 rintro e w2 ⟨vq,vr,rfl,hq,hr,hb2⟩
 have htw:=Hone.out.next hb2
 obtain ⟨c0,c1,c2⟩:=htw.cells
 obtain ⟨pq,nq,kq,rfl⟩:=hq.slice
 obtain ⟨pr,nr,kr,rfl⟩:=hr.slice
 have hrz:=yA (zW hr)
 have Htw:=yA htw
 have Hq:=yA hq
 clear htw hq hr
 cases s with
 | false =>
  have hfl:Hid (vO false a b=a/b):=yA (by simp [vO])
  go_wp2_with fail
  refine (yai.out _ _ (a/b) Htw.out Hq.out _).mono ?_
  rintro e w3 ⟨p,n,c,m,rfl,h1,h2,h3⟩
  obtain ⟨z0,z1,z2,l0,l1,l2,f0,f1,f2⟩:=h1.slots
  have q1:=h1.nat3 (Nat.le_refl _) h2 (false&&!((a/b)==0)) p (some ⟨m,0,none⟩) n c 1 1
  have q2:=h1.nat3 (Nat.le_refl _) h3 (false&&!((a/b)==0)) p (some ⟨m,0,none⟩) n c 1 1
  have q3:=(h1.put3 (Nat.le_refl _) (false&&!((a/b)==0)) p (some ⟨m,0,none⟩) n c 1 1).below
  have yD:Hid (∀ W,W=(((w3.setCell ⟨w.heap.size+1,0,none⟩ (.bool (false&&!((a/b)==0)))).setCell ⟨w.heap.size+1,1,none⟩ (.slice p n c)).setCell ⟨w.heap.size+1,2,none⟩ (.slice (some ⟨m,0,none⟩) 1 1))→uJ false (vO false a b) 1 w (.returned (.agg #[.bool (false&&!((a/b)==0)),.slice p n c,.slice (some ⟨m,0,none⟩) 1 1])) W):=yA (by
   rintro W rfl
   rw [hfl.out]
   exact ⟨_,rfl,⟨_,_,rfl,q1,q2,ydd⟩,q3⟩)
  clear q1 q2 q3 h1 h2 h3
  go_wp2_with fail
  refine bodyPost_ret (v:=.agg #[.bool (false&&!((a/b)==0)),.slice p n c,.slice (some ⟨m,0,none⟩) 1 1]) (by simp [results,Tryz.results90,go_sem,l0,l1,l2]) rfl ?_
  exact yD.out _ rfl
 | true =>
  by_cases h0:a%b=0
  ·have hfl:Hid (vO true a b=a/b):=yA (by simp [vO,h0])
   have hnz:((nr:Int)==0)=true:=by rw [beq_iff_eq];have:=hrz.out.2 h0;omega
   clear h0
   go_wp2_with fail
   refine (jC _ _ _ _).mono ?_
   rintro e w5 ⟨rfl,rfl⟩
   rw [hnz]
   go_wp2_with fail
   refine (yai.out _ _ (a/b) Htw.out Hq.out _).mono ?_
   rintro e w3 ⟨p,n,c,m,rfl,h1,h2,h3⟩
   obtain ⟨z0,z1,z2,l0,l1,l2,f0,f1,f2⟩:=h1.slots
   have q1:=h1.nat3 (Nat.le_refl _) h2 (true&&!((a/b)==0)) p (some ⟨m,0,none⟩) n c 1 1
   have q2:=h1.nat3 (Nat.le_refl _) h3 (true&&!((a/b)==0)) p (some ⟨m,0,none⟩) n c 1 1
   have q3:=(h1.put3 (Nat.le_refl _) (true&&!((a/b)==0)) p (some ⟨m,0,none⟩) n c 1 1).below
   have yD:Hid (∀ W,W=(((w3.setCell ⟨w.heap.size+1,0,none⟩ (.bool (true&&!((a/b)==0)))).setCell ⟨w.heap.size+1,1,none⟩ (.slice p n c)).setCell ⟨w.heap.size+1,2,none⟩ (.slice (some ⟨m,0,none⟩) 1 1))→uJ true (vO true a b) 1 w (.returned (.agg #[.bool (true&&!((a/b)==0)),.slice p n c,.slice (some ⟨m,0,none⟩) 1 1])) W):=yA (by
    rintro W rfl
    rw [hfl.out]
    exact ⟨_,rfl,⟨_,_,rfl,q1,q2,ydd⟩,q3⟩)
   clear q1 q2 q3 h1 h2 h3
   go_wp2_with fail
   refine bodyPost_ret (v:=.agg #[.bool (true&&!((a/b)==0)),.slice p n c,.slice (some ⟨m,0,none⟩) 1 1]) (by simp [results,Tryz.results90,go_sem,l0,l1,l2]) rfl ?_
   exact yD.out _ rfl
  ·have hfl:Hid (vO true a b=a/b+1):=yA (by simp [vO,h0])
   have hnz:((nr:Int)==0)=false:=by rw [beq_eq_false_iff_ne];have:=hrz.out.1;omega
   clear h0
   go_wp2_with fail
   refine (jC _ _ _ _).mono ?_
   rintro e w5 ⟨rfl,rfl⟩
   rw [hnz]
   go_wp2_with fail
   have ycl:∀ T,Hid (Calls Tryz.prog 138 #[.slice pq nq kq,.slice (some ⟨w2.heap.size,0,none⟩) 1 1] (w2.alloc (.cells #[.int .u64 1] T)) (zB (a/b+1) (w2.alloc (.cells #[.int .u64 1] T)))):=fun T=>yA (ybq _ _ _ 1 (K+1) _ (by have:=HK.out;unfold yC;omega)
    (by have h1:=hqB.out;have h2:yB^K≤yB^(K+1):=Nat.pow_le_pow_right yR (by omega);omega)
    (by have h1:=hB1.out;have h2:yB^1≤yB^(K+1):=Nat.pow_le_pow_right yR (by omega);rw [Nat.pow_one] at h2;omega)
    (Hq.out.below (GB _ _)) (uS w2 1 T (by omega) hB1.out))
   refine (ycl _).out.mono ?_
   rintro e w6 ⟨v6,rfl,hv6,hb6⟩
   have yv9:=(Htw.out.next (GB _ _)).next hb6
   obtain ⟨c0,c1,c2⟩:=yv9.cells
   have Htw6:=yA yv9
   have Hv6:=yA hv6
   clear yv9 hv6 hb6 ycl
   go_wp2_with fail
   refine (yai.out _ _ (a/b+1) Htw6.out Hv6.out _).mono ?_
   rintro e w3 ⟨p,n,c,m,rfl,h1,h2,h3⟩
   obtain ⟨z0,z1,z2,l0,l1,l2,f0,f1,f2⟩:=h1.slots
   have q1:=h1.nat3 (Nat.le_refl _) h2 (true&&!((a/b+1)==0)) p (some ⟨m,0,none⟩) n c 1 1
   have q2:=h1.nat3 (Nat.le_refl _) h3 (true&&!((a/b+1)==0)) p (some ⟨m,0,none⟩) n c 1 1
   have q3:=(h1.put3 (Nat.le_refl _) (true&&!((a/b+1)==0)) p (some ⟨m,0,none⟩) n c 1 1).below
   have yD:Hid (∀ W,W=(((w3.setCell ⟨w.heap.size+1,0,none⟩ (.bool (true&&!((a/b+1)==0)))).setCell ⟨w.heap.size+1,1,none⟩ (.slice p n c)).setCell ⟨w.heap.size+1,2,none⟩ (.slice (some ⟨m,0,none⟩) 1 1))→uJ true (vO true a b) 1 w (.returned (.agg #[.bool (true&&!((a/b+1)==0)),.slice p n c,.slice (some ⟨m,0,none⟩) 1 1])) W):=yA (by
    rintro W rfl
    rw [hfl.out]
    exact ⟨_,rfl,⟨_,_,rfl,q1,q2,ydd⟩,q3⟩)
   clear q1 q2 q3 h1 h2 h3
   go_wp2_with fail
   refine bodyPost_ret (v:=.agg #[.bool (true&&!((a/b+1)==0)),.slice p n c,.slice (some ⟨m,0,none⟩) 1 1]) (by simp [results,Tryz.results90,go_sem,l0,l1,l2]) rfl ?_
   exact yD.out _ rfl
end
set_option maxHeartbeats 1600000
section
open Go.RowKit Go.Lib Big
def ymU (o:Option (Bool × Nat × Nat)) (w:World) (e:Ending) (w':World):Prop :=
 Below w.heap.size w w'∧∃ b p n c q m d,e=.returned (.tuple #[.agg #[.bool b,.slice p n c,.slice q m d],.bool o.isSome])∧∀ s x y,o=some (s,x,y)→jU w' (.agg #[.bool b,.slice p n c,.slice q m d]) s x y
theorem yfV (s:ByteArray) (w:World) (htab:Tab w):Calls Tryz.prog 130 #[.string s] w (ymU (uD s.data.toList) w):=by
 refine (yij s w htab).mono fun e w' h=>⟨h.1,?_⟩
 have h2:=h.2
 cases hq:uD s.data.toList with
 | none=>rw [hq] at h2;exact ⟨_,_,_,_,_,_,_,h2,fun _ _ _ h=>by cases h⟩
 | some t =>
  rw [hq] at h2
  obtain ⟨x,rfl,u,v,rfl,hu,hv,hs⟩:=h2
  obtain ⟨p2,n2,k2,rfl⟩:=hu.slice
  obtain ⟨p3,n3,k3,rfl⟩:=hv.slice
  refine ⟨_,_,_,_,_,_,_,rfl,?_⟩
  rintro _ _ _ h
  cases h
  exact ⟨_,_,rfl,hu,hv,hs⟩
theorem yey (x y:ByteArray) (g:Addr) (w:World) (hx:Hid (Calls Tryz.prog 130 #[.string x] w (ymU none w))):Calls Tryz.prog 129 #[.string x,.string y,.pointer (some g)] w fun e w'=>e=.returned (.string ⟨#[]⟩)∧Below w.heap.size w w':=by
 go_enter Tryz.func129,Tryz.ntmps129
 go_wp2_with fail
 refine hx.out.mono ?_
 rintro e w2 ⟨hb2,b,p,n,c,q,m,d,rfl,-⟩
 have hbw:=yA (hb2.trans ((GB w2 (.cells #[.bool b,.slice p n c,.slice q m d] 98)).mono hb2.size))
 clear hb2
 go_wp2_with fail
 go_ret
 exact ⟨rfl,hbw.out⟩
end
section
open Go.Lib Big
/-! Digits -/
/-! Compare -/
def ybA (q:Rat):Int:=if q<0 then -1 else if q=0 then 0 else 1
theorem yd3 (q:Rat):(q<0∧ybA q=-1)∨(q=0∧ybA q=0)∨(0<q∧ybA q=1):=by
 unfold ybA
 by_cases h:q<0
 ·exact .inl ⟨h,by rw [if_pos h]⟩
 ·by_cases h2:q=0
  ·exact .inr (.inl ⟨h2,by rw [if_neg h,if_pos h2]⟩)
  ·exact .inr (.inr ⟨by grind,by rw [if_neg h,if_neg h2]⟩)
end
set_option maxHeartbeats 3200000
section
open Go.Lib Big
def yqo (x:List UInt8):Bool:=match num x with
 | some q=>decide (0<q)
 | none=>false
/-! Convert -/
end
section
open Go.RowKit Go.Lib Big
theorem ygP {w:World} {x:Value} {s:Bool} {a b:Nat} (h:jU w x s a b):s=true→0<a:=by
 obtain ⟨u,v,-,-,-,h⟩:=h;exact h
def vU (q:Rat) (K:Nat) (w:World) (e:Ending) (w':World):Prop:=∃ x,e=.returned x∧zO w' x q K∧Below w.heap.size w w'
theorem ywv (x y:Value) (p q:Rat) (K:Nat) (w:World) (hK:2*K+1≤1073741824) (hx:zO w x p K) (hy:zO w y q K):Calls Tryz.prog 89 #[x,y] w (vU (p+q) (2*K+1) w):=by
 obtain ⟨s,a,b,h1,rfl,h3,h4,h5⟩:=hx
 obtain ⟨t,c,d,k1,rfl,k3,k4,k5⟩:=hy
 refine (yo0 x y s t a b c d K w hK h4 h5 k4 k5 h3 k3 h1 k1).mono ?_
 rintro e w' ⟨z,r,n,m,rfl,hz,hb,hm,hv,hn,hm2⟩
 exact ⟨z,rfl,⟨r,n,m,hz,hv,hm,hn,hm2⟩,hb⟩
theorem yfW {a b K:Nat} (ha:a<yB^K) (hb:b<yB^K):a*b<yB^(2*K):=by
 rw [yfU]
 exact Nat.mul_lt_mul'' ha hb
theorem yww (x y:Value) (p q:Rat) (K:Nat) (w:World) (hK:K≤1073741824) (hx:zO w x p K) (hy:zO w y q K):Calls Tryz.prog 91 #[x,y] w (vU (p*q) (2*K) w):=by
 obtain ⟨s,a,b,h1,rfl,h3,h4,h5⟩:=hx
 obtain ⟨t,c,d,k1,rfl,k3,k4,k5⟩:=hy
 refine (yuO x y s t a b c d K w hK h4 h5 k4 k5 h1 k1).mono ?_
 rintro e w' ⟨z,rfl,hz,hb⟩
 exact ⟨z,rfl,⟨_,_,_,hz,by rw [jQ,ysK h3 k3],Nat.mul_pos h3 k3,yfW h4 k4,yfW h5 k5⟩,hb⟩
theorem ydT {s:Bool} {a b:Nat} (hb:0<b):yL s a b=0↔a=0:=by
 have h1:=vW hb
 constructor
 ·intro h
  unfold yL at h
  apply Nat.eq_zero_of_not_pos
  intro ha
  have h2:=vW ha
  cases s
  ·simp only [Bool.false_eq_true,if_false] at h;grind
  ·simp only [if_true] at h;grind
 ·rintro rfl
  unfold yL
  cases s<;>simp<;>grind
theorem yms (x y:Value) (p q:Rat) (K:Nat) (w:World) (hK:K≤1073741824) (hq:q≠0) (hx:zO w x p K) (hy:zO w y q K):Calls Tryz.prog 79 #[x,y] w (vU (p/q) (2*K) w):=by
 obtain ⟨s,a,b,h1,rfl,h3,h4,h5⟩:=hx
 obtain ⟨t,c,d,k1,rfl,k3,k4,k5⟩:=hy
 have hc:0<c:=by
  apply Nat.pos_of_ne_zero;intro h0;exact hq ((ydT k3).2 h0)
 refine (yuN x y s t a b c d K w hK h4 h5 k4 k5 h1 k1).mono ?_
 rintro e w' ⟨z,rfl,hz,hb⟩
 exact ⟨z,rfl,⟨_,_,_,hz,by rw [jQ,ysL h3 k3 hc],Nat.mul_pos h3 hc,yfW h4 k5,yfW h5 k4⟩,hb⟩
theorem yk7 (x:Value) (q:Rat) (K:Nat) (w:World) (hK:K≤1000000) (hx:zO w x q K) (htab:Tab w):Calls Tryz.prog 131 #[x] w fun e w'=>e=.returned (.string ⟨(GT q).toArray⟩)∧Below w.heap.size w w':=by
 obtain ⟨s,a,b,h1,rfl,h3,h4,h5⟩:=hx
 rw [← ydc h3 (ygP h1)]
 exact yii x s a b K w hK h4 h5 h3 h1 htab
theorem ysO {l:List UInt8} {s:Bool} {n d:Nat} (h:uD l=some (s,n,d)):n<yB^20∧d<yB^20∧0<d:=by
 unfold uD at h
 split at h
 ·cases h
 ·rename_i hl
  split at h
  ·rename_i s0 n0 d0 hr
   split at h
   ·cases h;exact yk3 hr (by omega)
   ·cases h
  ·cases h
def GF (o:Option Rat) (w:World) (e:Ending) (w':World):Prop :=
 Below w.heap.size w w'∧∃ b p n c q m d,e=.returned (.tuple #[.agg #[.bool b,.slice p n c,.slice q m d],.bool o.isSome])∧∀ r,o=some r→zO w' (.agg #[.bool b,.slice p n c,.slice q m d]) r 20
theorem yb3 (s:ByteArray) (w:World) (htab:Tab w):Calls Tryz.prog 130 #[.string s] w (GF (num s.data.toList) w):=by
 refine (yfV s w htab).mono fun e w' h=>⟨h.1,?_⟩
 obtain ⟨-,b,p,n,c,q,m,d,he,hr⟩:=h
 unfold num
 cases hq:uD s.data.toList with
 | none=>rw [hq] at he;exact ⟨b,p,n,c,q,m,d,he,fun r h=>by cases h⟩
 | some t =>
  obtain ⟨sg,x,y⟩:=t
  rw [hq] at he hr
  refine ⟨b,p,n,c,q,m,d,he,?_⟩
  rintro r h
  cases h
  obtain ⟨h1,h2,h3⟩:=ysO hq
  exact ⟨sg,x,y,hr _ _ _ rfl,rfl,h3,h1,h2⟩
def yaz (l:List UInt8) (w:World) (e:Ending) (w':World):Prop:=e=.returned (.string ⟨l.toArray⟩)∧Below w.heap.size w w'
theorem yo2 (x:Value) (q:Rat) (K:Nat) (w:World) (hx:zO w x q K):Calls Tryz.prog 135 #[x] w fun e w'=>e=.returned (.int .i64 (ybA q))∧Below w.heap.size w w':=by
 obtain ⟨s,a,b,h1,rfl,h3,h4,h5⟩:=hx
 have e:sgn s a=ybA (yL s a b):=by
  obtain ⟨g1,g2,g3⟩:=ycY h3 (ygP h1)
  have hz:=ydT (s:=s) (a:=a) h3
  unfold sgn ybA
  have hn:(yL s a b<0)↔(yL s a b).num<0:=by have:=Rat.num_nonneg (q:=yL s a b);grind
  cases s
  ·rw [decide_eq_false_iff_not] at g1
   rw [if_neg (by simp),if_neg (fun h=>g1 (hn.1 h))]
   by_cases ha:a=0
   ·rw [if_pos ha,if_pos (hz.2 ha)]
   ·rw [if_neg ha,if_neg (fun h=>ha (hz.1 h))]
  ·rw [decide_eq_true_iff] at g1
   rw [if_pos rfl,if_pos (hn.2 g1)]
 rw [← e]
 exact ysN x s a b w h1
/-! isPositive -/
theorem yuP (x:ByteArray) (w:World) (hx:Hid (Calls Tryz.prog 130 #[.string x] w (GF none w))):Calls Tryz.prog 86 #[.string x] w fun e w'=>e=.returned (.bool false)∧Below w.heap.size w w':=by
 go_enter Tryz.func86,Tryz.ntmps86
 go_wp2_with fail
 refine hx.out.mono ?_
 rintro e w2 ⟨hb2,b,p,n,c,q,m,d,rfl,-⟩
 have hbw:=yA (hb2.trans ((GB w2 (.cells #[.bool b,.slice p n c,.slice q m d] 98)).mono hb2.size))
 clear hb2
 go_wp2_with fail
 go_ret
 exact ⟨rfl,hbw.out⟩
theorem ywx (x:ByteArray) (r:Rat) (w:World) (hx:Hid (Calls Tryz.prog 130 #[.string x] w (GF (some r) w))):Calls Tryz.prog 86 #[.string x] w fun e w'=>e=.returned (.bool (decide ((0:Int)<ybA r)))∧Below w.heap.size w w':=by
 have hsg:Hid (∀ W z,zO W z r 20→Calls Tryz.prog 135 #[z] W fun e w'=>e=.returned (.int .i64 (ybA r))∧Below W.heap.size W w'):=yA fun W z hz=>yo2 z r 20 W hz
 generalize ybA r=c at hsg ⊢
 go_enter Tryz.func86,Tryz.ntmps86
 go_wp2_with fail
 refine hx.out.mono ?_
 rintro e w2 ⟨hb2,b1,p1,n1,c1,q1,m1,d1,rfl,hr1⟩
 have hbw:=yA (hb2.trans ((GB w2 (.cells #[.bool b1,.slice p1 n1 c1,.slice q1 m1 d1] 98)).mono hb2.size))
 have hR1:=(hr1 _ rfl).below (GB w2 (.cells #[.bool b1,.slice p1 n1 c1,.slice q1 m1 d1] 98))
 have ht:=yA (hsg.out _ _ hR1)
 clear hb2 hr1 hR1
 go_wp2_with fail
 refine ht.out.mono ?_
 rintro e w6 ⟨rfl,hb6⟩
 have ydK:=yA (hbw.out.trans (hb6.mono hbw.out.size))
 clear hb6
 go_wp2_with fail
 go_ret
 exact ⟨rfl,ydK.out⟩
theorem yj0 (x:ByteArray) (w:World) (htab:Tab w):Calls Tryz.prog 86 #[.string x] w fun e w'=>e=.returned (.bool (yqo x.data.toList))∧Below w.heap.size w w':=by
 have hx:=yb3 x w htab
 unfold yqo
 cases hnx:num x.data.toList with
 | none=>rw [hnx] at hx;exact yuP x w (yA hx)
 | some r =>
  rw [hnx] at hx
  have e:decide ((0:Int)<ybA r)=decide (0<r):=by
   rcases yd3 r with ⟨h1,h2⟩|⟨h1,h2⟩|⟨h1,h2⟩
   ·rw [h2,decide_eq_false (by omega),decide_eq_false (by grind)]
   ·rw [h2,decide_eq_false (by omega),decide_eq_false (by grind)]
   ·rw [h2,decide_eq_true (by omega),decide_eq_true h1]
  simp only
  rw [← e]
  exact ywx x r w (yA hx)
theorem ywy (w:World):Calls Tryz.prog 87 #[.int .i64 1] w (vU 1 1 w):=by
 refine (yo1 1 w (by omega)).mono ?_
 rintro e w' ⟨z,rfl,hz,hb⟩
 have h1:1<yB^1:=by rw [Nat.pow_one,yM];omega
 refine ⟨z,rfl,⟨_,_,_,hz,?_,by omega,h1,h1⟩,hb⟩
 rw [jQ];unfold yL;simp;grind
end
section
open Go.RowKit Big
open Go.Lib
def yiJ (q:Rat):Rat:=yL (decide (q.num<0)) (vO (decide (q.num<0)) q.num.natAbs q.den) 1
def jF:Rat:=((1:Int):Rat)/((2:Int):Rat)
def yaE (a b:Rat):Rat:=yiJ (a/b+jF)*b
theorem ygv (q:Rat):ybg q=ybA q:=by
 unfold ybg ybA
 have h1:q.num<0↔q<0:=by rw [← Rat.not_le,← Rat.num_nonneg];omega
 have h2:q.num=0↔q=0:=Rat.num_eq_zero
 simp only [h1,h2]
end
end Go.Proofs.YtgepehlpjpccaaaGreatDoor
