/- Contracts. -/
import Derived.Test.YtgepehlpjpccaaaGreatDoorV05
set_option maxHeartbeats 6400000
set_option maxRecDepth 100000
namespace Go.Proofs.YtgepehlpjpccaaaGreatDoor
section
open Go.RowKit Big
def ybV (s:Bool) (a b:Nat) (t:Bool) (c d K:Nat) (w:World) (e:Ending) (w':World):Prop :=
 ∃ x r n m,e=.returned x∧vE w' x r n m∧Be w w'∧0<m∧yM r n m=yM s a b+yM t c d∧n<yB^(2*K+1)∧m<yB^(2*K+1)
structure Common (s:Bool) (a b:Nat) (t:Bool) (c d K A B M:Nat):Prop where
 pos:0<M
 eqA:yM s A M=yM s a b
 eqB:yM t B M=yM t c d
 ltA:A<yB^(2*K)
 ltB:B<yB^(2*K)
 ltM0:M<yB^(2*K)
theorem yui (K:Nat):yB^(2*K+1)=yB^(2*K)*yB:=Nat.pow_succ _ _
theorem Common.ltM {s:Bool} {a b:Nat} {t:Bool} {c d K A B M:Nat} (h:Common s a b t c d K A B M):M<yB^(2*K+1):=by
 have:=h.ltM0
 have h2:yB^(2*K)≤yB^(2*K+1):=Nat.pow_le_pow_right yU (by omega)
 omega
theorem Common.ltP {s:Bool} {a b:Nat} {t:Bool} {c d K A B M:Nat} (h:Common s a b t c d K A B M):A+B<yB^(2*K+1):=by
 have h1:=h.ltA
 have h2:=h.ltB
 have h3:yB^(2*K)*2≤yB^(2*K)*yB:=Nat.mul_le_mul_left _ (by rw [yN];omega)
 rw [yui];omega
theorem Common.ltAm {s:Bool} {a b:Nat} {t:Bool} {c d K A B M:Nat} (h:Common s a b t c d K A B M):A-B<yB^(2*K+1):=by have:=h.ltP;omega
theorem Common.ltBm {s:Bool} {a b:Nat} {t:Bool} {c d K A B M:Nat} (h:Common s a b t c d K A B M):B-A<yB^(2*K+1):=by have:=h.ltP;omega
theorem Common.sumP {s:Bool} {a b:Nat} {t:Bool} {c d K A B M:Nat} (h:Common s a b t c d K A B M) (hst:s=t):yM s (A+B) M=yM s a b+yM t c d:=by
 subst hst;rw [yfu,h.eqA,h.eqB]
theorem Common.sumA {s:Bool} {a b:Nat} {t:Bool} {c d K A B M:Nat} (h:Common s a b t c d K A B M) (hst:s≠t) (hlt:¬ A<B):yM s (A-B) M=yM s a b+yM t c d:=by
 rw [ya0 hst (by omega),h.eqA,h.eqB]
theorem Common.sumB {s:Bool} {a b:Nat} {t:Bool} {c d K A B M:Nat} (h:Common s a b t c d K A B M) (hst:s≠t) (hlt:A<B):yM t (B-A) M=yM s a b+yM t c d:=by
 rw [ya0 (Ne.symm hst) (by omega),h.eqA,h.eqB,Rat.add_comm]
theorem Common.same {s:Bool} {a b:Nat} {t:Bool} {c K:Nat} (ha:a<yB^K) (hb:b<yB^K) (hc:c<yB^K) (hb0:0<b):Common s a b t c b K a c b:=by
 have h2:yB^K≤yB^(2*K):=Nat.pow_le_pow_right yU (by omega)
 exact ⟨hb0,rfl,rfl,by omega,by omega,by omega⟩
theorem ygq (K:Nat):yB^(2*K)=yB^K*yB^K:=by rw [Nat.two_mul,Nat.pow_add]
theorem Common.made {s:Bool} {a b:Nat} {t:Bool} {c d K:Nat} (ha:a<yB^K) (hb:b<yB^K) (hc:c<yB^K) (hd:d<yB^K) (hb0:0<b) (hd0:0<d):Common s a b t c d K (a*d) (c*b) (b*d):=by
 refine ⟨Nat.mul_pos hb0 hd0,uS hb0 hd0,?_,?_,?_,?_⟩
 ·rw [Nat.mul_comm b d];exact uS hd0 hb0
 ·rw [ygq];exact Nat.mul_lt_mul'' ha hd
 ·rw [ygq];exact Nat.mul_lt_mul'' hc hb
 ·rw [ygq];exact Nat.mul_lt_mul'' hb hd
theorem ypN (x y:Value) (s t:Bool) (a b c d K:Nat) (w:World) (hK:2*K+1≤1073741824) (ha:a<yB^K) (hb:b<yB^K) (hc:c<yB^K) (hd:d<yB^K) (hb0:0<b) (hd0:0<d) (hx:vE w x s a b) (hy:vE w y t c d) :
  Calls Tryz.prog 89 #[x,y] w (ybV s a b t c d K w):=by
 obtain ⟨u1,v1,rfl,hu1,hv1,hs1⟩:=hx
 obtain ⟨u2,v2,rfl,hu2,hv2,hs2⟩:=hy
 obtain ⟨p1,n1,k1,rfl⟩:=hu1.slice
 obtain ⟨p2,n2,k2,rfl⟩:=hv1.slice
 obtain ⟨p3,n3,k3,rfl⟩:=hu2.slice
 obtain ⟨p4,n4,k4,rfl⟩:=hv2.slice
 have jC:=Two.start w s (.slice p1 n1 k1) (.slice p2 n2 k2) t (.slice p3 n3 k3) (.slice p4 n4 k4)
 obtain ⟨w0,hw0⟩:∃ w0,w0=(((w.alloc (.cells #[.bool s,(.slice p1 n1 k1),(.slice p2 n2 k2)] 98)).alloc (.cells #[.bool t,(.slice p3 n3 k3),(.slice p4 n4 k4)] 98)).alloc (.cells #[.bool false,.slice none 0 0,.slice none 0 0] 98)):=⟨_,rfl⟩
 rw [← hw0] at jC
 have Htwo:=yA jC
 obtain ⟨-,c0,c1,c2,c3,c4,c5⟩:=jC.all
 have HU1:=yA hu1
 have HV1:=yA hv1
 have HU2:=yA hu2
 have HV2:=yA hv2
 have Hw0:=yA hw0
 have htB:=yA Htwo.out.below
 clear hu1 hv1 hu2 hv2 hs1 hs2 jC hw0
 go_in
 go_wp2_with fail
 rw [← Hw0.out]
 go_quiet (fail)
 go_wp2_with fail
 refine (ybd (.slice p2 n2 k2) (.slice p4 n4 k4) b d K _ (by unfold yF;omega) hb hd ((HV1.out.below htB.out).below (yI _ _ _)) ((HV2.out.below htB.out).below (yI _ _ _))).mono ?_
 rintro e w1 ⟨rfl,k,rfl⟩
 obtain ⟨W,hW⟩:∃ W,W=(w0.drewN nq).drewN k:=⟨_,rfl⟩
 have htw:Hid (Two w.heap.size s (.slice p1 n1 k1) (.slice p2 n2 k2) t (.slice p3 n3 k3) (.slice p4 n4 k4) w W):=yA (by rw [hW];exact (Htwo.out.next (yI _ _ _)).next (yI _ _ _))
 rw [← hW]
 have HUW:=yA (show yH W (.slice p1 n1 k1) a by rw [hW];exact ((HU1.out.below htB.out).drewN _).drewN _)
 have HVW:=yA (show yH W (.slice p2 n2 k2) b by rw [hW];exact ((HV1.out.below htB.out).drewN _).drewN _)
 have HUW2:=yA (show yH W (.slice p3 n3 k3) c by rw [hW];exact ((HU2.out.below htB.out).drewN _).drewN _)
 have HVW2:=yA (show yH W (.slice p4 n4 k4) d by rw [hW];exact ((HV2.out.below htB.out).drewN _).drewN _)
 clear hW c0 c1 c2 c3 c4 c5
 obtain ⟨-,c0,c1,c2,c3,c4,c5⟩:=htw.out.all
 by_cases hbd:b=d
 ·subst hbd
  have hz:jG b b=0:=by simp [jG]
  rw [hz]
  have hF:Hid (Common s a b t c b K a c b):=yA (Common.same ha hb hc hb0)
  obtain ⟨A,hAq⟩:∃ A,A=a:=⟨_,rfl⟩
  obtain ⟨B,hBq⟩:∃ B,B=c:=⟨_,rfl⟩
  obtain ⟨M,hMq⟩:∃ M,M=b:=⟨_,rfl⟩
  have hA:Hid (yH W (.slice p1 n1 k1) A):=yA (by rw [hAq];exact HUW.out)
  have hB:Hid (yH W (.slice p3 n3 k3) B):=yA (by rw [hBq];exact HUW2.out)
  have hM:Hid (yH W (.slice p2 n2 k2) M):=yA (by rw [hMq];exact HVW.out)
  have hF:Hid (Common s a b t c b K A B M):=yA (by rw [hAq,hBq,hMq];exact hF.out)
  clear hAq hBq hMq hz
  by_cases hst:s=t
  ·subst hst
   have hst':(s==s)=true:=by simp
   go_wp2_with fail
   have hop:Hid (∀ W',Be W W'→Calls Tryz.prog 138 #[.slice p1 n1 k1,.slice p3 n3 k3] W' (zJ (A+B) W')):=yA fun W' h=>ydj _ _ _ _ (2*K) W' (by unfold yF;omega) hF.out.ltA hF.out.ltB (hA.out.below h) (hB.out.below h)
   obtain ⟨-,c0,c1,c2,c3,c4,c5⟩:=htw.out.all
   go_region_held3 (fun w'=>Two w.heap.size s (.slice p1 n1 k1) (.slice p2 n2 k2) s (.slice p3 n3 k3) (.slice p4 n4 k4) w w'∧w'.cell? ⟨w.heap.size,0,none⟩=some (.bool s)∧w'.cell? ⟨w.heap.size,1,none⟩=some (.slice p1 n1 k1)∧w'.cell? ⟨w.heap.size,2,none⟩=some (.slice p2 n2 k2)∧w'.cell? ⟨w.heap.size+1,0,none⟩=some (.bool s)∧w'.cell? ⟨w.heap.size+1,1,none⟩=some (.slice p3 n3 k3)∧w'.cell? ⟨w.heap.size+1,2,none⟩=some (.slice p4 n4 k4))
    (first|exact Two.all (Two.drew htw.out)|exact Two.all htw.out|(go_split_ands;exact Two.all (Two.next (by assumption) hb1))|(go_split_ands;exact Two.all (Two.next (by assumption) hb3))|(go_split_ands;exact Two.all (Two.put3 (by assumption) nl _ _ _ _ _ _ _))|go_keep)
    (first|(go_at_call 138;go_split_ands;refine (hop.out _ (Below.drew bR)).mono ?_;rintro e w1 ⟨vt,rfl,hvt,hb1⟩;obtain ⟨pt,nt,ct,rfl⟩:=hvt.slice)|(go_at_call 132;go_split_ands;refine (vW _ _ _ _ _ _ hvt ((hM.out.below (Below.drew bR)).below hb1)).mono ?_;rintro e w3 ⟨rfl,hb3⟩;have htw:=Two.next (by assumption) hb3;obtain ⟨z0,z1,z2,l0,l1,l2,f0,f1,f2⟩:=Two.slots htw))
   go_wp2_with fail
   have q1:=htw.nat3 nl (hvt.below hb3) (s&&!((A+B)==0)) pt p2 nt ct n2 k2
   have q2:=htw.nat3 nl (((hM.out.below (Below.drew bR)).below hb1).below hb3) (s&&!((A+B)==0)) pt p2 nt ct n2 k2
   have q3:=(htw.put3 nl (s&&!((A+B)==0)) pt p2 nt ct n2 k2).below
   have yD:Hid (∀ W',W'=(((w3.setCell ⟨w.heap.size+1+1,0,none⟩ (.bool (s&&!((A+B)==0)))).setCell ⟨w.heap.size+1+1,1,none⟩ (.slice pt nt ct)).setCell ⟨w.heap.size+1+1,2,none⟩ (.slice p2 n2 k2))→ybV s a b s c b K w (.returned (.agg #[.bool (s&&!((A+B)==0)),.slice pt nt ct,.slice p2 n2 k2])) W'):=yA (by
    rintro W' rfl
    refine ⟨_,_,_,_,rfl,⟨_,_,rfl,q1,q2,by intro h;simp at h;omega⟩,q3,hF.out.pos,?_,hF.out.ltP,hF.out.ltM⟩
    rw [jX]
    exact hF.out.sumP rfl)
   refine bodyPost_ret (v:=.agg #[.bool (s&&!((A+B)==0)),.slice pt nt ct,.slice p2 n2 k2]) (by simp [results,Tryz.results89,go_sem,l0,l1,l2]) rfl ?_
   exact yD.out _ rfl
  ·have hst':(s==t)=false:=by simpa using hst
   have hcm:Hid (Calls Tryz.prog 137 #[.slice p1 n1 k1,.slice p3 n3 k3] W (yar A B W)):=yA (ybd _ _ _ _ (2*K) _ (by unfold yF;omega) hF.out.ltA hF.out.ltB hA.out hB.out)
   go_wp2_with fail
   refine hcm.out.mono ?_
   rintro e w5 ⟨rfl,k5,rfl⟩
   have yhY:Hid (Two w.heap.size s (.slice p1 n1 k1) (.slice p2 n2 k2) t (.slice p3 n3 k3) (.slice p4 n4 k4) w (W.drewN k5)):=yA (htw.out.next (yI _ _ _))
   have hMd:Hid (yH (W.drewN k5) (.slice p2 n2 k2) M):=yA (hM.out.drewN _)
   by_cases hlt:A<B
   ·have hz:jG A B=-1:=yjJ hlt
    rw [hz]
    have hlt':=yA hlt
    clear hlt hz
    clear c0 c1 c2 c3 c4 c5
    have hM0:=hM
    have yxT:=htw
    clear hM htw
    have hM:=hMd
    have htw:=yhY
    clear hMd yhY
    obtain ⟨-,c0,c1,c2,c3,c4,c5⟩:=htw.out.all
    go_wp2_with fail
    have hop:Hid (∀ W',Below (W.drewN k5).heap.size (W.drewN k5) W'→Calls Tryz.prog 139 #[.slice p3 n3 k3,.slice p1 n1 k1] W' (zJ (B-A) W')):=yA fun W' h=>ydI _ _ _ _ (2*K) W' (by unfold yF;omega) hF.out.ltB (by have:=hlt'.out;omega) ((hB.out.drewN k5).below h) ((hA.out.drewN k5).below h)
    obtain ⟨-,c0,c1,c2,c3,c4,c5⟩:=htw.out.all
    go_region_held3 (fun w'=>Two w.heap.size s (.slice p1 n1 k1) (.slice p2 n2 k2) t (.slice p3 n3 k3) (.slice p4 n4 k4) w w'∧w'.cell? ⟨w.heap.size,0,none⟩=some (.bool s)∧w'.cell? ⟨w.heap.size,1,none⟩=some (.slice p1 n1 k1)∧w'.cell? ⟨w.heap.size,2,none⟩=some (.slice p2 n2 k2)∧w'.cell? ⟨w.heap.size+1,0,none⟩=some (.bool t)∧w'.cell? ⟨w.heap.size+1,1,none⟩=some (.slice p3 n3 k3)∧w'.cell? ⟨w.heap.size+1,2,none⟩=some (.slice p4 n4 k4))
     (first|exact Two.all (Two.drew htw.out)|exact Two.all htw.out|(go_split_ands;exact Two.all (Two.next (by assumption) hb1))|(go_split_ands;exact Two.all (Two.next (by assumption) hb3))|(go_split_ands;exact Two.all (Two.put3 (by assumption) nl _ _ _ _ _ _ _))|go_keep)
     (first|(go_at_call 139;go_split_ands;refine (hop.out _ (Below.drew bR)).mono ?_;rintro e w1 ⟨vt,rfl,hvt,hb1⟩;obtain ⟨pt,nt,ct,rfl⟩:=hvt.slice)|(go_at_call 132;go_split_ands;refine (vW _ _ _ _ _ _ hvt ((hM.out.below (Below.drew bR)).below hb1)).mono ?_;rintro e w3 ⟨rfl,hb3⟩;have htw:=Two.next (by assumption) hb3;obtain ⟨z0,z1,z2,l0,l1,l2,f0,f1,f2⟩:=Two.slots htw))
    go_wp2_with fail
    have q1:=htw.nat3 nl (hvt.below hb3) (t&&!((B-A)==0)) pt p2 nt ct n2 k2
    have q2:=htw.nat3 nl (((hM.out.below (Below.drew bR)).below hb1).below hb3) (t&&!((B-A)==0)) pt p2 nt ct n2 k2
    have q3:=(htw.put3 nl (t&&!((B-A)==0)) pt p2 nt ct n2 k2).below
    have yD:Hid (∀ W',W'=(((w3.setCell ⟨w.heap.size+1+1,0,none⟩ (.bool (t&&!((B-A)==0)))).setCell ⟨w.heap.size+1+1,1,none⟩ (.slice pt nt ct)).setCell ⟨w.heap.size+1+1,2,none⟩ (.slice p2 n2 k2))→ybV s a b t c b K w (.returned (.agg #[.bool (t&&!((B-A)==0)),.slice pt nt ct,.slice p2 n2 k2])) W'):=yA (by
     rintro W' rfl
     refine ⟨_,_,_,_,rfl,⟨_,_,rfl,q1,q2,by intro h;simp at h;omega⟩,q3,hF.out.pos,?_,hF.out.ltBm,hF.out.ltM⟩
     rw [jX]
     exact hF.out.sumB hst hlt'.out)
    refine bodyPost_ret (v:=.agg #[.bool (t&&!((B-A)==0)),.slice pt nt ct,.slice p2 n2 k2]) (by simp [results,Tryz.results89,go_sem,l0,l1,l2]) rfl ?_
    exact yD.out _ rfl
   ·obtain ⟨z,hz,hz0⟩:∃ z:Int,jG A B=z∧(0:Int)≤z:=⟨_,rfl,by rcases ygm hlt with h|h<;>rw [h]<;>omega⟩
    rw [hz]
    have hlt':=yA hlt
    clear hlt hz
    clear c0 c1 c2 c3 c4 c5
    have hM0:=hM
    have yxT:=htw
    clear hM htw
    have hM:=hMd
    have htw:=yhY
    clear hMd yhY
    obtain ⟨-,c0,c1,c2,c3,c4,c5⟩:=htw.out.all
    go_wp2_with fail
    have hop:Hid (∀ W',Below (W.drewN k5).heap.size (W.drewN k5) W'→Calls Tryz.prog 139 #[.slice p1 n1 k1,.slice p3 n3 k3] W' (zJ (A-B) W')):=yA fun W' h=>ydI _ _ _ _ (2*K) W' (by unfold yF;omega) hF.out.ltA (by have:=hlt'.out;omega) ((hA.out.drewN k5).below h) ((hB.out.drewN k5).below h)
    obtain ⟨-,c0,c1,c2,c3,c4,c5⟩:=htw.out.all
    go_region_held3 (fun w'=>Two w.heap.size s (.slice p1 n1 k1) (.slice p2 n2 k2) t (.slice p3 n3 k3) (.slice p4 n4 k4) w w'∧w'.cell? ⟨w.heap.size,0,none⟩=some (.bool s)∧w'.cell? ⟨w.heap.size,1,none⟩=some (.slice p1 n1 k1)∧w'.cell? ⟨w.heap.size,2,none⟩=some (.slice p2 n2 k2)∧w'.cell? ⟨w.heap.size+1,0,none⟩=some (.bool t)∧w'.cell? ⟨w.heap.size+1,1,none⟩=some (.slice p3 n3 k3)∧w'.cell? ⟨w.heap.size+1,2,none⟩=some (.slice p4 n4 k4))
     (first|exact Two.all (Two.drew htw.out)|exact Two.all htw.out|(go_split_ands;exact Two.all (Two.next (by assumption) hb1))|(go_split_ands;exact Two.all (Two.next (by assumption) hb3))|(go_split_ands;exact Two.all (Two.put3 (by assumption) nl _ _ _ _ _ _ _))|go_keep)
     (first|(go_at_call 139;go_split_ands;refine (hop.out _ (Below.drew bR)).mono ?_;rintro e w1 ⟨vt,rfl,hvt,hb1⟩;obtain ⟨pt,nt,ct,rfl⟩:=hvt.slice)|(go_at_call 132;go_split_ands;refine (vW _ _ _ _ _ _ hvt ((hM.out.below (Below.drew bR)).below hb1)).mono ?_;rintro e w3 ⟨rfl,hb3⟩;have htw:=Two.next (by assumption) hb3;obtain ⟨z0,z1,z2,l0,l1,l2,f0,f1,f2⟩:=Two.slots htw))
    go_wp2_with fail
    have q1:=htw.nat3 nl (hvt.below hb3) (s&&!((A-B)==0)) pt p2 nt ct n2 k2
    have q2:=htw.nat3 nl (((hM.out.below (Below.drew bR)).below hb1).below hb3) (s&&!((A-B)==0)) pt p2 nt ct n2 k2
    have q3:=(htw.put3 nl (s&&!((A-B)==0)) pt p2 nt ct n2 k2).below
    have yD:Hid (∀ W',W'=(((w3.setCell ⟨w.heap.size+1+1,0,none⟩ (.bool (s&&!((A-B)==0)))).setCell ⟨w.heap.size+1+1,1,none⟩ (.slice pt nt ct)).setCell ⟨w.heap.size+1+1,2,none⟩ (.slice p2 n2 k2))→ybV s a b t c b K w (.returned (.agg #[.bool (s&&!((A-B)==0)),.slice pt nt ct,.slice p2 n2 k2])) W'):=yA (by
     rintro W' rfl
     refine ⟨_,_,_,_,rfl,⟨_,_,rfl,q1,q2,by intro h;simp at h;omega⟩,q3,hF.out.pos,?_,hF.out.ltAm,hF.out.ltM⟩
     rw [jX]
     exact hF.out.sumA hst hlt'.out)
    refine bodyPost_ret (v:=.agg #[.bool (s&&!((A-B)==0)),.slice pt nt ct,.slice p2 n2 k2]) (by simp [results,Tryz.results89,go_sem,l0,l1,l2]) rfl ?_
    exact yD.out _ rfl
 ·have hz:(jG b d != 0)=true:=by
   rw [bne_iff_ne];unfold jG
   split
   ·omega
   ·split<;>omega
  have hF:Hid (Common s a b t c d K (a*d) (c*b) (b*d)):=yA (Common.made ha hb hc hd hb0 hd0)
  have hm1:Hid (Calls Tryz.prog 133 #[(.slice p1 n1 k1),(.slice p4 n4 k4)] W (zJ (a*d) W)):=yA (yad _ _ _ _ K W (by omega) ha hd HUW.out HVW2.out)
  go_wp2_with fail
  refine hm1.out.mono ?_
  rintro e Wa ⟨va,rfl,hva,hba⟩
  have yxU:=htw.out.next hba
  obtain ⟨-,c0,c1,c2,c3,c4,c5⟩:=yxU.all
  have hm2:Hid (Calls Tryz.prog 133 #[(.slice p3 n3 k3),(.slice p2 n2 k2)] Wa (zJ (c*b) Wa)):=yA (yad _ _ _ _ K Wa (by omega) hc hb (HUW2.out.below hba) (HVW.out.below hba))
  have Htwa:=yA yxU
  clear yxU
  go_wp2_with fail
  refine hm2.out.mono ?_
  rintro e Wb ⟨vb,rfl,hvb,hbb⟩
  have yxV:=Htwa.out.next hbb
  obtain ⟨-,c0,c1,c2,c3,c4,c5⟩:=yxV.all
  have hab:=tr hba hbb
  have hm3:Hid (Calls Tryz.prog 133 #[(.slice p2 n2 k2),(.slice p4 n4 k4)] Wb (zJ (b*d) Wb)):=yA (yad _ _ _ _ K Wb (by omega) hb hd (HVW.out.below hab) (HVW2.out.below hab))
  have Htwb:=yA yxV
  clear yxV
  go_wp2_with fail
  refine hm3.out.mono ?_
  rintro e Wc ⟨vc,rfl,hvc,hbc⟩
  have htw:Hid (Two w.heap.size s (.slice p1 n1 k1) (.slice p2 n2 k2) t (.slice p3 n3 k3) (.slice p4 n4 k4) w Wc):=yA (Htwb.out.next hbc)
  obtain ⟨-,c0,c1,c2,c3,c4,c5⟩:=htw.out.all
  obtain ⟨A,hAq⟩:∃ A,A=a*d:=⟨_,rfl⟩
  obtain ⟨B,hBq⟩:∃ B,B=c*b:=⟨_,rfl⟩
  obtain ⟨M,hMq⟩:∃ M,M=b*d:=⟨_,rfl⟩
  rw [← hAq,← hBq,← hMq] at hF
  have hA:Hid (yH Wc va A):=yA (by rw [hAq];exact (hva.below hbb).below hbc)
  have hB:Hid (yH Wc vb B):=yA (by rw [hBq];exact hvb.below hbc)
  have hM:Hid (yH Wc vc M):=yA (by rw [hMq];exact hvc)
  clear hAq hBq hMq hva hvb hvc hz
  obtain ⟨pa,na,ca,rfl⟩:=hA.out.slice
  obtain ⟨pb,nb,cb,rfl⟩:=hB.out.slice
  obtain ⟨pm,nm,cm,rfl⟩:=hM.out.slice
  by_cases hst:s=t
  ·subst hst
   have hst':(s==s)=true:=by simp
   go_wp2_with fail
   have hop:Hid (∀ W',Be Wc W'→Calls Tryz.prog 138 #[.slice pa na ca,.slice pb nb cb] W' (zJ (A+B) W')):=yA fun W' h=>ydj _ _ _ _ (2*K) W' (by unfold yF;omega) hF.out.ltA hF.out.ltB (hA.out.below h) (hB.out.below h)
   obtain ⟨-,c0,c1,c2,c3,c4,c5⟩:=htw.out.all
   go_region_held3 (fun w'=>Two w.heap.size s (.slice p1 n1 k1) (.slice p2 n2 k2) s (.slice p3 n3 k3) (.slice p4 n4 k4) w w'∧w'.cell? ⟨w.heap.size,0,none⟩=some (.bool s)∧w'.cell? ⟨w.heap.size,1,none⟩=some (.slice p1 n1 k1)∧w'.cell? ⟨w.heap.size,2,none⟩=some (.slice p2 n2 k2)∧w'.cell? ⟨w.heap.size+1,0,none⟩=some (.bool s)∧w'.cell? ⟨w.heap.size+1,1,none⟩=some (.slice p3 n3 k3)∧w'.cell? ⟨w.heap.size+1,2,none⟩=some (.slice p4 n4 k4))
    (first|exact Two.all (Two.drew htw.out)|exact Two.all htw.out|(go_split_ands;exact Two.all (Two.next (by assumption) hb1))|(go_split_ands;exact Two.all (Two.next (by assumption) hb3))|(go_split_ands;exact Two.all (Two.put3 (by assumption) nl _ _ _ _ _ _ _))|go_keep)
    (first|(go_at_call 138;go_split_ands;refine (hop.out _ (Below.drew bR)).mono ?_;rintro e w1 ⟨vt,rfl,hvt,hb1⟩;obtain ⟨pt,nt,ct,rfl⟩:=hvt.slice)|(go_at_call 132;go_split_ands;refine (vW _ _ _ _ _ _ hvt ((hM.out.below (Below.drew bR)).below hb1)).mono ?_;rintro e w3 ⟨rfl,hb3⟩;have htw:=Two.next (by assumption) hb3;obtain ⟨z0,z1,z2,l0,l1,l2,f0,f1,f2⟩:=Two.slots htw))
   go_wp2_with fail
   have q1:=htw.nat3 nl (hvt.below hb3) (s&&!((A+B)==0)) pt pm nt ct nm cm
   have q2:=htw.nat3 nl (((hM.out.below (Below.drew bR)).below hb1).below hb3) (s&&!((A+B)==0)) pt pm nt ct nm cm
   have q3:=(htw.put3 nl (s&&!((A+B)==0)) pt pm nt ct nm cm).below
   have yD:Hid (∀ W',W'=(((w3.setCell ⟨w.heap.size+1+1,0,none⟩ (.bool (s&&!((A+B)==0)))).setCell ⟨w.heap.size+1+1,1,none⟩ (.slice pt nt ct)).setCell ⟨w.heap.size+1+1,2,none⟩ (.slice pm nm cm))→ybV s a b s c d K w (.returned (.agg #[.bool (s&&!((A+B)==0)),.slice pt nt ct,.slice pm nm cm])) W'):=yA (by
    rintro W' rfl
    refine ⟨_,_,_,_,rfl,⟨_,_,rfl,q1,q2,by intro h;simp at h;omega⟩,q3,hF.out.pos,?_,hF.out.ltP,hF.out.ltM⟩
    rw [jX]
    exact hF.out.sumP rfl)
   refine bodyPost_ret (v:=.agg #[.bool (s&&!((A+B)==0)),.slice pt nt ct,.slice pm nm cm]) (by simp [results,Tryz.results89,go_sem,l0,l1,l2]) rfl ?_
   exact yD.out _ rfl
  ·have hst':(s==t)=false:=by simpa using hst
   have hcm:Hid (Calls Tryz.prog 137 #[.slice pa na ca,.slice pb nb cb] Wc (yar A B Wc)):=yA (ybd _ _ _ _ (2*K) _ (by unfold yF;omega) hF.out.ltA hF.out.ltB hA.out hB.out)
   go_wp2_with fail
   refine hcm.out.mono ?_
   rintro e w5 ⟨rfl,k5,rfl⟩
   have yhY:Hid (Two w.heap.size s (.slice p1 n1 k1) (.slice p2 n2 k2) t (.slice p3 n3 k3) (.slice p4 n4 k4) w (Wc.drewN k5)):=yA (htw.out.next (yI _ _ _))
   have hMd:Hid (yH (Wc.drewN k5) (.slice pm nm cm) M):=yA (hM.out.drewN _)
   by_cases hlt:A<B
   ·have hz:jG A B=-1:=yjJ hlt
    rw [hz]
    have hlt':=yA hlt
    clear hlt hz
    clear c0 c1 c2 c3 c4 c5
    have hM0:=hM
    have yxT:=htw
    clear hM htw
    have hM:=hMd
    have htw:=yhY
    clear hMd yhY
    obtain ⟨-,c0,c1,c2,c3,c4,c5⟩:=htw.out.all
    go_wp2_with fail
    have hop:Hid (∀ W',Below (Wc.drewN k5).heap.size (Wc.drewN k5) W'→Calls Tryz.prog 139 #[.slice pb nb cb,.slice pa na ca] W' (zJ (B-A) W')):=yA fun W' h=>ydI _ _ _ _ (2*K) W' (by unfold yF;omega) hF.out.ltB (by have:=hlt'.out;omega) ((hB.out.drewN k5).below h) ((hA.out.drewN k5).below h)
    obtain ⟨-,c0,c1,c2,c3,c4,c5⟩:=htw.out.all
    go_region_held3 (fun w'=>Two w.heap.size s (.slice p1 n1 k1) (.slice p2 n2 k2) t (.slice p3 n3 k3) (.slice p4 n4 k4) w w'∧w'.cell? ⟨w.heap.size,0,none⟩=some (.bool s)∧w'.cell? ⟨w.heap.size,1,none⟩=some (.slice p1 n1 k1)∧w'.cell? ⟨w.heap.size,2,none⟩=some (.slice p2 n2 k2)∧w'.cell? ⟨w.heap.size+1,0,none⟩=some (.bool t)∧w'.cell? ⟨w.heap.size+1,1,none⟩=some (.slice p3 n3 k3)∧w'.cell? ⟨w.heap.size+1,2,none⟩=some (.slice p4 n4 k4))
     (first|exact Two.all (Two.drew htw.out)|exact Two.all htw.out|(go_split_ands;exact Two.all (Two.next (by assumption) hb1))|(go_split_ands;exact Two.all (Two.next (by assumption) hb3))|(go_split_ands;exact Two.all (Two.put3 (by assumption) nl _ _ _ _ _ _ _))|go_keep)
     (first|(go_at_call 139;go_split_ands;refine (hop.out _ (Below.drew bR)).mono ?_;rintro e w1 ⟨vt,rfl,hvt,hb1⟩;obtain ⟨pt,nt,ct,rfl⟩:=hvt.slice)|(go_at_call 132;go_split_ands;refine (vW _ _ _ _ _ _ hvt ((hM.out.below (Below.drew bR)).below hb1)).mono ?_;rintro e w3 ⟨rfl,hb3⟩;have htw:=Two.next (by assumption) hb3;obtain ⟨z0,z1,z2,l0,l1,l2,f0,f1,f2⟩:=Two.slots htw))
    go_wp2_with fail
    have q1:=htw.nat3 nl (hvt.below hb3) (t&&!((B-A)==0)) pt pm nt ct nm cm
    have q2:=htw.nat3 nl (((hM.out.below (Below.drew bR)).below hb1).below hb3) (t&&!((B-A)==0)) pt pm nt ct nm cm
    have q3:=(htw.put3 nl (t&&!((B-A)==0)) pt pm nt ct nm cm).below
    have yD:Hid (∀ W',W'=(((w3.setCell ⟨w.heap.size+1+1,0,none⟩ (.bool (t&&!((B-A)==0)))).setCell ⟨w.heap.size+1+1,1,none⟩ (.slice pt nt ct)).setCell ⟨w.heap.size+1+1,2,none⟩ (.slice pm nm cm))→ybV s a b t c d K w (.returned (.agg #[.bool (t&&!((B-A)==0)),.slice pt nt ct,.slice pm nm cm])) W'):=yA (by
     rintro W' rfl
     refine ⟨_,_,_,_,rfl,⟨_,_,rfl,q1,q2,by intro h;simp at h;omega⟩,q3,hF.out.pos,?_,hF.out.ltBm,hF.out.ltM⟩
     rw [jX]
     exact hF.out.sumB hst hlt'.out)
    refine bodyPost_ret (v:=.agg #[.bool (t&&!((B-A)==0)),.slice pt nt ct,.slice pm nm cm]) (by simp [results,Tryz.results89,go_sem,l0,l1,l2]) rfl ?_
    exact yD.out _ rfl
   ·obtain ⟨z,hz,hz0⟩:∃ z:Int,jG A B=z∧(0:Int)≤z:=⟨_,rfl,by rcases ygm hlt with h|h<;>rw [h]<;>omega⟩
    rw [hz]
    have hlt':=yA hlt
    clear hlt hz
    clear c0 c1 c2 c3 c4 c5
    have hM0:=hM
    have yxT:=htw
    clear hM htw
    have hM:=hMd
    have htw:=yhY
    clear hMd yhY
    obtain ⟨-,c0,c1,c2,c3,c4,c5⟩:=htw.out.all
    go_wp2_with fail
    have hop:Hid (∀ W',Below (Wc.drewN k5).heap.size (Wc.drewN k5) W'→Calls Tryz.prog 139 #[.slice pa na ca,.slice pb nb cb] W' (zJ (A-B) W')):=yA fun W' h=>ydI _ _ _ _ (2*K) W' (by unfold yF;omega) hF.out.ltA (by have:=hlt'.out;omega) ((hA.out.drewN k5).below h) ((hB.out.drewN k5).below h)
    obtain ⟨-,c0,c1,c2,c3,c4,c5⟩:=htw.out.all
    go_region_held3 (fun w'=>Two w.heap.size s (.slice p1 n1 k1) (.slice p2 n2 k2) t (.slice p3 n3 k3) (.slice p4 n4 k4) w w'∧w'.cell? ⟨w.heap.size,0,none⟩=some (.bool s)∧w'.cell? ⟨w.heap.size,1,none⟩=some (.slice p1 n1 k1)∧w'.cell? ⟨w.heap.size,2,none⟩=some (.slice p2 n2 k2)∧w'.cell? ⟨w.heap.size+1,0,none⟩=some (.bool t)∧w'.cell? ⟨w.heap.size+1,1,none⟩=some (.slice p3 n3 k3)∧w'.cell? ⟨w.heap.size+1,2,none⟩=some (.slice p4 n4 k4))
     (first|exact Two.all (Two.drew htw.out)|exact Two.all htw.out|(go_split_ands;exact Two.all (Two.next (by assumption) hb1))|(go_split_ands;exact Two.all (Two.next (by assumption) hb3))|(go_split_ands;exact Two.all (Two.put3 (by assumption) nl _ _ _ _ _ _ _))|go_keep)
     (first|(go_at_call 139;go_split_ands;refine (hop.out _ (Below.drew bR)).mono ?_;rintro e w1 ⟨vt,rfl,hvt,hb1⟩;obtain ⟨pt,nt,ct,rfl⟩:=hvt.slice)|(go_at_call 132;go_split_ands;refine (vW _ _ _ _ _ _ hvt ((hM.out.below (Below.drew bR)).below hb1)).mono ?_;rintro e w3 ⟨rfl,hb3⟩;have htw:=Two.next (by assumption) hb3;obtain ⟨z0,z1,z2,l0,l1,l2,f0,f1,f2⟩:=Two.slots htw))
    go_wp2_with fail
    have q1:=htw.nat3 nl (hvt.below hb3) (s&&!((A-B)==0)) pt pm nt ct nm cm
    have q2:=htw.nat3 nl (((hM.out.below (Below.drew bR)).below hb1).below hb3) (s&&!((A-B)==0)) pt pm nt ct nm cm
    have q3:=(htw.put3 nl (s&&!((A-B)==0)) pt pm nt ct nm cm).below
    have yD:Hid (∀ W',W'=(((w3.setCell ⟨w.heap.size+1+1,0,none⟩ (.bool (s&&!((A-B)==0)))).setCell ⟨w.heap.size+1+1,1,none⟩ (.slice pt nt ct)).setCell ⟨w.heap.size+1+1,2,none⟩ (.slice pm nm cm))→ybV s a b t c d K w (.returned (.agg #[.bool (s&&!((A-B)==0)),.slice pt nt ct,.slice pm nm cm])) W'):=yA (by
     rintro W' rfl
     refine ⟨_,_,_,_,rfl,⟨_,_,rfl,q1,q2,by intro h;simp at h;omega⟩,q3,hF.out.pos,?_,hF.out.ltAm,hF.out.ltM⟩
     rw [jX]
     exact hF.out.sumA hst hlt'.out)
    refine bodyPost_ret (v:=.agg #[.bool (s&&!((A-B)==0)),.slice pt nt ct,.slice pm nm cm]) (by simp [results,Tryz.results89,go_sem,l0,l1,l2]) rfl ?_
    exact yD.out _ rfl
section
variable {B : Nat} {s : Bool} {u1 v1 : Value} {w0 W W' : World}
end
def sgn (s:Bool) (a:Nat):Int:=if s then -1 else if a=0 then 0 else 1
theorem yuj (x:Value) (s:Bool) (a b:Nat) (w:World) (hx:vE w x s a b):Calls Tryz.prog 135 #[x] w (Rp (.int .i64 (sgn s a)) w):=by
 obtain ⟨u1,v1,rfl,hu1,hv1,hs1⟩:=hx
 obtain ⟨p1,n1,k1,rfl⟩:=hu1.slice
 have hz:=jA hu1
 clear hu1 hv1 hs1
 cases s with
 | true =>
  have h:sgn true a=-1:=rfl
  rw [h]
  go_in
  go_wp2
  go_ret
  exact ⟨rfl,bR.alloc nl _⟩
 | false =>
  by_cases h0:a=0
  ·have hn:n1=0:=hz.2 h0
   subst hn
   have h:sgn false a=0:=by simp [sgn,h0]
   rw [h]
   clear hz h0 h
   go_in
   go_wp2_with fail
   refine (jM _ _ _ _).mono ?_
   rintro e w1 ⟨rfl,rfl⟩
   go_wp2
   go_ret
   exact ⟨rfl,bR.alloc nl _⟩
  ·have hn:((n1:Int)==0)=false:=by rw [beq_eq_false_iff_ne];omega
   have h:sgn false a=1:=by simp [sgn,h0]
   rw [h]
   clear hz h0 h
   go_in
   go_wp2_with fail
   refine (jM _ _ _ _).mono ?_
   rintro e w1 ⟨rfl,rfl⟩
   rw [hn]
   go_wp2
   go_ret
   exact ⟨rfl,bR.alloc nl _⟩
end
section
open Go.RowKit Big
section
variable {B : Nat} {w0 W W' : World}
end
theorem ypO (n:Nat) (w:World) (hn:n≤1000):Calls Tryz.prog 87 #[.int .i64 n] w (uZ false n 1 w):=by
 have h0:(0:Int)≤n:=by omega
 have h1:(n:Int)≤1000:=by omega
 have hdec:decide ((n:Int)<0)=false:=by simp
 have zF:=yA (Res.start w)
 have hnB:n<yB:=by rw [yN];omega
 have ht:∀ (W:World) T B,B=W.heap.size→Hid (Calls Tryz.prog 136 #[.slice (some ⟨B,0,none⟩) 1 1] (W.alloc (.cells #[.int .u64 (n:Int)] T)) (zJ (val yB [n]) (W.alloc (.cells #[.int .u64 (n:Int)] T)))):=fun W T B hB =>
  yA (hB ▸ yac _ 1 1 [n] _ _ (by unfold maxLen;omega) (by omega) (ym5 W n T) (yQ.one hnB) bR)
 have zQ:Hid (val yB [n]=n):=yA (by simp [val])
 clear hnB
 go_in
 go_wp2_with fail
 refine (ht (w.alloc (.cells #[.bool false,.slice none 0 0,.slice none 0 0] 98)) _ (w.heap.size+1) (by simp)).out.mono ?_
 rintro e w2 ⟨v2,rfl,hv2,hb2⟩
 rw [zQ.out] at hv2
 obtain ⟨p2,n2,k2,rfl⟩:=hv2.slice
 have hr2:=yA ((zF.out.next (bea _ _)).next hb2)
 have hB1:1<yB:=by rw [yN];omega
 have zX:∀ T,Hid (yH (w2.alloc (.cells #[.int .u64 1] T)) (.slice (some ⟨w2.heap.size,0,none⟩) 1 1) 1):=fun T=>yA (GI w2 1 T (by omega) hB1)
 have hv2':∀ T,Hid (yH (w2.alloc (.cells #[.int .u64 1] T)) (.slice p2 n2 k2) n):=fun T=>yA (hv2.below (bea _ _))
 have hsg:∀ T,Hid (Calls Tryz.prog 132 #[.bool false,.slice p2 n2 k2,.slice (some ⟨w2.heap.size,0,none⟩) 1 1] (w2.alloc (.cells #[.int .u64 1] T)) fun e w'=>e=.returned (.agg #[.bool (false&&!(n==0)),.slice p2 n2 k2,.slice (some ⟨w2.heap.size,0,none⟩) 1 1])∧Below (w2.alloc (.cells #[.int .u64 1] T)).heap.size (w2.alloc (.cells #[.int .u64 1] T)) w'):=fun T =>
  yA (vW false _ _ n 1 _ (hv2' T).out (zX T).out)
 clear hv2 hb2 hB1
 go_wp2_with fail
 refine (hsg _).out.mono ?_
 rintro e w3 ⟨rfl,hb3⟩
 have htw:=(hr2.out.next (bea _ _)).next hb3
 obtain ⟨z0,z1,z2,l0,l1,l2,f0,f1,f2⟩:=htw.slots
 have Htw:=yA htw
 have q1:=Htw.out.nat3 nl ((hv2' _).out.below hb3) false p2 (some ⟨w2.heap.size,0,none⟩) n2 k2 1 1
 have q2:=Htw.out.nat3 nl ((zX _).out.below hb3) false p2 (some ⟨w2.heap.size,0,none⟩) n2 k2 1 1
 have q3:=(Htw.out.put3 nl false p2 (some ⟨w2.heap.size,0,none⟩) n2 k2 1 1).below
 have yD:Hid (∀ W,W=(((w3.setCell ⟨w.heap.size,0,none⟩ (.bool false)).setCell ⟨w.heap.size,1,none⟩ (.slice p2 n2 k2)).setCell ⟨w.heap.size,2,none⟩ (.slice (some ⟨w2.heap.size,0,none⟩) 1 1))→uZ false n 1 w (.returned (.agg #[.bool false,.slice p2 n2 k2,.slice (some ⟨w2.heap.size,0,none⟩) 1 1])) W):=yA (by
  rintro W rfl
  exact ⟨_,rfl,⟨_,_,rfl,q1,q2,by intro h;simp at h⟩,q3⟩)
 clear htw q1 q2 q3
 go_wp2
 refine bodyPost_ret (v:=.agg #[.bool false,.slice p2 n2 k2,.slice (some ⟨w2.heap.size,0,none⟩) 1 1]) (by simp [results,Tryz.results87,go_sem,l0,l1,l2]) rfl ?_
 exact yD.out _ rfl
end
section
open Go.RowKit Big
theorem ydC {s:Bool} {q:Nat} (h:(s&&!(q==0))=true):0<q:=by
 rw [Bool.and_eq_true] at h
 have:=h.2
 simp at this;omega
def jP (s:Bool) (a b:Nat):Nat:=a/b+(if s&&!(a%b==0) then 1 else 0)
theorem yrb (x:Value) (s:Bool) (a b K:Nat) (w:World) (hK:K+2≤1073741824) (ha:a<yB^K) (hb:b<yB^K) (hb0:0<b) (hx:vE w x s a b):Calls Tryz.prog 90 #[x] w (uZ s (jP s a b) 1 w):=by
 obtain ⟨u1,v1,rfl,hu1,hv1,hs1⟩:=hx
 obtain ⟨p1,n1,k1,rfl⟩:=hu1.slice
 obtain ⟨p2,n2,k2,rfl⟩:=hv1.slice
 have zX:=One.start w s (.slice p1 n1 k1) (.slice p2 n2 k2)
 obtain ⟨c0,c1,c2⟩:=zX.cells
 have Hone:=yA zX
 have yan:Hid (∀ W,Be w W→Calls Tryz.prog 140 #[.slice p1 n1 k1,.slice p2 n2 k2] W (ybT a b W)):=yA fun W h=>yfY _ _ a b K W (by unfold yF;omega) ha hb hb0 (hu1.below h) (hv1.below h)
 have hqB:Hid (a/b<yB^K):=yA (Nat.lt_of_le_of_lt (Nat.div_le_self _ _) ha)
 have HK:=yA hK
 have hB1:Hid (1<yB):=yA (by rw [yN];omega)
 clear zX hu1 hv1 hs1 ha hb hb0 hK
 -- the end, from the quotient's value on
 have yaI:Hid (∀ (W3:World) (qv:Value) (q:Nat),One w.heap.size s (.slice p1 n1 k1) (.slice p2 n2 k2) w W3→yH W3 qv q→∀ T,Calls Tryz.prog 132 #[.bool s,qv,.slice (some ⟨W3.heap.size,0,none⟩) 1 1] (W3.alloc (.cells #[.int .u64 1] T)) fun e w' =>
   ∃ p n c m,e=.returned (.agg #[.bool (s&&!(q==0)),.slice p n c,.slice (some ⟨m,0,none⟩) 1 1])∧One w.heap.size s (.slice p1 n1 k1) (.slice p2 n2 k2) w w'∧yH w' (.slice p n c) q∧yH w' (.slice (some ⟨m,0,none⟩) 1 1) 1):=yA (by
  intro W3 qv q h1 h2 T
  obtain ⟨p,n,c,rfl⟩:=h2.slice
  refine (vW s _ _ q 1 _ (h2.below (bea _ _)) (GI W3 1 T (by omega) hB1.out)).mono ?_
  rintro e w' ⟨rfl,hb⟩
  exact ⟨p,n,c,_,rfl,(h1.next (bea _ _)).next hb,(h2.below (bea _ _)).below hb,(GI W3 1 T (by omega) hB1.out).below hb⟩)
 go_in
 go_wp2_with fail
 refine (yan.out _ Hone.out.below).mono ?_
 rintro e w2 ⟨vq,vr,rfl,hq,hr,hb2⟩
 have htw:=Hone.out.next hb2
 obtain ⟨c0,c1,c2⟩:=htw.cells
 obtain ⟨pq,nq,kq,rfl⟩:=hq.slice
 obtain ⟨pr,nr,kr,rfl⟩:=hr.slice
 have hrz:=yA (jA hr)
 have Htw:=yA htw
 have Hq:=yA hq
 clear htw hq hr
 cases s with
 | false =>
  have hfl:Hid (jP false a b=a/b):=yA (by simp [jP])
  go_wp2_with fail
  refine (yaI.out _ _ (a/b) Htw.out Hq.out _).mono ?_
  rintro e w3 ⟨p,n,c,m,rfl,h1,h2,h3⟩
  obtain ⟨z0,z1,z2,l0,l1,l2,f0,f1,f2⟩:=h1.slots
  have q1:=h1.nat3 nl h2 (false&&!((a/b)==0)) p (some ⟨m,0,none⟩) n c 1 1
  have q2:=h1.nat3 nl h3 (false&&!((a/b)==0)) p (some ⟨m,0,none⟩) n c 1 1
  have q3:=(h1.put3 nl (false&&!((a/b)==0)) p (some ⟨m,0,none⟩) n c 1 1).below
  have yD:Hid (∀ W,W=(((w3.setCell ⟨w.heap.size+1,0,none⟩ (.bool (false&&!((a/b)==0)))).setCell ⟨w.heap.size+1,1,none⟩ (.slice p n c)).setCell ⟨w.heap.size+1,2,none⟩ (.slice (some ⟨m,0,none⟩) 1 1))→uZ false (jP false a b) 1 w (.returned (.agg #[.bool (false&&!((a/b)==0)),.slice p n c,.slice (some ⟨m,0,none⟩) 1 1])) W):=yA (by
   rintro W rfl
   rw [hfl.out]
   exact ⟨_,rfl,⟨_,_,rfl,q1,q2,ydC⟩,q3⟩)
  clear q1 q2 q3 h1 h2 h3
  go_wp2
  refine bodyPost_ret (v:=.agg #[.bool (false&&!((a/b)==0)),.slice p n c,.slice (some ⟨m,0,none⟩) 1 1]) (by simp [results,Tryz.results90,go_sem,l0,l1,l2]) rfl ?_
  exact yD.out _ rfl
 | true =>
  by_cases h0:a%b=0
  ·have hfl:Hid (jP true a b=a/b):=yA (by simp [jP,h0])
   have hnz:((nr:Int)==0)=true:=by rw [beq_iff_eq];have:=hrz.out.2 h0;omega
   clear h0
   go_wp2_with fail
   refine (jM _ _ _ _).mono ?_
   rintro e w5 ⟨rfl,rfl⟩
   rw [hnz]
   go_wp2_with fail
   refine (yaI.out _ _ (a/b) Htw.out Hq.out _).mono ?_
   rintro e w3 ⟨p,n,c,m,rfl,h1,h2,h3⟩
   obtain ⟨z0,z1,z2,l0,l1,l2,f0,f1,f2⟩:=h1.slots
   have q1:=h1.nat3 nl h2 (true&&!((a/b)==0)) p (some ⟨m,0,none⟩) n c 1 1
   have q2:=h1.nat3 nl h3 (true&&!((a/b)==0)) p (some ⟨m,0,none⟩) n c 1 1
   have q3:=(h1.put3 nl (true&&!((a/b)==0)) p (some ⟨m,0,none⟩) n c 1 1).below
   have yD:Hid (∀ W,W=(((w3.setCell ⟨w.heap.size+1,0,none⟩ (.bool (true&&!((a/b)==0)))).setCell ⟨w.heap.size+1,1,none⟩ (.slice p n c)).setCell ⟨w.heap.size+1,2,none⟩ (.slice (some ⟨m,0,none⟩) 1 1))→uZ true (jP true a b) 1 w (.returned (.agg #[.bool (true&&!((a/b)==0)),.slice p n c,.slice (some ⟨m,0,none⟩) 1 1])) W):=yA (by
    rintro W rfl
    rw [hfl.out]
    exact ⟨_,rfl,⟨_,_,rfl,q1,q2,ydC⟩,q3⟩)
   clear q1 q2 q3 h1 h2 h3
   go_wp2
   refine bodyPost_ret (v:=.agg #[.bool (true&&!((a/b)==0)),.slice p n c,.slice (some ⟨m,0,none⟩) 1 1]) (by simp [results,Tryz.results90,go_sem,l0,l1,l2]) rfl ?_
   exact yD.out _ rfl
  ·have hfl:Hid (jP true a b=a/b+1):=yA (by simp [jP,h0])
   have hnz:((nr:Int)==0)=false:=by rw [beq_eq_false_iff_ne];have:=hrz.out.1;omega
   clear h0
   go_wp2_with fail
   refine (jM _ _ _ _).mono ?_
   rintro e w5 ⟨rfl,rfl⟩
   rw [hnz]
   go_wp2_with fail
   have ybb:∀ T,Hid (Calls Tryz.prog 138 #[.slice pq nq kq,.slice (some ⟨w2.heap.size,0,none⟩) 1 1] (w2.alloc (.cells #[.int .u64 1] T)) (zJ (a/b+1) (w2.alloc (.cells #[.int .u64 1] T)))):=fun T=>yA (ydj _ _ _ 1 (K+1) _ (by have:=HK.out;unfold yF;omega)
    (by have h1:=hqB.out;have h2:yB^K≤yB^(K+1):=Nat.pow_le_pow_right yU (by omega);omega)
    (by have h1:=hB1.out;have h2:yB^1≤yB^(K+1):=Nat.pow_le_pow_right yU (by omega);rw [Nat.pow_one] at h2;omega)
    (Hq.out.below (bea _ _)) (GI w2 1 T (by omega) hB1.out))
   refine (ybb _).out.mono ?_
   rintro e w6 ⟨v6,rfl,hv6,hb6⟩
   have yxW:=(Htw.out.next (bea _ _)).next hb6
   obtain ⟨c0,c1,c2⟩:=yxW.cells
   have Htw6:=yA yxW
   have Hv6:=yA hv6
   clear yxW hv6 hb6 ybb
   go_wp2_with fail
   refine (yaI.out _ _ (a/b+1) Htw6.out Hv6.out _).mono ?_
   rintro e w3 ⟨p,n,c,m,rfl,h1,h2,h3⟩
   obtain ⟨z0,z1,z2,l0,l1,l2,f0,f1,f2⟩:=h1.slots
   have q1:=h1.nat3 nl h2 (true&&!((a/b+1)==0)) p (some ⟨m,0,none⟩) n c 1 1
   have q2:=h1.nat3 nl h3 (true&&!((a/b+1)==0)) p (some ⟨m,0,none⟩) n c 1 1
   have q3:=(h1.put3 nl (true&&!((a/b+1)==0)) p (some ⟨m,0,none⟩) n c 1 1).below
   have yD:Hid (∀ W,W=(((w3.setCell ⟨w.heap.size+1,0,none⟩ (.bool (true&&!((a/b+1)==0)))).setCell ⟨w.heap.size+1,1,none⟩ (.slice p n c)).setCell ⟨w.heap.size+1,2,none⟩ (.slice (some ⟨m,0,none⟩) 1 1))→uZ true (jP true a b) 1 w (.returned (.agg #[.bool (true&&!((a/b+1)==0)),.slice p n c,.slice (some ⟨m,0,none⟩) 1 1])) W):=yA (by
    rintro W rfl
    rw [hfl.out]
    exact ⟨_,rfl,⟨_,_,rfl,q1,q2,ydC⟩,q3⟩)
   clear q1 q2 q3 h1 h2 h3
   go_wp2
   refine bodyPost_ret (v:=.agg #[.bool (true&&!((a/b+1)==0)),.slice p n c,.slice (some ⟨m,0,none⟩) 1 1]) (by simp [results,Tryz.results90,go_sem,l0,l1,l2]) rfl ?_
   exact yD.out _ rfl
end
section
open Go.RowKit Go.Lib Big
def yxc (o:Option (Bool × Nat × Nat)) (w:World) (e:Ending) (w':World):Prop :=
 Be w w'∧∃ b p n c q m d,e=.returned (.tuple #[.agg #[.bool b,.slice p n c,.slice q m d],.bool o.isSome])∧∀ s x y,o=some (s,x,y)→vE w' (.agg #[.bool b,.slice p n c,.slice q m d]) s x y
theorem ypP (s:ByteArray) (w:World) (htab:Tab w):Calls Tryz.prog 130 #[.string s] w (yxc (yah s.data.toList) w):=by
 refine (yi0 s w htab).mono fun e w' h=>⟨h.1,?_⟩
 have h2:=h.2
 cases hq:yah s.data.toList with
 | none=>rw [hq] at h2;exact ⟨_,_,_,_,_,_,_,h2,fun _ _ _ h=>by cases h⟩
 | some t =>
  rw [hq] at h2
  obtain ⟨x,rfl,u,v,rfl,hu,hv,hs⟩:=h2
  obtain ⟨p2,n2,k2,rfl⟩:=hu.slice
  obtain ⟨p3,n3,k3,rfl⟩:=hv.slice
  refine ⟨_,_,_,_,_,_,_,rfl,?_⟩
  rintro _ _ _ h
  cases h
  exact ⟨_,_,rfl,hu,hv,hs⟩
theorem ykq (x y:ByteArray) (g:Addr) (w:World) (hx:Hid (Calls Tryz.prog 130 #[.string x] w (yxc none w))):Calls Tryz.prog 129 #[.string x,.string y,.pointer (some g)] w (Rp (.string ⟨#[]⟩) w):=by
 go_in
 go_wp2_with fail
 refine hx.out.mono ?_
 rintro e w2 ⟨hb2,b,p,n,c,q,m,d,rfl,-⟩
 have hbw:=yA (hb2.trans ((bea w2 (.cells #[.bool b,.slice p n c,.slice q m d] 98)).mono hb2.size))
 clear hb2
 go_wp2
 go_ret
 exact ⟨rfl,hbw.out⟩
end
section
open Go.Lib Big
/-! Digits -/
/-! Compare -/
def ybO (q:Rat):Int:=if q<0 then -1 else if q=0 then 0 else 1
theorem ycX (q:Rat):(q<0∧ybO q=-1)∨(q=0∧ybO q=0)∨(0<q∧ybO q=1):=by
 unfold ybO
 by_cases h:q<0
 ·exact .inl ⟨h,by rw [if_pos h]⟩
 ·by_cases h2:q=0
  ·exact .inr (.inl ⟨h2,by rw [if_neg h,if_pos h2]⟩)
  ·exact .inr (.inr ⟨by grind,by rw [if_neg h,if_neg h2]⟩)
def yrC (x:Lb):Bool:=match num x with
 | some q=>decide (0<q)
 | none=>false
/-! Convert -/
end
section
open Go.RowKit Go.Lib Big
theorem yhr {w:World} {x:Value} {s:Bool} {a b:Nat} (h:vE w x s a b):s=true→0<a:=by
 obtain ⟨u,v,-,-,-,h⟩:=h;exact h
def GF (q:Rat) (K:Nat) (w:World) (e:Ending) (w':World):Prop:=∃ x,e=.returned x∧jF w' x q K∧Be w w'
theorem yyo (x y:Value) (p q:Rat) (K:Nat) (w:World) (hK:2*K+1≤1073741824) (hx:jF w x p K) (hy:jF w y q K):Calls Tryz.prog 89 #[x,y] w (GF (p+q) (2*K+1) w):=by
 obtain ⟨s,a,b,h1,rfl,h3,h4,h5⟩:=hx
 obtain ⟨t,c,d,k1,rfl,k3,k4,k5⟩:=hy
 refine (ypN x y s t a b c d K w hK h4 h5 k4 k5 h3 k3 h1 k1).mono ?_
 rintro e w' ⟨z,r,n,m,rfl,hz,hb,hm,hv,hn,hm2⟩
 exact ⟨z,rfl,⟨r,n,m,hz,hv,hm,hn,hm2⟩,hb⟩
theorem ygr {a b K:Nat} (ha:a<yB^K) (hb:b<yB^K):a*b<yB^(2*K):=by
 rw [ygq]
 exact Nat.mul_lt_mul'' ha hb
theorem yyp (x y:Value) (p q:Rat) (K:Nat) (w:World) (hK:K≤1073741824) (hx:jF w x p K) (hy:jF w y q K):Calls Tryz.prog 91 #[x,y] w (GF (p*q) (2*K) w):=by
 obtain ⟨s,a,b,h1,rfl,h3,h4,h5⟩:=hx
 obtain ⟨t,c,d,k1,rfl,k3,k4,k5⟩:=hy
 refine (ywG x y s t a b c d K w hK h4 h5 k4 k5 h1 k1).mono ?_
 rintro e w' ⟨z,rfl,hz,hb⟩
 exact ⟨z,rfl,⟨_,_,_,hz,by rw [jX,ylH h3 k3],Nat.mul_pos h3 k3,ygr h4 k4,ygr h5 k5⟩,hb⟩
theorem yec {s:Bool} {a b:Nat} (hb:0<b):yM s a b=0↔a=0:=by
 have h1:=uR hb
 constructor
 ·intro h
  unfold yM at h
  apply Nat.eq_zero_of_not_pos
  intro ha
  have h2:=uR ha
  cases s
  ·simp only [Bool.false_eq_true,if_false] at h;grind
  ·simp only [if_true] at h;grind
 ·rintro rfl
  unfold yM
  cases s<;>simp<;>grind
theorem ysN (x y:Value) (p q:Rat) (K:Nat) (w:World) (hK:K≤1073741824) (hq:q≠0) (hx:jF w x p K) (hy:jF w y q K):Calls Tryz.prog 79 #[x,y] w (GF (p/q) (2*K) w):=by
 obtain ⟨s,a,b,h1,rfl,h3,h4,h5⟩:=hx
 obtain ⟨t,c,d,k1,rfl,k3,k4,k5⟩:=hy
 have hc:0<c:=by
  apply Nat.pos_of_ne_zero;intro h0;exact hq ((yec k3).2 h0)
 refine (ywF x y s t a b c d K w hK h4 h5 k4 k5 h1 k1).mono ?_
 rintro e w' ⟨z,rfl,hz,hb⟩
 exact ⟨z,rfl,⟨_,_,_,hz,by rw [jX,ylI h3 k3 hc],Nat.mul_pos h3 hc,ygr h4 k5,ygr h5 k4⟩,hb⟩
theorem yuk (x:Value) (q:Rat) (K:Nat) (w:World) (hK:K≤1000000) (hx:jF w x q K) (htab:Tab w):Calls Tryz.prog 131 #[x] w (Rp (.string ⟨(txt q).toArray⟩) w):=by
 obtain ⟨s,a,b,h1,rfl,h3,h4,h5⟩:=hx
 rw [← ydB h3 (yhr h1)]
 exact yiZ x s a b K w hK h4 h5 h3 h1 htab
theorem yul {l:Lb} {s:Bool} {n d:Nat} (h:yah l=some (s,n,d)):n<yB^20∧d<yB^20∧0<d:=by
 unfold yah at h
 split at h
 ·cases h
 ·rename_i hl
  split at h
  ·rename_i s0 n0 d0 hr
   split at h
   ·cases h;exact ylF hr (by omega)
   ·cases h
  ·cases h
def yaQ (o:Option Rat) (w:World) (e:Ending) (w':World):Prop :=
 Be w w'∧∃ b p n c q m d,e=.returned (.tuple #[.agg #[.bool b,.slice p n c,.slice q m d],.bool o.isSome])∧∀ r,o=some r→jF w' (.agg #[.bool b,.slice p n c,.slice q m d]) r 20
theorem yeO (s:ByteArray) (w:World) (htab:Tab w):Calls Tryz.prog 130 #[.string s] w (yaQ (num s.data.toList) w):=by
 refine (ypP s w htab).mono fun e w' h=>⟨h.1,?_⟩
 obtain ⟨-,b,p,n,c,q,m,d,he,hr⟩:=h
 unfold num
 cases hq:yah s.data.toList with
 | none=>rw [hq] at he;exact ⟨b,p,n,c,q,m,d,he,fun r h=>by cases h⟩
 | some t =>
  obtain ⟨sg,x,y⟩:=t
  rw [hq] at he hr
  refine ⟨b,p,n,c,q,m,d,he,?_⟩
  rintro r h
  cases h
  obtain ⟨h1,h2,h3⟩:=yul hq
  exact ⟨sg,x,y,hr _ _ _ rfl,rfl,h3,h1,h2⟩
def yas (l:Lb) (w:World) (e:Ending) (w':World):Prop:=e=.returned (.string ⟨l.toArray⟩)∧Be w w'
theorem ypQ (x:Value) (q:Rat) (K:Nat) (w:World) (hx:jF w x q K):Calls Tryz.prog 135 #[x] w (Rp (.int .i64 (ybO q)) w):=by
 obtain ⟨s,a,b,h1,rfl,h3,h4,h5⟩:=hx
 have e:sgn s a=ybO (yM s a b):=by
  obtain ⟨g1,g2,g3⟩:=ydo h3 (yhr h1)
  have hz:=yec (s:=s) (a:=a) h3
  unfold sgn ybO
  have hn:(yM s a b<0)↔(yM s a b).num<0:=by have:=Rat.num_nonneg (q:=yM s a b);grind
  cases s
  ·rw [decide_eq_false_iff_not] at g1
   rw [if_neg (by simp),if_neg (fun h=>g1 (hn.1 h))]
   by_cases ha:a=0
   ·rw [if_pos ha,if_pos (hz.2 ha)]
   ·rw [if_neg ha,if_neg (fun h=>ha (hz.1 h))]
  ·rw [decide_eq_true_iff] at g1
   rw [if_pos rfl,if_pos (hn.2 g1)]
 rw [← e]
 exact yuj x s a b w h1
/-! isPositive -/
theorem ywH (x:ByteArray) (w:World) (hx:Hid (Calls Tryz.prog 130 #[.string x] w (yaQ none w))):Calls Tryz.prog 86 #[.string x] w (Rp (.bool false) w):=by
 go_in
 go_wp2_with fail
 refine hx.out.mono ?_
 rintro e w2 ⟨hb2,b,p,n,c,q,m,d,rfl,-⟩
 have hbw:=yA (hb2.trans ((bea w2 (.cells #[.bool b,.slice p n c,.slice q m d] 98)).mono hb2.size))
 clear hb2
 go_wp2
 go_ret
 exact ⟨rfl,hbw.out⟩
theorem yyq (x:ByteArray) (r:Rat) (w:World) (hx:Hid (Calls Tryz.prog 130 #[.string x] w (yaQ (some r) w))):Calls Tryz.prog 86 #[.string x] w (Rp (.bool (decide ((0:Int)<ybO r))) w):=by
 have hsg:Hid (∀ W z,jF W z r 20→Calls Tryz.prog 135 #[z] W (Rp (.int .i64 (ybO r)) W)):=yA fun W z hz=>ypQ z r 20 W hz
 generalize ybO r=c at hsg ⊢
 go_in
 go_wp2_with fail
 refine hx.out.mono ?_
 rintro e w2 ⟨hb2,b1,p1,n1,c1,q1,m1,d1,rfl,hr1⟩
 have hbw:=yA (hb2.trans ((bea w2 (.cells #[.bool b1,.slice p1 n1 c1,.slice q1 m1 d1] 98)).mono hb2.size))
 have hR1:=(hr1 _ rfl).below (bea w2 (.cells #[.bool b1,.slice p1 n1 c1,.slice q1 m1 d1] 98))
 have ht:=yA (hsg.out _ _ hR1)
 clear hb2 hr1 hR1
 go_wp2_with fail
 refine ht.out.mono ?_
 rintro e w6 ⟨rfl,hb6⟩
 have yjy:=yA (tr hbw.out hb6)
 clear hb6
 go_wp2
 go_ret
 exact ⟨rfl,yjy.out⟩
theorem ykr (x:ByteArray) (w:World) (htab:Tab w):Calls Tryz.prog 86 #[.string x] w (Rp (.bool (yrC x.data.toList)) w):=by
 have hx:=yeO x w htab
 unfold yrC
 cases hnx:num x.data.toList with
 | none=>rw [hnx] at hx;exact ywH x w (yA hx)
 | some r =>
  rw [hnx] at hx
  have e:decide ((0:Int)<ybO r)=decide (0<r):=by
   rcases ycX r with ⟨h1,h2⟩|⟨h1,h2⟩|⟨h1,h2⟩
   ·rw [h2,decide_eq_false (by omega),decide_eq_false (by grind)]
   ·rw [h2,decide_eq_false (by omega),decide_eq_false (by grind)]
   ·rw [h2,decide_eq_true (by omega),decide_eq_true h1]
  simp only
  rw [← e]
  exact yyq x r w (yA hx)
theorem yyr (w:World):Calls Tryz.prog 87 #[.int .i64 1] w (GF 1 1 w):=by
 refine (ypO 1 w (by omega)).mono ?_
 rintro e w' ⟨z,rfl,hz,hb⟩
 have h1:1<yB^1:=by rw [Nat.pow_one,yN];omega
 refine ⟨z,rfl,⟨_,_,_,hz,?_,by omega,h1,h1⟩,hb⟩
 rw [jX];unfold yM;simp;grind
end
section
open Go.RowKit Big
open Go.Lib
def yeU (q:Rat):Rat:=yM (decide (q.num<0)) (jP (decide (q.num<0)) q.num.natAbs q.den) 1
def jS:Rat:=((1:Int):Rat)/((2:Int):Rat)
def GO (a b:Rat):Rat:=yeU (a/b+jS)*b
theorem yeP (q:Rat):GK q=ybO q:=by
 unfold GK ybO
 have h1:q.num<0↔q<0:=by rw [← Rat.not_le,← Rat.num_nonneg];omega
 have h2:q.num=0↔q=0:=Rat.num_eq_zero
 simp only [h1,h2]
end
section
open Go.RowKit Big
open Go.Lib
def uW (l k:Lb):Lb:=match num l,num k with
 | some a,some b=>if GK b=1 then txt (GO a b) else []
 | _,_=>[]
theorem yks (s:Bool) (a b k:Nat) (hk:0<k):jP s (a*k) (b*k)=jP s a b:=by
 unfold jP
 rw [Nat.mul_div_mul_right a b hk,Nat.mul_mod_mul_right k a b]
 have e:(a%b*k==0)=(a%b==0):=by
  by_cases h:a%b=0
  ·simp [h]
  ·have h2:a%b*k≠0:=Nat.mul_ne_zero h (by omega)
   rw [beq_eq_false_iff_ne.2 h,beq_eq_false_iff_ne.2 h2]
 rw [e]
theorem yum {s:Bool} {a b:Nat} (hb:0<b) (hs:s=true→0<a):yM s (jP s a b) 1=yeU (yM s a b):=by
 obtain ⟨h1,h2,h3⟩:=ydo hb hs
 unfold yeU
 rw [h1,h2,h3]
 have hg:0<Nat.gcd a b:=Nat.gcd_pos_of_pos_right _ hb
 have h:=yks s (a/Nat.gcd a b) (b/Nat.gcd a b) _ hg
 rw [Nat.div_mul_cancel (Nat.gcd_dvd_left a b),Nat.div_mul_cancel (Nat.gcd_dvd_right a b)] at h
 rw [h]
theorem yun (x:Value) (q:Rat) (K:Nat) (w:World) (hK:K+2≤1073741824) (hx:jF w x q K):Calls Tryz.prog 90 #[x] w (GF (yeU q) (K+1) w):=by
 obtain ⟨s,a,b,h1,h2,h3,h4,h5⟩:=hx
 have hs:s=true→0<a:=by obtain ⟨u,v,-,-,-,hs⟩:=h1;exact hs
 refine (yrb x s a b K w hK h4 h5 h3 h1).mono ?_
 rintro e w' ⟨z,rfl,hz,hb⟩
 have e1:yB^(K+1)=yB^K*18446744073709551616:=by rw [Nat.pow_succ,yN]
 have hp:0<yB^K:=Nat.lt_of_le_of_lt (Nat.zero_le _) h4
 have h6:a/b<yB^K:=Nat.lt_of_le_of_lt (Nat.div_le_self _ _) h4
 have h7:jP s a b≤a/b+1:=by
  unfold jP
  split<;>omega
 exact ⟨z,rfl,⟨_,_,_,hz,by rw [jX,yum h3 hs,h2],by omega,by omega,by omega⟩,hb⟩
theorem Two.rfin {B:Nat} {s:Bool} {u1 v1:Value} {t:Bool} {u2 v2:Value} {w0 W:World} (h:Two B s u1 v1 t u2 v2 w0 W) (hB:w0.heap.size≤B) {a:Bool} {p q:Oa} {n c m d K:Nat} {r:Rat} (hr:jF W (.agg #[.bool a,.slice p n c,.slice q m d]) r K) :
  GF r K w0 (.returned (.agg #[.bool a,.slice p n c,.slice q m d])) (((W.setCell ⟨B+1+1,0,none⟩ (.bool a)).setCell ⟨B+1+1,1,none⟩ (.slice p n c)).setCell ⟨B+1+1,2,none⟩ (.slice q m d)):=by
 obtain ⟨s',x,y,⟨u,v,he,hu,hv,hs⟩,h2,h3,h4,h5⟩:=hr
 cases he
 exact ⟨_,rfl,⟨_,_,_,⟨_,_,rfl,h.nat3 hB hu _ _ _ _ _ _ _,h.nat3 hB hv _ _ _ _ _ _ _,hs⟩,h2,h3,h4,h5⟩,(h.put3 hB _ _ _ _ _ _ _).below⟩
structure TwoH (B g:Nat) (s:Bool) (u1 v1:Value) (t:Bool) (u2 v2:Value) (x0 x1 x2:Value) (w0 W:World):Prop where
 two:Two B s u1 v1 t u2 v2 w0 W
 hg:g<w0.heap.size
 hb:w0.heap.size≤B
 h:W.heap[g]?=some (.cells #[x0,x1,x2] 98 (0,0))
section
variable {B g : Nat} {s : Bool} {u1 v1 : Value} {t : Bool} {u2 v2 : Value} {x0 x1 x2 : Value} {w0 W W' : World}
theorem TwoH.next (h:TwoH B g s u1 v1 t u2 v2 x0 x1 x2 w0 W) (hb:Be W W'):TwoH B g s u1 v1 t u2 v2 x0 x1 x2 w0 W' :=
 ⟨h.two.next hb,h.hg,h.hb,(hb.block _ (by have:=h.two.size;have:=h.hg;have:=h.hb;omega)).trans h.h⟩
theorem TwoH.drew (h:TwoH B g s u1 v1 t u2 v2 x0 x1 x2 w0 W):TwoH B g s u1 v1 t u2 v2 x0 x1 x2 w0 W.drew:=⟨h.two.drew,h.hg,h.hb,h.h⟩
theorem TwoH.below (h:TwoH B g s u1 v1 t u2 v2 x0 x1 x2 w0 W):Be w0 W:=h.two.below
theorem TwoH.put3 (h:TwoH B g s u1 v1 t u2 v2 x0 x1 x2 w0 W) (a:Bool) (p q:Oa) (n c m d:Nat):TwoH B g s u1 v1 t u2 v2 x0 x1 x2 w0 (((W.setCell ⟨B+1+1,0,none⟩ (.bool a)).setCell ⟨B+1+1,1,none⟩ (.slice p n c)).setCell ⟨B+1+1,2,none⟩ (.slice q m d)) :=
 have hne:g≠B+1+1:=by have:=h.hg;have:=h.hb;omega
 ⟨h.two.put3 h.hb _ _ _ _ _ _ _,h.hg,h.hb,((Below.heap_setCell _ _ _ _ hne).trans (Below.heap_setCell _ _ _ _ hne)).trans ((Below.heap_setCell _ _ _ _ hne).trans h.h)⟩
theorem TwoH.all (h:TwoH B g s u1 v1 t u2 v2 x0 x1 x2 w0 W):TwoH B g s u1 v1 t u2 v2 x0 x1 x2 w0 W∧W.cell? ⟨B,0,none⟩=some (.bool s)∧W.cell? ⟨B,1,none⟩=some u1∧W.cell? ⟨B,2,none⟩=some v1 ∧
  W.cell? ⟨B+1,0,none⟩=some (.bool t)∧W.cell? ⟨B+1,1,none⟩=some u2∧W.cell? ⟨B+1,2,none⟩=some v2∧W.cell? ⟨g,0,none⟩=some x0∧W.cell? ⟨g,1,none⟩=some x1∧W.cell? ⟨g,2,none⟩=some x2 :=
 ⟨h,zO h.two.x 0,zO h.two.x 1,zO h.two.x 2,zO h.two.y 0,zO h.two.y 1,zO h.two.y 2,zO h.h 0,zO h.h 1,zO h.h 2⟩
end
theorem yo2 (x y:Value) (a b:Rat) (g:Nat) (x0 x1 x2:Value) (w:World) (hb0:b≠0) (hx:jF w x a 20) (hy:jF w y b 20) (hg:g<w.heap.size) (hh:w.heap[g]?=some (.cells #[x0,x1,x2] 98 (0,0))) (hr:jF w (.agg #[x0,x1,x2]) jS 2) :
  Calls Tryz.prog 88 #[x,y,.pointer (some ⟨g,0,none⟩)] w (GF (GO a b) 164 w):=by
 obtain ⟨f1,hf1⟩:∃ f,Hid (f=a/b):=⟨_,yA rfl⟩
 obtain ⟨f2,hf2⟩:∃ f,Hid (f=f1+jS):=⟨_,yA rfl⟩
 obtain ⟨f3,hf3⟩:∃ f,Hid (f=yeU f2):=⟨_,yA rfl⟩
 obtain ⟨f4,hf4⟩:∃ f,Hid (f=f3*b):=⟨_,yA rfl⟩
 have he:GO a b=f4:=by rw [hf4.out,hf3.out,hf2.out,hf1.out];rfl
 rw [he]
 have hq1:Hid (∀ W,Be w W→Calls Tryz.prog 79 #[x,y] W (GF f1 40 W)):=yA fun W hW=>by
  rw [hf1.out];exact ysN x y a b 20 W (by omega) hb0 (hx.below hW) (hy.below hW)
 have hq2:Hid (∀ W u,Be w W→jF W u f1 40→Calls Tryz.prog 89 #[u,.agg #[x0,x1,x2]] W (GF f2 81 W)):=yA fun W u hW hu=>by
  rw [hf2.out];exact yyo u _ f1 jS 40 W (by omega) hu ((hr.below hW).more (by omega))
 have hq3:Hid (∀ W u,jF W u f2 81→Calls Tryz.prog 90 #[u] W (GF f3 82 W)):=yA fun W u hu=>by
  rw [hf3.out];exact yun u f2 81 W (by omega) hu
 have hq4:Hid (∀ W u,Be w W→jF W u f3 82→Calls Tryz.prog 91 #[u,y] W (GF f4 164 W)):=yA fun W u hW hu=>by
  rw [hf4.out];exact yyp u y f3 b 82 W (by omega) hu ((hy.below hW).more (by omega))
 obtain ⟨y0,e0,e1,e2,e3,e4,e5,he0⟩:=hr.agg
 cases he0
 obtain ⟨s,p1,n1,c1,p2,n2,c2,rfl⟩:=hx.agg
 obtain ⟨t,p3,n3,c3,p4,n4,c4,rfl⟩:=hy.agg
 have jC:TwoH w.heap.size g s (.slice p1 n1 c1) (.slice p2 n2 c2) t (.slice p3 n3 c3) (.slice p4 n4 c4) (.bool y0) (.slice e0 e1 e2) (.slice e3 e4 e5) w _ :=
  ⟨Two.start w s (.slice p1 n1 c1) (.slice p2 n2 c2) t (.slice p3 n3 c3) (.slice p4 n4 c4),hg,Nat.le_refl _,((Two.start w s (.slice p1 n1 c1) (.slice p2 n2 c2) t (.slice p3 n3 c3) (.slice p4 n4 c4)).below.block _ hg).trans hh⟩
 have Htwo:=yA jC
 obtain ⟨-,k0,k1,k2,k3,k4,k5,k6,k7,k8⟩:=jC.all
 clear jC hx hy hr hg hh he
 go_in
 go_wp2_with fail
 go_region_held3 (fun w'=>TwoH w.heap.size g s (.slice p1 n1 c1) (.slice p2 n2 c2) t (.slice p3 n3 c3) (.slice p4 n4 c4) (.bool y0) (.slice e0 e1 e2) (.slice e3 e4 e5) w w'∧w'.cell? ⟨w.heap.size,0,none⟩=some (.bool s)∧w'.cell? ⟨w.heap.size,1,none⟩=some (.slice p1 n1 c1)∧w'.cell? ⟨w.heap.size,2,none⟩=some (.slice p2 n2 c2)∧w'.cell? ⟨w.heap.size+1,0,none⟩=some (.bool t)∧w'.cell? ⟨w.heap.size+1,1,none⟩=some (.slice p3 n3 c3)∧w'.cell? ⟨w.heap.size+1,2,none⟩=some (.slice p4 n4 c4)∧w'.cell? ⟨g,0,none⟩=some (.bool y0)∧w'.cell? ⟨g,1,none⟩=some (.slice e0 e1 e2)∧w'.cell? ⟨g,2,none⟩=some (.slice e3 e4 e5))
  (first|exact TwoH.all (TwoH.drew Htwo.out)|exact TwoH.all Htwo.out|(go_split_ands;exact TwoH.all (TwoH.next (by assumption) hb1))|(go_split_ands;exact TwoH.all (TwoH.next (by assumption) hb2))|(go_split_ands;exact TwoH.all (TwoH.next (by assumption) hb3))|(go_split_ands;exact TwoH.all (TwoH.next (by assumption) hb4))|(go_split_ands;exact TwoH.all (TwoH.put3 (by assumption) _ _ _ _ _ _ _))|go_keep)
  (first|(go_at_call 79;go_split_ands;refine (hq1.out _ (TwoH.below (by assumption))).mono ?_;rintro e w1 ⟨z1,rfl,hz1,hb1⟩;obtain ⟨m0,m1,m2,m3,m4,m5,m6,rfl⟩:=hz1.agg)|(go_at_call 89;go_split_ands;refine (hq2.out _ _ (TwoH.below (by assumption)) hz1).mono ?_;rintro e w2 ⟨z2,rfl,hz2,hb2⟩;obtain ⟨a0,a1,a2,a3,a4,a5,a6,rfl⟩:=hz2.agg)|(go_at_call 90;go_split_ands;refine (hq3.out _ _ hz2).mono ?_;rintro e w3 ⟨z3,rfl,hz3,hb3⟩;obtain ⟨d0,d1,d2,d3,d4,d5,d6,rfl⟩:=hz3.agg)|(go_at_call 91;go_split_ands;refine (hq4.out _ _ (TwoH.below (by assumption)) hz3).mono ?_;rintro e w4 ⟨z4,rfl,hz4,hb4⟩;obtain ⟨r0,r1,r2,r3,r4,r5,r6,rfl⟩:=hz4.agg;have htw:=TwoH.next (by assumption) hb4;obtain ⟨j0,j1,j2,l0,l1,l2,g0,g1,g2⟩:=Two.slots htw.two))
 go_wp2_with fail
 have yD:=yA (htw.two.rfin nl hz4)
 refine bodyPost_ret (v:=.agg #[.bool r0,.slice r1 r2 r3,.slice r4 r5 r6]) (by simp [results,Tryz.results88,go_sem,l0,l1,l2]) rfl ?_
 exact yD.out
end
section
open Go.RowKit Big
open Go.Lib
theorem ymN (x y:ByteArray) (g gh:Nat) (p q r:Rat) (K:Nat) (w:World) (hg:g<w.heap.size) (hcl:w.cell? ⟨g,0,none⟩=some (.func (.func 88) #[] #[.pointer (some ⟨gh,0,none⟩)])) (hx:Hid (Calls Tryz.prog 130 #[.string x] w (yaQ (some p) w))) (hy:∀ W,Be w W→Hid (Calls Tryz.prog 130 #[.string y] W (yaQ (some q) W)))
  (hop:∀ W u v,Be w W→jF W u p 20→jF W v q 20→Hid (Calls Tryz.prog 88 #[u,v,.pointer (some ⟨gh,0,none⟩)] W (GF r K W)))
  (ht:∀ W z,Be w W→jF W z r K→Hid (Calls Tryz.prog 131 #[z] W (Rp (.string ⟨(txt r).toArray⟩) W))):Calls Tryz.prog 129 #[.string x,.string y,.pointer (some ⟨g,0,none⟩)] w (Rp (.string ⟨(txt r).toArray⟩) w):=by
 have Hcl:=yA hcl
 have Hg:=yA hg
 clear hcl hg
 go_in
 go_wp2_with fail
 refine hx.out.mono ?_
 rintro e w2 ⟨hb2,b1,p1,n1,c1,q1,m1,d1,rfl,hr1⟩
 have hbw:=yA (hb2.trans ((bea w2 (.cells #[.bool b1,.slice p1 n1 c1,.slice q1 m1 d1] 98)).mono hb2.size))
 have hR1:=yA ((hr1 _ rfl).below (bea w2 (.cells #[.bool b1,.slice p1 n1 c1,.slice q1 m1 d1] 98)))
 have hb1:=yA (zB w2 (.cells #[.bool b1,.slice p1 n1 c1,.slice q1 m1 d1] 98))
 have hy2:=hy _ hbw.out
 clear hb2 hy hr1
 go_wp2_with fail
 refine hy2.out.mono ?_
 rintro e w3 ⟨hb3,b',p',n',c',q',m',d',rfl,hr3⟩
 have yjB:=yA (tr hbw.out hb3)
 have yhZ:=yA (yjB.out.trans ((bea w3 (.cells #[.bool b',.slice p' n' c',.slice q' m' d'] 98)).mono yjB.out.size))
 have hA:=yA (bea w3 (.cells #[.bool b',.slice p' n' c',.slice q' m' d'] 98))
 have hR3:=yA ((hr3 _ rfl).below hA.out)
 have hR2:=yA ((hR1.out.below hb3).below hA.out)
 have yaV:=(tr hb3 hA.out).block w2.heap.size (by simp)
 have hbx:=yaV.trans hb1.out
 have e0:=zO hbx 0
 have e1:=zO hbx 1
 have e2:=zO hbx 2
 have hcl4:=(yhZ.out.cell (p:=⟨g,0,none⟩) Hg.out).trans Hcl.out
 have yr4:=hop _ _ _ yhZ.out hR2.out hR3.out
 clear hb3 hy2 hr3 yaV hbx hop
 go_wp2_with fail
 refine yr4.out.mono ?_
 rintro e w5 ⟨z,rfl,hz,hb5⟩
 have ynX:=yA (tr yhZ.out hb5)
 have ht5:=ht _ _ ynX.out hz
 clear hb5 hz ht yr4
 go_wp2_with fail
 refine ht5.out.mono ?_
 rintro e w6 ⟨rfl,hb6⟩
 have yjy:=yA (tr ynX.out hb6)
 clear hb6
 go_wp2
 go_ret
 exact ⟨rfl,yjy.out⟩
theorem ymO (c:Array Value) (w:World):Calls Tryz.prog 78 #[.func (.func 88) #[] c] w fun e w'=>e=.returned (.func (.func 129) #[] #[.pointer (some ⟨w.heap.size,0,none⟩)])∧w'=w.alloc (.cells #[.func (.func 88) #[] c] 94):=by
 go_in
 go_wp2
 go_ret
 exact ⟨rfl,rfl⟩
theorem yys (w:World):Calls Tryz.prog 87 #[.int .i64 2] w (GF 2 1 w):=by
 refine (ypO 2 w (by omega)).mono ?_
 rintro e w' ⟨z,rfl,hz,hb⟩
 have h1:2<yB^1:=by rw [Nat.pow_one,yN];omega
 refine ⟨z,rfl,⟨_,_,_,hz,?_,by omega,h1,by omega⟩,hb⟩
 rw [jX];unfold yM;simp;grind
theorem ypR:(1:Rat)/2=jS:=by unfold jS;rfl
theorem yo3 (x y:ByteArray) (a b:Rat) (gh:Nat) (x0 x1 x2:Value) (W:World) (htab:Tab W) (hb0:b≠0) (hx:num x.data.toList=some a) (hy:num y.data.toList=some b) (hg:gh<W.heap.size) (hh:W.heap[gh]?=some (.cells #[x0,x1,x2] 98 (0,0))) (hr:jF W (.agg #[x0,x1,x2]) jS 2) :
  Calls Tryz.prog 129 #[.string x,.string y,.pointer (some ⟨W.heap.size,0,none⟩)] (W.alloc (.cells #[.func (.func 88) #[] #[.pointer (some ⟨gh,0,none⟩)]] 94)) (Rp (.string ⟨(txt (GO a b)).toArray⟩) W):=by
 have hb:=bea W (.cells #[.func (.func 88) #[] #[.pointer (some ⟨gh,0,none⟩)]] 94)
 have ysn:=htab.below hb
 have hq:∀ (s:ByteArray) (q:Rat) (W':World),Tab W'→num s.data.toList=some q→Calls Tryz.prog 130 #[.string s] W' (yaQ (some q) W'):=fun s q W' ht h=>by
  have:=yeO s W' ht
  rwa [h] at this
 refine (ymN x y W.heap.size gh a b (GO a b) 164 _ (by simp) (zO (zB W _) 0) (yA (hq x a _ ysn hx)) (fun W' hW=>yA (hq y b _ (ysn.below hW) hy)) (fun W' u v hW hu hv=>yA ?_) (fun W' z hW hz=>yA (yuk z _ 164 W' (by omega) hz (ysn.below hW)))).mono ?_
 ·have hbW:=tr hb hW
  exact yo2 u v a b gh x0 x1 x2 W' hb0 hu hv (Nat.lt_of_lt_of_le hg hbW.size) ((hbW.block _ hg).trans hh) (hr.below hbW)
 ·rintro e w' ⟨he,hb2⟩
  exact ⟨he,tr hb hb2⟩
theorem yhQ (x y:ByteArray) (gh:Nat) (W:World) (htab:Tab W) (hx:num x.data.toList=none) :
  Calls Tryz.prog 129 #[.string x,.string y,.pointer (some ⟨W.heap.size,0,none⟩)] (W.alloc (.cells #[.func (.func 88) #[] #[.pointer (some ⟨gh,0,none⟩)]] 94)) (Rp (.string ⟨#[]⟩) W):=by
 have hb:=bea W (.cells #[.func (.func 88) #[] #[.pointer (some ⟨gh,0,none⟩)]] 94)
 have h:=ypP x _ (htab.below hb)
 have hr:yah x.data.toList=none:=by unfold num at hx;simpa using hx
 rw [hr] at h
 exact (ykq x y _ _ (yA h)).mono fun e w' h=>⟨h.1,tr hb h.2⟩
theorem yo4 (x y:ByteArray) (w:World) (hp:∀ W,Be w W→Hid (Calls Tryz.prog 86 #[.string y] W (Rp (.bool false) W))):Calls Tryz.prog 45 #[.string x,.string y] w (yas [] w):=by
 unfold yas
 have hp0:=hp w bR
 clear hp
 go_in
 go_wp2_with fail
 refine hp0.out.mono ?_
 rintro e w1 ⟨rfl,hb1⟩
 have Hb1:=yA hb1
 clear hb1
 go_wp2
 go_ret
 exact ⟨rfl,Hb1.out⟩
theorem yuo (W:World) (u v:Value) (hu:jF W u 1 1) (hv:jF W v 2 1):Calls Tryz.prog 79 #[u,v] W (GF jS 2 W):=by
 have h2:(2:Rat)≠0:=by
  have:=uR (b:=2) (by omega)
  exact this
 have h:=ysN u v 1 2 1 W (by omega) h2 hu hv
 rw [ypR] at h
 exact h
theorem yf5 (x y r:ByteArray) (w:World) (hp:Hid (Calls Tryz.prog 86 #[.string y] w (Rp (.bool true) w)))
  (hcl:Hid (∀ W gh x0 x1 x2 B,B=W.heap.size→Be w W→gh<W.heap.size→W.heap[gh]?=some (.cells #[x0,x1,x2] 98 (0,0))→jF W (.agg #[x0,x1,x2]) jS 2→Calls Tryz.prog 129 #[.string x,.string y,.pointer (some ⟨B,0,none⟩)] (W.alloc (.cells #[.func (.func 88) #[] #[.pointer (some ⟨gh,0,none⟩)]] 94)) (Rp (.string r) W))) :
  Calls Tryz.prog 45 #[.string x,.string y] w (Rp (.string r) w):=by
 have h1:Hid (∀ W,Calls Tryz.prog 87 #[.int .i64 1] W (GF 1 1 W)):=yA yyr
 have h2:Hid (∀ W,Calls Tryz.prog 87 #[.int .i64 2] W (GF 2 1 W)):=yA yys
 have hq:=yA yuo
 go_in
 go_wp2_with fail
 refine hp.out.mono ?_
 rintro e w1 ⟨rfl,hb1⟩
 have Hb1:=yA hb1
 clear hb1
 go_wp2_with fail
 refine (h1.out _).mono ?_
 rintro e w2 ⟨u,rfl,hu,hb2⟩
 have Hb2:=yA (tr Hb1.out hb2)
 have Hu:=yA hu
 obtain ⟨a0,a1,a2,a3,a4,a5,a6,rfl⟩:=hu.agg
 clear hb2 hu
 go_wp2_with fail
 refine (h2.out _).mono ?_
 rintro e w3 ⟨v,rfl,hv,hb3⟩
 have Hb3:=yA (tr Hb2.out hb3)
 have Hq:=yA (hq.out _ _ _ (Hu.out.below hb3) hv)
 obtain ⟨d0,d1,d2,d3,d4,d5,d6,rfl⟩:=hv.agg
 clear hb3 hv
 go_wp2_with fail
 refine Hq.out.mono ?_
 rintro e w4 ⟨z,rfl,hz,hb4⟩
 have Hb4:=yA (tr Hb3.out hb4)
 obtain ⟨m0,m1,m2,m3,m4,m5,m6,rfl⟩:=hz.agg
 have hA:=bea w4 (.cells #[.bool m0,.slice m1 m2 m3,.slice m4 m5 m6] 98)
 have Hc:=yA (hcl.out (w4.alloc (.cells #[.bool m0,.slice m1 m2 m3,.slice m4 m5 m6] 98)) w4.heap.size _ _ _ (w4.heap.size+1) (by simp) (tr Hb4.out hA) (by simp) (zB _ _) (hz.below hA))
 have Hb5:=yA (tr Hb4.out hA)
 clear hb4 hz hA
 go_wp2_with fail
 refine (ymO _ _).mono ?_
 rintro e w5 ⟨rfl,rfl⟩
 go_wp2_with fail
 refine Hc.out.mono ?_
 rintro e w6 ⟨rfl,hb6⟩
 have Hb6:=yA (tr Hb5.out hb6)
 clear hb6
 go_wp2
 go_ret
 exact ⟨rfl,Hb6.out⟩
theorem yjT (q:Rat):GK q=1↔0<q:=by
 rw [yeP]
 unfold ybO
 constructor
 ·intro h
  split at h
  ·omega
  ·split at h
   ·omega
   ·rename_i h1 h2;grind
 ·intro h
  rw [if_neg (by grind),if_neg (by grind)]
theorem yo5 (x y:ByteArray) (w:World) (htab:Tab w):Calls Tryz.prog 45 #[.string x,.string y] w (yas (uW x.data.toList y.data.toList) w):=by
 have hp:=fun W (hb:Be w W)=>ykr y W (htab.below hb)
 cases hpy:yrC y.data.toList with
 | false =>
  rw [hpy] at hp
  have e:uW x.data.toList y.data.toList=[]:=by
   unfold yrC at hpy
   unfold uW
   cases hx:num x.data.toList with
   | none=>rfl
   | some a =>
    cases hy:num y.data.toList with
    | none=>rfl
    | some b =>
     rw [hy] at hpy
     have h0:¬ GK b=1:=fun h=>by rw [yjT] at h;simp at hpy;grind
     simp only [h0,if_false]
  rw [e]
  exact yo4 x y w fun W hb=>yA (hp W hb)
 | true =>
  rw [hpy] at hp
  have hp0:=yA (hp w bR)
  unfold yrC at hpy
  cases hy:num y.data.toList with
  | none=>rw [hy] at hpy;cases hpy
  | some b =>
   rw [hy] at hpy
   have hb0:0<b:=by simpa using hpy
   unfold yas uW
   rw [hy]
   cases hx:num x.data.toList with
   | none=>exact yf5 x y _ w hp0 (yA fun W gh x0 x1 x2 B hB hb hg hh hr=>by rw [hB];exact yhQ x y gh W (htab.below hb) hx)
   | some a =>
    have h1:GK b=1:=(yjT b).2 hb0
    simp only [h1,if_true]
    exact yf5 x y _ w hp0 (yA fun W gh x0 x1 x2 B hB hb hg hh hr=>by rw [hB];exact yo3 x y a b gh x0 x1 x2 W (htab.below hb) (by grind) hx hy hg hh hr)
end
end Go.Proofs.YtgepehlpjpccaaaGreatDoor
