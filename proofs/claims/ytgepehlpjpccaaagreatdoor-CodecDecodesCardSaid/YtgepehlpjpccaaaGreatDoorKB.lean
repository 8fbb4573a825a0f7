/- Contracts. -/
import Derived.Test.YtgepehlpjpccaaaGreatDoorV02
set_option maxHeartbeats 6400000
set_option maxRecDepth 100000
namespace Go.Proofs.YtgepehlpjpccaaaGreatDoor
open Go.RowKit Big
def ybr (s:Bool) (a b:Nat) (t:Bool) (c d K:Nat) (w:World) (e:Ending) (w':World):Prop :=
 ∃ x r n m,e=.returned x∧vM w' x r n m∧Be w w'∧0<m∧yX r n m=yX s a b+yX t c d∧n<yB^(2*K+1)∧m<yB^(2*K+1)
structure Common (s:Bool) (a b:Nat) (t:Bool) (c d K A B M:Nat):Prop where
 pos:0<M
 eqA:yX s A M=yX s a b
 eqB:yX t B M=yX t c d
 ltA:A<yB^(2*K)
 ltB:B<yB^(2*K)
 ltM0:M<yB^(2*K)
theorem yq7 (K:Nat):yB^(2*K+1)=yB^(2*K)*yB:=Nat.pow_succ _ _
theorem Common.ltM {s:Bool} {a b:Nat} {t:Bool} {c d K A B M:Nat} (h:Common s a b t c d K A B M):M<yB^(2*K+1):=by
 have:=h.ltM0
 have h2:yB^(2*K)≤yB^(2*K+1):=Nat.pow_le_pow_right yU (by omega)
 omega
theorem Common.ltP {s:Bool} {a b:Nat} {t:Bool} {c d K A B M:Nat} (h:Common s a b t c d K A B M):A+B<yB^(2*K+1):=by
 have h1:=h.ltA
 have h2:=h.ltB
 have h3:yB^(2*K)*2≤yB^(2*K)*yB:=Nat.mul_le_mul_left _ (by rw [yS];omega)
 rw [yq7];omega
theorem Common.ltAm {s:Bool} {a b:Nat} {t:Bool} {c d K A B M:Nat} (h:Common s a b t c d K A B M):A-B<yB^(2*K+1):=by have:=h.ltP;omega
theorem Common.ltBm {s:Bool} {a b:Nat} {t:Bool} {c d K A B M:Nat} (h:Common s a b t c d K A B M):B-A<yB^(2*K+1):=by have:=h.ltP;omega
theorem Common.sumP {s:Bool} {a b:Nat} {t:Bool} {c d K A B M:Nat} (h:Common s a b t c d K A B M) (hst:s=t):yX s (A+B) M=yX s a b+yX t c d:=by
 subst hst;rw [yen,h.eqA,h.eqB]
theorem Common.sumA {s:Bool} {a b:Nat} {t:Bool} {c d K A B M:Nat} (h:Common s a b t c d K A B M) (hst:s≠t) (hlt:¬ A<B):yX s (A-B) M=yX s a b+yX t c d:=by
 rw [yaB hst (by omega),h.eqA,h.eqB]
theorem Common.sumB {s:Bool} {a b:Nat} {t:Bool} {c d K A B M:Nat} (h:Common s a b t c d K A B M) (hst:s≠t) (hlt:A<B):yX t (B-A) M=yX s a b+yX t c d:=by
 rw [yaB (Ne.symm hst) (by omega),h.eqA,h.eqB,Rat.add_comm]
theorem Common.same {s:Bool} {a b:Nat} {t:Bool} {c K:Nat} (ha:a<yB^K) (hb:b<yB^K) (hc:c<yB^K) (hb0:0<b):Common s a b t c b K a c b:=by
 have h2:yB^K≤yB^(2*K):=Nat.pow_le_pow_right yU (by omega)
 exact ⟨hb0,rfl,rfl,by omega,by omega,by omega⟩
theorem yhW (K:Nat):yB^(2*K)=yB^K*yB^K:=by rw [Nat.two_mul,Nat.pow_add]
theorem Common.made {s:Bool} {a b:Nat} {t:Bool} {c d K:Nat} (ha:a<yB^K) (hb:b<yB^K) (hc:c<yB^K) (hd:d<yB^K) (hb0:0<b) (hd0:0<d):Common s a b t c d K (a*d) (c*b) (b*d):=by
 refine ⟨Nat.mul_pos hb0 hd0,uA hb0 hd0,?_,?_,?_,?_⟩
 ·rw [Nat.mul_comm b d];exact uA hd0 hb0
 ·rw [yhW];exact Nat.mul_lt_mul'' ha hd
 ·rw [yhW];exact Nat.mul_lt_mul'' hc hb
 ·rw [yhW];exact Nat.mul_lt_mul'' hb hd
theorem ytg (x y:Value) (s t:Bool) (a b c d K:Nat) (w:World) (hK:2*K+1≤1073741824) (ha:a<yB^K) (hb:b<yB^K) (hc:c<yB^K) (hd:d<yB^K) (hb0:0<b) (hd0:0<d) (hx:vM w x s a b) (hy:vM w y t c d) :
  Calls Tryz.prog 89 #[x,y] w (ybr s a b t c d K w):=by
 obtain ⟨u1,v1,rfl,hu1,hv1,hs1⟩:=hx
 obtain ⟨u2,v2,rfl,hu2,hv2,hs2⟩:=hy
 obtain ⟨p1,n1,k1,rfl⟩:=hu1.slice
 obtain ⟨p2,n2,k2,rfl⟩:=hv1.slice
 obtain ⟨p3,n3,k3,rfl⟩:=hu2.slice
 obtain ⟨p4,n4,k4,rfl⟩:=hv2.slice
 have uV:=Two.start w s (.slice p1 n1 k1) (.slice p2 n2 k2) t (.slice p3 n3 k3) (.slice p4 n4 k4)
 obtain ⟨w0,hw0⟩:∃ w0,w0=(((w.alloc (.cells #[.bool s,(.slice p1 n1 k1),(.slice p2 n2 k2)] 98)).alloc (.cells #[.bool t,(.slice p3 n3 k3),(.slice p4 n4 k4)] 98)).alloc (.cells #[.bool false,.slice none 0 0,.slice none 0 0] 98)):=⟨_,rfl⟩
 rw [← hw0] at uV
 have Htwo:=yA uV
 obtain ⟨-,c0,c1,c2,c3,c4,c5⟩:=uV.all
 have HU1:=yA hu1
 have HV1:=yA hv1
 have HU2:=yA hu2
 have HV2:=yA hv2
 have Hw0:=yA hw0
 have htB:=yA Htwo.out.below
 clear hu1 hv1 hu2 hv2 hs1 hs2 uV hw0
 go_in
 go_wp2_with fail
 rw [← Hw0.out]
 go_quiet (fail)
 go_wp2_with fail
 refine (yaQ (.slice p2 n2 k2) (.slice p4 n4 k4) b d K _ (by unfold yK;omega) hb hd ((HV1.out.below htB.out).below (yG _ _ _)) ((HV2.out.below htB.out).below (yG _ _ _))).mono ?_
 rintro e w1 ⟨rfl,k,rfl⟩
 obtain ⟨W,hW⟩:∃ W,W=(w0.drewN nq).drewN k:=⟨_,rfl⟩
 have htw:Hid (Two w.heap.size s (.slice p1 n1 k1) (.slice p2 n2 k2) t (.slice p3 n3 k3) (.slice p4 n4 k4) w W):=yA (by rw [hW];exact (Htwo.out.next (yG _ _ _)).next (yG _ _ _))
 rw [← hW]
 have HUW:=yA (show yI W (.slice p1 n1 k1) a by rw [hW];exact ((HU1.out.below htB.out).drewN _).drewN _)
 have HVW:=yA (show yI W (.slice p2 n2 k2) b by rw [hW];exact ((HV1.out.below htB.out).drewN _).drewN _)
 have HUW2:=yA (show yI W (.slice p3 n3 k3) c by rw [hW];exact ((HU2.out.below htB.out).drewN _).drewN _)
 have HVW2:=yA (show yI W (.slice p4 n4 k4) d by rw [hW];exact ((HV2.out.below htB.out).drewN _).drewN _)
 clear hW c0 c1 c2 c3 c4 c5
 obtain ⟨-,c0,c1,c2,c3,c4,c5⟩:=htw.out.all
 by_cases hbd:b=d
 ·subst hbd
  have hz:jH b b=0:=by simp [jH]
  rw [hz]
  have hF:Hid (Common s a b t c b K a c b):=yA (Common.same ha hb hc hb0)
  obtain ⟨A,hAq⟩:∃ A,A=a:=⟨_,rfl⟩
  obtain ⟨B,hBq⟩:∃ B,B=c:=⟨_,rfl⟩
  obtain ⟨M,hMq⟩:∃ M,M=b:=⟨_,rfl⟩
  have hA:Hid (yI W (.slice p1 n1 k1) A):=yA (by rw [hAq];exact HUW.out)
  have hB:Hid (yI W (.slice p3 n3 k3) B):=yA (by rw [hBq];exact HUW2.out)
  have hM:Hid (yI W (.slice p2 n2 k2) M):=yA (by rw [hMq];exact HVW.out)
  have hF:Hid (Common s a b t c b K A B M):=yA (by rw [hAq,hBq,hMq];exact hF.out)
  clear hAq hBq hMq hz
  by_cases hst:s=t
  ·subst hst
   have hst':(s==s)=true:=by simp
   go_wp2_with fail
   have hop:Hid (∀ W',Be W W'→Calls Tryz.prog 138 #[.slice p1 n1 k1,.slice p3 n3 k3] W' (jB (A+B) W')):=yA fun W' h=>yd0 _ _ _ _ (2*K) W' (by unfold yK;omega) hF.out.ltA hF.out.ltB (hA.out.below h) (hB.out.below h)
   obtain ⟨-,c0,c1,c2,c3,c4,c5⟩:=htw.out.all
   go_region_held3 (fun w'=>Two w.heap.size s (.slice p1 n1 k1) (.slice p2 n2 k2) s (.slice p3 n3 k3) (.slice p4 n4 k4) w w'∧w'.cell? ⟨w.heap.size,0,none⟩=some (.bool s)∧w'.cell? ⟨w.heap.size,1,none⟩=some (.slice p1 n1 k1)∧w'.cell? ⟨w.heap.size,2,none⟩=some (.slice p2 n2 k2)∧w'.cell? ⟨w.heap.size+1,0,none⟩=some (.bool s)∧w'.cell? ⟨w.heap.size+1,1,none⟩=some (.slice p3 n3 k3)∧w'.cell? ⟨w.heap.size+1,2,none⟩=some (.slice p4 n4 k4))
    (first|exact Two.all (Two.drew htw.out)|exact Two.all htw.out|(go_split_ands;exact Two.all (Two.next (by assumption) hb1))|(go_split_ands;exact Two.all (Two.next (by assumption) hb3))|(go_split_ands;exact Two.all (Two.put3 (by assumption) nl _ _ _ _ _ _ _))|go_keep)
    (first|(go_at_call 138;go_split_ands;refine (hop.out _ (Below.drew bR)).mono ?_;rintro e w1 ⟨vt,rfl,hvt,hb1⟩;obtain ⟨pt,nt,ct,rfl⟩:=hvt.slice)|(go_at_call 132;go_split_ands;refine (uZ _ _ _ _ _ _ hvt ((hM.out.below (Below.drew bR)).below hb1)).mono ?_;rintro e w3 ⟨rfl,hb3⟩;have htw:=Two.next (by assumption) hb3;obtain ⟨z0,z1,z2,l0,l1,l2,f0,f1,f2⟩:=Two.slots htw))
   go_wp2_with fail
   have q1:=htw.nat3 nl (hvt.below hb3) (s&&!((A+B)==0)) pt p2 nt ct n2 k2
   have q2:=htw.nat3 nl (((hM.out.below (Below.drew bR)).below hb1).below hb3) (s&&!((A+B)==0)) pt p2 nt ct n2 k2
   have q3:=(htw.put3 nl (s&&!((A+B)==0)) pt p2 nt ct n2 k2).below
   have yF:Hid (∀ W',W'=(((w3.setCell ⟨w.heap.size+1+1,0,none⟩ (.bool (s&&!((A+B)==0)))).setCell ⟨w.heap.size+1+1,1,none⟩ (.slice pt nt ct)).setCell ⟨w.heap.size+1+1,2,none⟩ (.slice p2 n2 k2))→ybr s a b s c b K w (.returned (.agg #[.bool (s&&!((A+B)==0)),.slice pt nt ct,.slice p2 n2 k2])) W'):=yA (by
    rintro W' rfl
    refine ⟨_,_,_,_,rfl,⟨_,_,rfl,q1,q2,by intro h;simp at h;omega⟩,q3,hF.out.pos,?_,hF.out.ltP,hF.out.ltM⟩
    rw [uD]
    exact hF.out.sumP rfl)
   refine bodyPost_ret (v:=.agg #[.bool (s&&!((A+B)==0)),.slice pt nt ct,.slice p2 n2 k2]) (by simp [results,Tryz.results89,go_sem,l0,l1,l2]) rfl ?_
   exact yF.out _ rfl
  ·have hst':(s==t)=false:=by simpa using hst
   have hcm:Hid (Calls Tryz.prog 137 #[.slice p1 n1 k1,.slice p3 n3 k3] W (GN A B W)):=yA (yaQ _ _ _ _ (2*K) _ (by unfold yK;omega) hF.out.ltA hF.out.ltB hA.out hB.out)
   go_wp2_with fail
   refine hcm.out.mono ?_
   rintro e w5 ⟨rfl,k5,rfl⟩
   have ygA:Hid (Two w.heap.size s (.slice p1 n1 k1) (.slice p2 n2 k2) t (.slice p3 n3 k3) (.slice p4 n4 k4) w (W.drewN k5)):=yA (htw.out.next (yG _ _ _))
   have hMd:Hid (yI (W.drewN k5) (.slice p2 n2 k2) M):=yA (hM.out.drewN _)
   by_cases hlt:A<B
   ·have hz:jH A B=-1:=yh1 hlt
    rw [hz]
    have hlt':=yA hlt
    clear hlt hz
    clear c0 c1 c2 c3 c4 c5
    have hM0:=hM
    have yuG:=htw
    clear hM htw
    have hM:=hMd
    have htw:=ygA
    clear hMd ygA
    obtain ⟨-,c0,c1,c2,c3,c4,c5⟩:=htw.out.all
    go_wp2_with fail
    have hop:Hid (∀ W',Below (W.drewN k5).heap.size (W.drewN k5) W'→Calls Tryz.prog 139 #[.slice p3 n3 k3,.slice p1 n1 k1] W' (jB (B-A) W')):=yA fun W' h=>ydf _ _ _ _ (2*K) W' (by unfold yK;omega) hF.out.ltB (by have:=hlt'.out;omega) ((hB.out.drewN k5).below h) ((hA.out.drewN k5).below h)
    obtain ⟨-,c0,c1,c2,c3,c4,c5⟩:=htw.out.all
    go_region_held3 (fun w'=>Two w.heap.size s (.slice p1 n1 k1) (.slice p2 n2 k2) t (.slice p3 n3 k3) (.slice p4 n4 k4) w w'∧w'.cell? ⟨w.heap.size,0,none⟩=some (.bool s)∧w'.cell? ⟨w.heap.size,1,none⟩=some (.slice p1 n1 k1)∧w'.cell? ⟨w.heap.size,2,none⟩=some (.slice p2 n2 k2)∧w'.cell? ⟨w.heap.size+1,0,none⟩=some (.bool t)∧w'.cell? ⟨w.heap.size+1,1,none⟩=some (.slice p3 n3 k3)∧w'.cell? ⟨w.heap.size+1,2,none⟩=some (.slice p4 n4 k4))
     (first|exact Two.all (Two.drew htw.out)|exact Two.all htw.out|(go_split_ands;exact Two.all (Two.next (by assumption) hb1))|(go_split_ands;exact Two.all (Two.next (by assumption) hb3))|(go_split_ands;exact Two.all (Two.put3 (by assumption) nl _ _ _ _ _ _ _))|go_keep)
     (first|(go_at_call 139;go_split_ands;refine (hop.out _ (Below.drew bR)).mono ?_;rintro e w1 ⟨vt,rfl,hvt,hb1⟩;obtain ⟨pt,nt,ct,rfl⟩:=hvt.slice)|(go_at_call 132;go_split_ands;refine (uZ _ _ _ _ _ _ hvt ((hM.out.below (Below.drew bR)).below hb1)).mono ?_;rintro e w3 ⟨rfl,hb3⟩;have htw:=Two.next (by assumption) hb3;obtain ⟨z0,z1,z2,l0,l1,l2,f0,f1,f2⟩:=Two.slots htw))
    go_wp2_with fail
    have q1:=htw.nat3 nl (hvt.below hb3) (t&&!((B-A)==0)) pt p2 nt ct n2 k2
    have q2:=htw.nat3 nl (((hM.out.below (Below.drew bR)).below hb1).below hb3) (t&&!((B-A)==0)) pt p2 nt ct n2 k2
    have q3:=(htw.put3 nl (t&&!((B-A)==0)) pt p2 nt ct n2 k2).below
    have yF:Hid (∀ W',W'=(((w3.setCell ⟨w.heap.size+1+1,0,none⟩ (.bool (t&&!((B-A)==0)))).setCell ⟨w.heap.size+1+1,1,none⟩ (.slice pt nt ct)).setCell ⟨w.heap.size+1+1,2,none⟩ (.slice p2 n2 k2))→ybr s a b t c b K w (.returned (.agg #[.bool (t&&!((B-A)==0)),.slice pt nt ct,.slice p2 n2 k2])) W'):=yA (by
     rintro W' rfl
     refine ⟨_,_,_,_,rfl,⟨_,_,rfl,q1,q2,by intro h;simp at h;omega⟩,q3,hF.out.pos,?_,hF.out.ltBm,hF.out.ltM⟩
     rw [uD]
     exact hF.out.sumB hst hlt'.out)
    refine bodyPost_ret (v:=.agg #[.bool (t&&!((B-A)==0)),.slice pt nt ct,.slice p2 n2 k2]) (by simp [results,Tryz.results89,go_sem,l0,l1,l2]) rfl ?_
    exact yF.out _ rfl
   ·obtain ⟨z,hz,hz0⟩:∃ z:Int,jH A B=z∧(0:Int)≤z:=⟨_,rfl,by rcases ye8 hlt with h|h<;>rw [h]<;>omega⟩
    rw [hz]
    have hlt':=yA hlt
    clear hlt hz
    clear c0 c1 c2 c3 c4 c5
    have hM0:=hM
    have yuG:=htw
    clear hM htw
    have hM:=hMd
    have htw:=ygA
    clear hMd ygA
    obtain ⟨-,c0,c1,c2,c3,c4,c5⟩:=htw.out.all
    go_wp2_with fail
    have hop:Hid (∀ W',Below (W.drewN k5).heap.size (W.drewN k5) W'→Calls Tryz.prog 139 #[.slice p1 n1 k1,.slice p3 n3 k3] W' (jB (A-B) W')):=yA fun W' h=>ydf _ _ _ _ (2*K) W' (by unfold yK;omega) hF.out.ltA (by have:=hlt'.out;omega) ((hA.out.drewN k5).below h) ((hB.out.drewN k5).below h)
    obtain ⟨-,c0,c1,c2,c3,c4,c5⟩:=htw.out.all
    go_region_held3 (fun w'=>Two w.heap.size s (.slice p1 n1 k1) (.slice p2 n2 k2) t (.slice p3 n3 k3) (.slice p4 n4 k4) w w'∧w'.cell? ⟨w.heap.size,0,none⟩=some (.bool s)∧w'.cell? ⟨w.heap.size,1,none⟩=some (.slice p1 n1 k1)∧w'.cell? ⟨w.heap.size,2,none⟩=some (.slice p2 n2 k2)∧w'.cell? ⟨w.heap.size+1,0,none⟩=some (.bool t)∧w'.cell? ⟨w.heap.size+1,1,none⟩=some (.slice p3 n3 k3)∧w'.cell? ⟨w.heap.size+1,2,none⟩=some (.slice p4 n4 k4))
     (first|exact Two.all (Two.drew htw.out)|exact Two.all htw.out|(go_split_ands;exact Two.all (Two.next (by assumption) hb1))|(go_split_ands;exact Two.all (Two.next (by assumption) hb3))|(go_split_ands;exact Two.all (Two.put3 (by assumption) nl _ _ _ _ _ _ _))|go_keep)
     (first|(go_at_call 139;go_split_ands;refine (hop.out _ (Below.drew bR)).mono ?_;rintro e w1 ⟨vt,rfl,hvt,hb1⟩;obtain ⟨pt,nt,ct,rfl⟩:=hvt.slice)|(go_at_call 132;go_split_ands;refine (uZ _ _ _ _ _ _ hvt ((hM.out.below (Below.drew bR)).below hb1)).mono ?_;rintro e w3 ⟨rfl,hb3⟩;have htw:=Two.next (by assumption) hb3;obtain ⟨z0,z1,z2,l0,l1,l2,f0,f1,f2⟩:=Two.slots htw))
    go_wp2_with fail
    have q1:=htw.nat3 nl (hvt.below hb3) (s&&!((A-B)==0)) pt p2 nt ct n2 k2
    have q2:=htw.nat3 nl (((hM.out.below (Below.drew bR)).below hb1).below hb3) (s&&!((A-B)==0)) pt p2 nt ct n2 k2
    have q3:=(htw.put3 nl (s&&!((A-B)==0)) pt p2 nt ct n2 k2).below
    have yF:Hid (∀ W',W'=(((w3.setCell ⟨w.heap.size+1+1,0,none⟩ (.bool (s&&!((A-B)==0)))).setCell ⟨w.heap.size+1+1,1,none⟩ (.slice pt nt ct)).setCell ⟨w.heap.size+1+1,2,none⟩ (.slice p2 n2 k2))→ybr s a b t c b K w (.returned (.agg #[.bool (s&&!((A-B)==0)),.slice pt nt ct,.slice p2 n2 k2])) W'):=yA (by
     rintro W' rfl
     refine ⟨_,_,_,_,rfl,⟨_,_,rfl,q1,q2,by intro h;simp at h;omega⟩,q3,hF.out.pos,?_,hF.out.ltAm,hF.out.ltM⟩
     rw [uD]
     exact hF.out.sumA hst hlt'.out)
    refine bodyPost_ret (v:=.agg #[.bool (s&&!((A-B)==0)),.slice pt nt ct,.slice p2 n2 k2]) (by simp [results,Tryz.results89,go_sem,l0,l1,l2]) rfl ?_
    exact yF.out _ rfl
 ·have hz:(jH b d != 0)=true:=by
   rw [bne_iff_ne];unfold jH
   split
   ·omega
   ·split<;>omega
  have hF:Hid (Common s a b t c d K (a*d) (c*b) (b*d)):=yA (Common.made ha hb hc hd hb0 hd0)
  have hm1:Hid (Calls Tryz.prog 133 #[(.slice p1 n1 k1),(.slice p4 n4 k4)] W (jB (a*d) W)):=yA (yb3 _ _ _ _ K W (by omega) ha hd HUW.out HVW2.out)
  go_wp2_with fail
  refine hm1.out.mono ?_
  rintro e Wa ⟨va,rfl,hva,hba⟩
  have yuH:=htw.out.next hba
  obtain ⟨-,c0,c1,c2,c3,c4,c5⟩:=yuH.all
  have hm2:Hid (Calls Tryz.prog 133 #[(.slice p3 n3 k3),(.slice p2 n2 k2)] Wa (jB (c*b) Wa)):=yA (yb3 _ _ _ _ K Wa (by omega) hc hb (HUW2.out.below hba) (HVW.out.below hba))
  have Htwa:=yA yuH
  clear yuH
  go_wp2_with fail
  refine hm2.out.mono ?_
  rintro e Wb ⟨vb,rfl,hvb,hbb⟩
  have yuI:=Htwa.out.next hbb
  obtain ⟨-,c0,c1,c2,c3,c4,c5⟩:=yuI.all
  have hab:=tr hba hbb
  have hm3:Hid (Calls Tryz.prog 133 #[(.slice p2 n2 k2),(.slice p4 n4 k4)] Wb (jB (b*d) Wb)):=yA (yb3 _ _ _ _ K Wb (by omega) hb hd (HVW.out.below hab) (HVW2.out.below hab))
  have Htwb:=yA yuI
  clear yuI
  go_wp2_with fail
  refine hm3.out.mono ?_
  rintro e Wc ⟨vc,rfl,hvc,hbc⟩
  have htw:Hid (Two w.heap.size s (.slice p1 n1 k1) (.slice p2 n2 k2) t (.slice p3 n3 k3) (.slice p4 n4 k4) w Wc):=yA (Htwb.out.next hbc)
  obtain ⟨-,c0,c1,c2,c3,c4,c5⟩:=htw.out.all
  obtain ⟨A,hAq⟩:∃ A,A=a*d:=⟨_,rfl⟩
  obtain ⟨B,hBq⟩:∃ B,B=c*b:=⟨_,rfl⟩
  obtain ⟨M,hMq⟩:∃ M,M=b*d:=⟨_,rfl⟩
  rw [← hAq,← hBq,← hMq] at hF
  have hA:Hid (yI Wc va A):=yA (by rw [hAq];exact (hva.below hbb).below hbc)
  have hB:Hid (yI Wc vb B):=yA (by rw [hBq];exact hvb.below hbc)
  have hM:Hid (yI Wc vc M):=yA (by rw [hMq];exact hvc)
  clear hAq hBq hMq hva hvb hvc hz
  obtain ⟨pa,na,ca,rfl⟩:=hA.out.slice
  obtain ⟨pb,nb,cb,rfl⟩:=hB.out.slice
  obtain ⟨pm,nm,cm,rfl⟩:=hM.out.slice
  by_cases hst:s=t
  ·subst hst
   have hst':(s==s)=true:=by simp
   go_wp2_with fail
   have hop:Hid (∀ W',Be Wc W'→Calls Tryz.prog 138 #[.slice pa na ca,.slice pb nb cb] W' (jB (A+B) W')):=yA fun W' h=>yd0 _ _ _ _ (2*K) W' (by unfold yK;omega) hF.out.ltA hF.out.ltB (hA.out.below h) (hB.out.below h)
   obtain ⟨-,c0,c1,c2,c3,c4,c5⟩:=htw.out.all
   go_region_held3 (fun w'=>Two w.heap.size s (.slice p1 n1 k1) (.slice p2 n2 k2) s (.slice p3 n3 k3) (.slice p4 n4 k4) w w'∧w'.cell? ⟨w.heap.size,0,none⟩=some (.bool s)∧w'.cell? ⟨w.heap.size,1,none⟩=some (.slice p1 n1 k1)∧w'.cell? ⟨w.heap.size,2,none⟩=some (.slice p2 n2 k2)∧w'.cell? ⟨w.heap.size+1,0,none⟩=some (.bool s)∧w'.cell? ⟨w.heap.size+1,1,none⟩=some (.slice p3 n3 k3)∧w'.cell? ⟨w.heap.size+1,2,none⟩=some (.slice p4 n4 k4))
    (first|exact Two.all (Two.drew htw.out)|exact Two.all htw.out|(go_split_ands;exact Two.all (Two.next (by assumption) hb1))|(go_split_ands;exact Two.all (Two.next (by assumption) hb3))|(go_split_ands;exact Two.all (Two.put3 (by assumption) nl _ _ _ _ _ _ _))|go_keep)
    (first|(go_at_call 138;go_split_ands;refine (hop.out _ (Below.drew bR)).mono ?_;rintro e w1 ⟨vt,rfl,hvt,hb1⟩;obtain ⟨pt,nt,ct,rfl⟩:=hvt.slice)|(go_at_call 132;go_split_ands;refine (uZ _ _ _ _ _ _ hvt ((hM.out.below (Below.drew bR)).below hb1)).mono ?_;rintro e w3 ⟨rfl,hb3⟩;have htw:=Two.next (by assumption) hb3;obtain ⟨z0,z1,z2,l0,l1,l2,f0,f1,f2⟩:=Two.slots htw))
   go_wp2_with fail
   have q1:=htw.nat3 nl (hvt.below hb3) (s&&!((A+B)==0)) pt pm nt ct nm cm
   have q2:=htw.nat3 nl (((hM.out.below (Below.drew bR)).below hb1).below hb3) (s&&!((A+B)==0)) pt pm nt ct nm cm
   have q3:=(htw.put3 nl (s&&!((A+B)==0)) pt pm nt ct nm cm).below
   have yF:Hid (∀ W',W'=(((w3.setCell ⟨w.heap.size+1+1,0,none⟩ (.bool (s&&!((A+B)==0)))).setCell ⟨w.heap.size+1+1,1,none⟩ (.slice pt nt ct)).setCell ⟨w.heap.size+1+1,2,none⟩ (.slice pm nm cm))→ybr s a b s c d K w (.returned (.agg #[.bool (s&&!((A+B)==0)),.slice pt nt ct,.slice pm nm cm])) W'):=yA (by
    rintro W' rfl
    refine ⟨_,_,_,_,rfl,⟨_,_,rfl,q1,q2,by intro h;simp at h;omega⟩,q3,hF.out.pos,?_,hF.out.ltP,hF.out.ltM⟩
    rw [uD]
    exact hF.out.sumP rfl)
   refine bodyPost_ret (v:=.agg #[.bool (s&&!((A+B)==0)),.slice pt nt ct,.slice pm nm cm]) (by simp [results,Tryz.results89,go_sem,l0,l1,l2]) rfl ?_
   exact yF.out _ rfl
  ·have hst':(s==t)=false:=by simpa using hst
   have hcm:Hid (Calls Tryz.prog 137 #[.slice pa na ca,.slice pb nb cb] Wc (GN A B Wc)):=yA (yaQ _ _ _ _ (2*K) _ (by unfold yK;omega) hF.out.ltA hF.out.ltB hA.out hB.out)
   go_wp2_with fail
   refine hcm.out.mono ?_
   rintro e w5 ⟨rfl,k5,rfl⟩
   have ygA:Hid (Two w.heap.size s (.slice p1 n1 k1) (.slice p2 n2 k2) t (.slice p3 n3 k3) (.slice p4 n4 k4) w (Wc.drewN k5)):=yA (htw.out.next (yG _ _ _))
   have hMd:Hid (yI (Wc.drewN k5) (.slice pm nm cm) M):=yA (hM.out.drewN _)
   by_cases hlt:A<B
   ·have hz:jH A B=-1:=yh1 hlt
    rw [hz]
    have hlt':=yA hlt
    clear hlt hz
    clear c0 c1 c2 c3 c4 c5
    have hM0:=hM
    have yuG:=htw
    clear hM htw
    have hM:=hMd
    have htw:=ygA
    clear hMd ygA
    obtain ⟨-,c0,c1,c2,c3,c4,c5⟩:=htw.out.all
    go_wp2_with fail
    have hop:Hid (∀ W',Below (Wc.drewN k5).heap.size (Wc.drewN k5) W'→Calls Tryz.prog 139 #[.slice pb nb cb,.slice pa na ca] W' (jB (B-A) W')):=yA fun W' h=>ydf _ _ _ _ (2*K) W' (by unfold yK;omega) hF.out.ltB (by have:=hlt'.out;omega) ((hB.out.drewN k5).below h) ((hA.out.drewN k5).below h)
    obtain ⟨-,c0,c1,c2,c3,c4,c5⟩:=htw.out.all
    go_region_held3 (fun w'=>Two w.heap.size s (.slice p1 n1 k1) (.slice p2 n2 k2) t (.slice p3 n3 k3) (.slice p4 n4 k4) w w'∧w'.cell? ⟨w.heap.size,0,none⟩=some (.bool s)∧w'.cell? ⟨w.heap.size,1,none⟩=some (.slice p1 n1 k1)∧w'.cell? ⟨w.heap.size,2,none⟩=some (.slice p2 n2 k2)∧w'.cell? ⟨w.heap.size+1,0,none⟩=some (.bool t)∧w'.cell? ⟨w.heap.size+1,1,none⟩=some (.slice p3 n3 k3)∧w'.cell? ⟨w.heap.size+1,2,none⟩=some (.slice p4 n4 k4))
     (first|exact Two.all (Two.drew htw.out)|exact Two.all htw.out|(go_split_ands;exact Two.all (Two.next (by assumption) hb1))|(go_split_ands;exact Two.all (Two.next (by assumption) hb3))|(go_split_ands;exact Two.all (Two.put3 (by assumption) nl _ _ _ _ _ _ _))|go_keep)
     (first|(go_at_call 139;go_split_ands;refine (hop.out _ (Below.drew bR)).mono ?_;rintro e w1 ⟨vt,rfl,hvt,hb1⟩;obtain ⟨pt,nt,ct,rfl⟩:=hvt.slice)|(go_at_call 132;go_split_ands;refine (uZ _ _ _ _ _ _ hvt ((hM.out.below (Below.drew bR)).below hb1)).mono ?_;rintro e w3 ⟨rfl,hb3⟩;have htw:=Two.next (by assumption) hb3;obtain ⟨z0,z1,z2,l0,l1,l2,f0,f1,f2⟩:=Two.slots htw))
    go_wp2_with fail
    have q1:=htw.nat3 nl (hvt.below hb3) (t&&!((B-A)==0)) pt pm nt ct nm cm
    have q2:=htw.nat3 nl (((hM.out.below (Below.drew bR)).below hb1).below hb3) (t&&!((B-A)==0)) pt pm nt ct nm cm
    have q3:=(htw.put3 nl (t&&!((B-A)==0)) pt pm nt ct nm cm).below
    have yF:Hid (∀ W',W'=(((w3.setCell ⟨w.heap.size+1+1,0,none⟩ (.bool (t&&!((B-A)==0)))).setCell ⟨w.heap.size+1+1,1,none⟩ (.slice pt nt ct)).setCell ⟨w.heap.size+1+1,2,none⟩ (.slice pm nm cm))→ybr s a b t c d K w (.returned (.agg #[.bool (t&&!((B-A)==0)),.slice pt nt ct,.slice pm nm cm])) W'):=yA (by
     rintro W' rfl
     refine ⟨_,_,_,_,rfl,⟨_,_,rfl,q1,q2,by intro h;simp at h;omega⟩,q3,hF.out.pos,?_,hF.out.ltBm,hF.out.ltM⟩
     rw [uD]
     exact hF.out.sumB hst hlt'.out)
    refine bodyPost_ret (v:=.agg #[.bool (t&&!((B-A)==0)),.slice pt nt ct,.slice pm nm cm]) (by simp [results,Tryz.results89,go_sem,l0,l1,l2]) rfl ?_
    exact yF.out _ rfl
   ·obtain ⟨z,hz,hz0⟩:∃ z:Int,jH A B=z∧(0:Int)≤z:=⟨_,rfl,by rcases ye8 hlt with h|h<;>rw [h]<;>omega⟩
    rw [hz]
    have hlt':=yA hlt
    clear hlt hz
    clear c0 c1 c2 c3 c4 c5
    have hM0:=hM
    have yuG:=htw
    clear hM htw
    have hM:=hMd
    have htw:=ygA
    clear hMd ygA
    obtain ⟨-,c0,c1,c2,c3,c4,c5⟩:=htw.out.all
    go_wp2_with fail
    have hop:Hid (∀ W',Below (Wc.drewN k5).heap.size (Wc.drewN k5) W'→Calls Tryz.prog 139 #[.slice pa na ca,.slice pb nb cb] W' (jB (A-B) W')):=yA fun W' h=>ydf _ _ _ _ (2*K) W' (by unfold yK;omega) hF.out.ltA (by have:=hlt'.out;omega) ((hA.out.drewN k5).below h) ((hB.out.drewN k5).below h)
    obtain ⟨-,c0,c1,c2,c3,c4,c5⟩:=htw.out.all
    go_region_held3 (fun w'=>Two w.heap.size s (.slice p1 n1 k1) (.slice p2 n2 k2) t (.slice p3 n3 k3) (.slice p4 n4 k4) w w'∧w'.cell? ⟨w.heap.size,0,none⟩=some (.bool s)∧w'.cell? ⟨w.heap.size,1,none⟩=some (.slice p1 n1 k1)∧w'.cell? ⟨w.heap.size,2,none⟩=some (.slice p2 n2 k2)∧w'.cell? ⟨w.heap.size+1,0,none⟩=some (.bool t)∧w'.cell? ⟨w.heap.size+1,1,none⟩=some (.slice p3 n3 k3)∧w'.cell? ⟨w.heap.size+1,2,none⟩=some (.slice p4 n4 k4))
     (first|exact Two.all (Two.drew htw.out)|exact Two.all htw.out|(go_split_ands;exact Two.all (Two.next (by assumption) hb1))|(go_split_ands;exact Two.all (Two.next (by assumption) hb3))|(go_split_ands;exact Two.all (Two.put3 (by assumption) nl _ _ _ _ _ _ _))|go_keep)
     (first|(go_at_call 139;go_split_ands;refine (hop.out _ (Below.drew bR)).mono ?_;rintro e w1 ⟨vt,rfl,hvt,hb1⟩;obtain ⟨pt,nt,ct,rfl⟩:=hvt.slice)|(go_at_call 132;go_split_ands;refine (uZ _ _ _ _ _ _ hvt ((hM.out.below (Below.drew bR)).below hb1)).mono ?_;rintro e w3 ⟨rfl,hb3⟩;have htw:=Two.next (by assumption) hb3;obtain ⟨z0,z1,z2,l0,l1,l2,f0,f1,f2⟩:=Two.slots htw))
    go_wp2_with fail
    have q1:=htw.nat3 nl (hvt.below hb3) (s&&!((A-B)==0)) pt pm nt ct nm cm
    have q2:=htw.nat3 nl (((hM.out.below (Below.drew bR)).below hb1).below hb3) (s&&!((A-B)==0)) pt pm nt ct nm cm
    have q3:=(htw.put3 nl (s&&!((A-B)==0)) pt pm nt ct nm cm).below
    have yF:Hid (∀ W',W'=(((w3.setCell ⟨w.heap.size+1+1,0,none⟩ (.bool (s&&!((A-B)==0)))).setCell ⟨w.heap.size+1+1,1,none⟩ (.slice pt nt ct)).setCell ⟨w.heap.size+1+1,2,none⟩ (.slice pm nm cm))→ybr s a b t c d K w (.returned (.agg #[.bool (s&&!((A-B)==0)),.slice pt nt ct,.slice pm nm cm])) W'):=yA (by
     rintro W' rfl
     refine ⟨_,_,_,_,rfl,⟨_,_,rfl,q1,q2,by intro h;simp at h;omega⟩,q3,hF.out.pos,?_,hF.out.ltAm,hF.out.ltM⟩
     rw [uD]
     exact hF.out.sumA hst hlt'.out)
    refine bodyPost_ret (v:=.agg #[.bool (s&&!((A-B)==0)),.slice pt nt ct,.slice pm nm cm]) (by simp [results,Tryz.results89,go_sem,l0,l1,l2]) rfl ?_
    exact yF.out _ rfl
section
variable {B : Nat} {s : Bool} {u1 v1 : Value} {w0 W W' : World}
end
def sgn (s:Bool) (a:Nat):Int:=if s then -1 else if a=0 then 0 else 1
theorem yq8 (x:Value) (s:Bool) (a b:Nat) (w:World) (hx:vM w x s a b):Calls Tryz.prog 135 #[x] w (Rp (.int .i64 (sgn s a)) w):=by
 obtain ⟨u1,v1,rfl,hu1,hv1,hs1⟩:=hx
 obtain ⟨p1,n1,k1,rfl⟩:=hu1.slice
 have hz:=jF hu1
 clear hu1 hv1 hs1
 cases s with
 | true =>
  have h:sgn true a=-1:=rfl
  rw [h]
  go_in
  go_wp2
  go_ret
  exact ⟨rfl,bR.alloc nl _⟩
 | false =>
  by_cases h0:a=0
  ·have hn:n1=0:=hz.2 h0
   subst hn
   have h:sgn false a=0:=by simp [sgn,h0]
   rw [h]
   clear hz h0 h
   go_in
   go_wp2_with fail
   refine (jS _ _ _ _).mono ?_
   rintro e w1 ⟨rfl,rfl⟩
   go_wp2
   go_ret
   exact ⟨rfl,bR.alloc nl _⟩
  ·have hn:((n1:Int)==0)=false:=by rw [beq_eq_false_iff_ne];omega
   have h:sgn false a=1:=by simp [sgn,h0]
   rw [h]
   clear hz h0 h
   go_in
   go_wp2_with fail
   refine (jS _ _ _ _).mono ?_
   rintro e w1 ⟨rfl,rfl⟩
   rw [hn]
   go_wp2
   go_ret
   exact ⟨rfl,bR.alloc nl _⟩
end Go.Proofs.YtgepehlpjpccaaaGreatDoor
namespace Go.Proofs.YtgepehlpjpccaaaGreatDoor
open Go.RowKit Big
section
variable {B : Nat} {w0 W W' : World}
end
end Go.Proofs.YtgepehlpjpccaaaGreatDoor
namespace Go.Proofs.YtgepehlpjpccaaaGreatDoor
open Go.RowKit Go.Lib Big
end Go.Proofs.YtgepehlpjpccaaaGreatDoor
namespace Go.Proofs.YtgepehlpjpccaaaGreatDoor
open Go.RowKit Go.Lib Big
end Go.Proofs.YtgepehlpjpccaaaGreatDoor
namespace Go.Proofs.YtgepehlpjpccaaaGreatDoor
open Go.RowKit Go.Lib Big
end Go.Proofs.YtgepehlpjpccaaaGreatDoor
namespace Go.Proofs.YtgepehlpjpccaaaGreatDoor
open Go.RowKit Go.Lib Big
def ywa (o:Option (Bool × Nat × Nat)) (w:World) (e:Ending) (w':World):Prop :=
 Be w w'∧∃ b p n c q m d,e=.returned (.tuple #[.agg #[.bool b,.slice p n c,.slice q m d],.bool o.isSome])∧∀ s x y,o=some (s,x,y)→vM w' (.agg #[.bool b,.slice p n c,.slice q m d]) s x y
theorem yth (s:ByteArray) (w:World) (htab:Tab w):Calls Tryz.prog 130 #[.string s] w (ywa (yam s.data.toList) w):=by
 refine (yhu s w htab).mono fun e w' h=>⟨h.1,?_⟩
 have h2:=h.2
 cases hq:yam s.data.toList with
 | none=>rw [hq] at h2;exact ⟨_,_,_,_,_,_,_,h2,fun _ _ _ h=>by cases h⟩
 | some t =>
  rw [hq] at h2
  obtain ⟨x,rfl,u,v,rfl,hu,hv,hs⟩:=h2
  obtain ⟨p2,n2,k2,rfl⟩:=hu.slice
  obtain ⟨p3,n3,k3,rfl⟩:=hv.slice
  refine ⟨_,_,_,_,_,_,_,rfl,?_⟩
  rintro _ _ _ h
  cases h
  exact ⟨_,_,rfl,hu,hv,hs⟩
end Go.Proofs.YtgepehlpjpccaaaGreatDoor
namespace Go.Proofs.YtgepehlpjpccaaaGreatDoor
open Go.Lib Big
/-! Digits -/
/-! Compare -/
def yfb (q:Rat):Int:=if q<0 then -1 else if q=0 then 0 else 1
end Go.Proofs.YtgepehlpjpccaaaGreatDoor
namespace Go.Proofs.YtgepehlpjpccaaaGreatDoor
open Go.Lib Big
/-! Convert -/
end Go.Proofs.YtgepehlpjpccaaaGreatDoor
namespace Go.Proofs.YtgepehlpjpccaaaGreatDoor
open Go.Lib Big
end Go.Proofs.YtgepehlpjpccaaaGreatDoor
namespace Go.Proofs.YtgepehlpjpccaaaGreatDoor
open Go.RowKit Go.Lib Big
theorem yl3 {w:World} {x:Value} {s:Bool} {a b:Nat} (h:vM w x s a b):s=true→0<a:=by
 obtain ⟨u,v,-,-,-,h⟩:=h;exact h
def yp9 (q:Rat) (K:Nat) (w:World) (e:Ending) (w':World):Prop:=∃ x,e=.returned x∧GD w' x q K∧Be w w'
theorem ygS {s:Bool} {a b:Nat} (hb:0<b):yX s a b=0↔a=0:=by
 have h1:=ycl hb
 constructor
 ·intro h
  unfold yX at h
  apply Nat.eq_zero_of_not_pos
  intro ha
  have h2:=ycl ha
  cases s
  ·simp only [Bool.false_eq_true,if_false] at h;grind
  ·simp only [if_true] at h;grind
 ·rintro rfl
  unfold yX
  cases s<;>simp<;>grind
theorem yq9 {l:Lb} {s:Bool} {n d:Nat} (h:yam l=some (s,n,d)):n<yB^20∧d<yB^20∧0<d:=by
 unfold yam at h
 split at h
 ·cases h
 ·rename_i hl
  split at h
  ·rename_i s0 n0 d0 hr
   split at h
   ·cases h;exact yj3 hr (by omega)
   ·cases h
  ·cases h
def ycV (o:Option Rat) (w:World) (e:Ending) (w':World):Prop :=
 Be w w'∧∃ b p n c q m d,e=.returned (.tuple #[.agg #[.bool b,.slice p n c,.slice q m d],.bool o.isSome])∧∀ r,o=some r→GD w' (.agg #[.bool b,.slice p n c,.slice q m d]) r 20
theorem yjC (s:ByteArray) (w:World) (htab:Tab w):Calls Tryz.prog 130 #[.string s] w (ycV (num s.data.toList) w):=by
 refine (yth s w htab).mono fun e w' h=>⟨h.1,?_⟩
 obtain ⟨-,b,p,n,c,q,m,d,he,hr⟩:=h
 unfold num
 cases hq:yam s.data.toList with
 | none=>rw [hq] at he;exact ⟨b,p,n,c,q,m,d,he,fun r h=>by cases h⟩
 | some t =>
  obtain ⟨sg,x,y⟩:=t
  rw [hq] at he hr
  refine ⟨b,p,n,c,q,m,d,he,?_⟩
  rintro r h
  cases h
  obtain ⟨h1,h2,h3⟩:=yq9 hq
  exact ⟨sg,x,y,hr _ _ _ rfl,rfl,h3,h1,h2⟩
def ynh (l:Lb) (w:World) (e:Ending) (w':World):Prop:=e=.returned (.string ⟨l.toArray⟩)∧Be w w'
theorem yti (x:Value) (q:Rat) (K:Nat) (w:World) (hx:GD w x q K):Calls Tryz.prog 135 #[x] w (Rp (.int .i64 (yfb q)) w):=by
 obtain ⟨s,a,b,h1,rfl,h3,h4,h5⟩:=hx
 have e:sgn s a=yfb (yX s a b):=by
  obtain ⟨g1,g2,g3⟩:=yd3 h3 (yl3 h1)
  have hz:=ygS (s:=s) (a:=a) h3
  unfold sgn yfb
  have hn:(yX s a b<0)↔(yX s a b).num<0:=by have:=Rat.num_nonneg (q:=yX s a b);grind
  cases s
  ·rw [decide_eq_false_iff_not] at g1
   rw [if_neg (by simp),if_neg (fun h=>g1 (hn.1 h))]
   by_cases ha:a=0
   ·rw [if_pos ha,if_pos (hz.2 ha)]
   ·rw [if_neg ha,if_neg (fun h=>ha (hz.1 h))]
  ·rw [decide_eq_true_iff] at g1
   rw [if_pos rfl,if_pos (hn.2 g1)]
 rw [← e]
 exact yq8 x s a b w h1
/-! isPositive -/
end Go.Proofs.YtgepehlpjpccaaaGreatDoor
namespace Go.Proofs.YtgepehlpjpccaaaGreatDoor
open Go.RowKit Big
open Go.Lib
theorem yra (q:Rat):yb7 q=yfb q:=by
 unfold yb7 yfb
 have h1:q.num<0↔q<0:=by rw [← Rat.not_le,← Rat.num_nonneg];omega
 have h2:q.num=0↔q=0:=Rat.num_eq_zero
 simp only [h1,h2]
end Go.Proofs.YtgepehlpjpccaaaGreatDoor
namespace Go.Proofs.YtgepehlpjpccaaaGreatDoor
open Go.RowKit Big
open Go.Lib
end Go.Proofs.YtgepehlpjpccaaaGreatDoor
namespace Go.Proofs.YtgepehlpjpccaaaGreatDoor
open Go.RowKit Big
open Go.Lib
structure TwoH (B g:Nat) (s:Bool) (u1 v1:Value) (t:Bool) (u2 v2:Value) (x0 x1 x2:Value) (w0 W:World):Prop where
 two:Two B s u1 v1 t u2 v2 w0 W
 hg:g<w0.heap.size
 hb:w0.heap.size≤B
 h:W.heap[g]?=some (.cells #[x0,x1,x2] 98 (0,0))
section
variable {B g : Nat} {s : Bool} {u1 v1 : Value} {t : Bool} {u2 v2 : Value} {x0 x1 x2 : Value} {w0 W W' : World}
theorem TwoH.next (h:TwoH B g s u1 v1 t u2 v2 x0 x1 x2 w0 W) (hb:Be W W'):TwoH B g s u1 v1 t u2 v2 x0 x1 x2 w0 W' :=
 ⟨h.two.next hb,h.hg,h.hb,(hb.block _ (by have:=h.two.size;have:=h.hg;have:=h.hb;omega)).trans h.h⟩
theorem TwoH.drew (h:TwoH B g s u1 v1 t u2 v2 x0 x1 x2 w0 W):TwoH B g s u1 v1 t u2 v2 x0 x1 x2 w0 W.drew:=⟨h.two.drew,h.hg,h.hb,h.h⟩
theorem TwoH.below (h:TwoH B g s u1 v1 t u2 v2 x0 x1 x2 w0 W):Be w0 W:=h.two.below
theorem TwoH.put3 (h:TwoH B g s u1 v1 t u2 v2 x0 x1 x2 w0 W) (a:Bool) (p q:Oa) (n c m d:Nat):TwoH B g s u1 v1 t u2 v2 x0 x1 x2 w0 (((W.setCell ⟨B+1+1,0,none⟩ (.bool a)).setCell ⟨B+1+1,1,none⟩ (.slice p n c)).setCell ⟨B+1+1,2,none⟩ (.slice q m d)) :=
 have hne:g≠B+1+1:=by have:=h.hg;have:=h.hb;omega
 ⟨h.two.put3 h.hb _ _ _ _ _ _ _,h.hg,h.hb,((Below.heap_setCell _ _ _ _ hne).trans (Below.heap_setCell _ _ _ _ hne)).trans ((Below.heap_setCell _ _ _ _ hne).trans h.h)⟩
theorem TwoH.all (h:TwoH B g s u1 v1 t u2 v2 x0 x1 x2 w0 W):TwoH B g s u1 v1 t u2 v2 x0 x1 x2 w0 W∧W.cell? ⟨B,0,none⟩=some (.bool s)∧W.cell? ⟨B,1,none⟩=some u1∧W.cell? ⟨B,2,none⟩=some v1 ∧
  W.cell? ⟨B+1,0,none⟩=some (.bool t)∧W.cell? ⟨B+1,1,none⟩=some u2∧W.cell? ⟨B+1,2,none⟩=some v2∧W.cell? ⟨g,0,none⟩=some x0∧W.cell? ⟨g,1,none⟩=some x1∧W.cell? ⟨g,2,none⟩=some x2 :=
 ⟨h,zW h.two.x 0,zW h.two.x 1,zW h.two.x 2,zW h.two.y 0,zW h.two.y 1,zW h.two.y 2,zW h.h 0,zW h.h 1,zW h.h 2⟩
end
end Go.Proofs.YtgepehlpjpccaaaGreatDoor
namespace Go.Proofs.YtgepehlpjpccaaaGreatDoor
open Go.RowKit Big
end Go.Proofs.YtgepehlpjpccaaaGreatDoor
namespace Go.Proofs.YtgepehlpjpccaaaGreatDoor
open Go.RowKit Big
variable {B : Nat} {s : Bool} {u1 v1 : Value} {t : Bool} {u2 v2 : Value} {w0 W W' : World}
end Go.Proofs.YtgepehlpjpccaaaGreatDoor
namespace Big
open Go.Proofs.YtgepehlpjpccaaaGreatDoor
theorem yrb (s:Bool) (a b:Nat):yX (!s) a b=- yX s a b:=by
 unfold yX
 cases s<;>simp<;>grind
end Big
namespace Go.Proofs.YtgepehlpjpccaaaGreatDoor
open Go.RowKit Big
section
variable {B : Nat} {s : Bool} {u1 v1 : Value} {w0 W W' : World}
end
theorem ykw (x:Value) (s:Bool) (a b:Nat) (w:World) (hx:vM w x s a b):Calls Tryz.prog 178 #[x] w (ydS (!s) a b w):=by
 obtain ⟨u1,v1,rfl,hu1,hv1,hs1⟩:=hx
 obtain ⟨p1,n1,k1,rfl⟩:=hu1.slice
 obtain ⟨p2,n2,k2,rfl⟩:=hv1.slice
 have jT:=One.start w s (.slice p1 n1 k1) (.slice p2 n2 k2)
 obtain ⟨c0,c1,c2⟩:=jT.cells
 have Hone:=yA jT
 have HU:=yA hu1
 have HV:=yA hv1
 clear jT hu1 hv1 hs1
 go_in
 go_wp2_with fail
 refine (uZ _ _ _ a b _ (HU.out.below Hone.out.below) (HV.out.below Hone.out.below)).mono ?_
 rintro e w3 ⟨rfl,hb3⟩
 have htw:=Hone.out.next hb3
 obtain ⟨z0,z1,z2,l0,l1,l2,f0,f1,f2⟩:=htw.slots
 have Htw:=yA htw
 clear htw
 go_wp2_with fail
 have q1:=Htw.out.nat3 nl ((HU.out.below Hone.out.below).below hb3) (!s&&!(a==0)) p1 p2 n1 k1 n2 k2
 have q2:=Htw.out.nat3 nl ((HV.out.below Hone.out.below).below hb3) (!s&&!(a==0)) p1 p2 n1 k1 n2 k2
 have q3:=(Htw.out.put3 nl (!s&&!(a==0)) p1 p2 n1 k1 n2 k2).below
 refine bodyPost_ret (v:=.agg #[.bool (!s&&!(a==0)),.slice p1 n1 k1,.slice p2 n2 k2]) (by simp [results,Tryz.results178,go_sem,l0,l1,l2]) rfl ?_
 exact ⟨_,rfl,⟨_,_,rfl,q1,q2,by intro h;simp at h;omega⟩,q3⟩
def ytj (s:Bool) (a b:Nat) (t:Bool) (c d K:Nat) (w:World) (e:Ending) (w':World):Prop :=
 ∃ x r n m,e=.returned x∧vM w' x r n m∧Be w w'∧0<m∧yX r n m=yX s a b-yX t c d∧n<yB^(2*K+1)∧m<yB^(2*K+1)
theorem ytk (x y:Value) (s t:Bool) (a b c d K:Nat) (w:World) (hK:2*K+1≤1073741824) (ha:a<yB^K) (hb:b<yB^K) (hc:c<yB^K) (hd:d<yB^K) (hb0:0<b) (hd0:0<d) (hx:vM w x s a b) (hy:vM w y t c d) :
  Calls Tryz.prog 134 #[x,y] w (ytj s a b t c d K w):=by
 have hx0:=yA hx
 have hy0:=yA hy
 obtain ⟨u1,v1,rfl,hu1,hv1,hs1⟩:=hx
 obtain ⟨u2,v2,rfl,hu2,hv2,hs2⟩:=hy
 obtain ⟨p1,n1,k1,rfl⟩:=hu1.slice
 obtain ⟨p2,n2,k2,rfl⟩:=hv1.slice
 obtain ⟨p3,n3,k3,rfl⟩:=hu2.slice
 obtain ⟨p4,n4,k4,rfl⟩:=hv2.slice
 have uV:=Two.start w s (.slice p1 n1 k1) (.slice p2 n2 k2) t (.slice p3 n3 k3) (.slice p4 n4 k4)
 have Htwo:=yA uV
 obtain ⟨-,c0,c1,c2,c3,c4,c5⟩:=uV.all
 have GK:Hid (∀ W,Be w W→Calls Tryz.prog 178 #[.agg #[.bool t,.slice p3 n3 k3,.slice p4 n4 k4]] W (ydS (!t) c d W)):=yA fun W h=>ykw _ t c d W (hy0.out.below h)
 have ya9:Hid (∀ W z,Be w W→vM W z ((!t)&&!(c==0)) c d→Calls Tryz.prog 89 #[.agg #[.bool s,.slice p1 n1 k1,.slice p2 n2 k2],z] W (ybr s a b ((!t)&&!(c==0)) c d K W)) :=
  yA fun W z h hz=>ytg _ _ s _ a b c d K W hK ha hb hc hd hb0 hd0 (hx0.out.below h) hz
 clear hu1 hv1 hu2 hv2 hs1 hs2 uV
 go_in
 go_wp2_with fail
 go_region_held3 (fun w'=>Two w.heap.size s (.slice p1 n1 k1) (.slice p2 n2 k2) t (.slice p3 n3 k3) (.slice p4 n4 k4) w w'∧w'.cell? ⟨w.heap.size,0,none⟩=some (.bool s)∧w'.cell? ⟨w.heap.size,1,none⟩=some (.slice p1 n1 k1)∧w'.cell? ⟨w.heap.size,2,none⟩=some (.slice p2 n2 k2)∧w'.cell? ⟨w.heap.size+1,0,none⟩=some (.bool t)∧w'.cell? ⟨w.heap.size+1,1,none⟩=some (.slice p3 n3 k3)∧w'.cell? ⟨w.heap.size+1,2,none⟩=some (.slice p4 n4 k4))
  (first|exact Two.all (Two.drew Htwo.out)|exact Two.all Htwo.out|(go_split_ands;exact Two.all (Two.next (by assumption) hb1))|(go_split_ands;exact Two.all (Two.next (by assumption) hb3))|(go_split_ands;exact Two.all (Two.put3 (by assumption) nl _ _ _ _ _ _ _))|go_keep)
  (first|(go_at_call 178;go_split_ands;refine (GK.out _ (Two.below (by assumption))).mono ?_;rintro e w1 ⟨xn,rfl,hxn,hb1⟩)|(go_at_call 89;go_split_ands;refine (ya9.out _ _ (Two.below (by assumption)) hxn).mono ?_;rintro e w3 ⟨xr,r,nn,mm,rfl,hxr,hb3,ylI,zT,hn1,hm1⟩;have htw:=Two.next (by assumption) hb3;obtain ⟨ur,vr,rfl,hur,hvr,hsr⟩:=hxr;obtain ⟨pr,nr,cr,rfl⟩:=hur.slice;obtain ⟨pv,nv,cv,rfl⟩:=hvr.slice;obtain ⟨z0,z1,z2,l0,l1,l2,f0,f1,f2⟩:=Two.slots htw))
 go_wp2_with fail
 have q1:=htw.nat3 nl hur r pr pv nr cr nv cv
 have q2:=htw.nat3 nl hvr r pr pv nr cr nv cv
 have q3:=(htw.put3 nl r pr pv nr cr nv cv).below
 refine bodyPost_ret (v:=.agg #[.bool r,.slice pr nr cr,.slice pv nv cv]) (by simp [results,Tryz.results134,go_sem,l0,l1,l2]) rfl ?_
 refine ⟨_,r,nn,mm,rfl,⟨_,_,rfl,q1,q2,hsr⟩,q3,ylI,?_,hn1,hm1⟩
 rw [zT,uD,yrb,Rat.sub_eq_add_neg]
end Go.Proofs.YtgepehlpjpccaaaGreatDoor
namespace Go.Proofs.YtgepehlpjpccaaaGreatDoor
open Go.RowKit Big
section
variable {B : Nat} {w0 W W' : World}
end
end Go.Proofs.YtgepehlpjpccaaaGreatDoor
namespace Go.Proofs.YtgepehlpjpccaaaGreatDoor
open Go.RowKit Go.Lib Big
end Go.Proofs.YtgepehlpjpccaaaGreatDoor
namespace Go.Proofs.YtgepehlpjpccaaaGreatDoor
open Go.RowKit Go.Lib Big
end Go.Proofs.YtgepehlpjpccaaaGreatDoor
namespace Go.Proofs.YtgepehlpjpccaaaGreatDoor
open Go.RowKit Go.Lib Big
end Go.Proofs.YtgepehlpjpccaaaGreatDoor
namespace Go.Proofs.YtgepehlpjpccaaaGreatDoor
open Go.RowKit Go.Lib Big
end Go.Proofs.YtgepehlpjpccaaaGreatDoor
namespace Go.Proofs.YtgepehlpjpccaaaGreatDoor
open Go.RowKit Go.Lib Big
end Go.Proofs.YtgepehlpjpccaaaGreatDoor
namespace Go.Proofs.YtgepehlpjpccaaaGreatDoor
open Go.Lib Big
/-! Digits -/
/-! Compare -/
def yew (x y:Lb):Int × Bool :=
 match num x,num y with
 | some a,some b=>(yfb (a-b),true)
 | _,_=>(0,false)
end Go.Proofs.YtgepehlpjpccaaaGreatDoor
namespace Go.Proofs.YtgepehlpjpccaaaGreatDoor
open Go.Lib Big
/-! Convert -/
end Go.Proofs.YtgepehlpjpccaaaGreatDoor
namespace Go.Proofs.YtgepehlpjpccaaaGreatDoor
open Go.Lib Big
end Go.Proofs.YtgepehlpjpccaaaGreatDoor
namespace Go.Proofs.YtgepehlpjpccaaaGreatDoor
open Go.RowKit Go.Lib Big
theorem yu9 (x y:Value) (p q:Rat) (K:Nat) (w:World) (hK:2*K+1≤1073741824) (hx:GD w x p K) (hy:GD w y q K):Calls Tryz.prog 134 #[x,y] w (yp9 (p-q) (2*K+1) w):=by
 obtain ⟨s,a,b,h1,rfl,h3,h4,h5⟩:=hx
 obtain ⟨t,c,d,k1,rfl,k3,k4,k5⟩:=hy
 refine (ytk x y s t a b c d K w hK h4 h5 k4 k5 h3 k3 h1 k1).mono ?_
 rintro e w' ⟨z,r,n,m,rfl,hz,hb,hm,hv,hn,hm2⟩
 exact ⟨z,rfl,⟨r,n,m,hz,hv,hm,hn,hm2⟩,hb⟩
end Go.Proofs.YtgepehlpjpccaaaGreatDoor
namespace Go.Proofs.YtgepehlpjpccaaaGreatDoor
open Go.RowKit Go.Lib Big
def yah (c:Int × Bool) (w:World) (e:Ending) (w':World):Prop:=e=.returned (.tuple #[.int .i64 c.1,.bool c.2])∧Be w w'
theorem yio (x y:ByteArray) (w:World) (hx:Hid (Calls Tryz.prog 130 #[.string x] w (ycV none w))):Calls Tryz.prog 85 #[.string x,.string y] w (yah (0,false) w):=by
 go_in
 go_wp2_with fail
 refine hx.out.mono ?_
 rintro e w2 ⟨hb2,b,p,n,c,q,m,d,rfl,-⟩
 have hbw:=yA (hb2.trans ((bea w2 (.cells #[.bool b,.slice p n c,.slice q m d] 98)).mono hb2.size))
 clear hb2
 go_wp2
 go_ret2
 exact ⟨rfl,hbw.out⟩
theorem yip (x y:ByteArray) (r:Rat) (w:World) (hx:Hid (Calls Tryz.prog 130 #[.string x] w (ycV (some r) w))) (hy:∀ W,Be w W→Hid (Calls Tryz.prog 130 #[.string y] W (ycV none W))):Calls Tryz.prog 85 #[.string x,.string y] w (yah (0,false) w):=by
 go_in
 go_wp2_with fail
 refine hx.out.mono ?_
 rintro e w2 ⟨hb2,b,p,n,c,q,m,d,rfl,-⟩
 have hbw:=yA (hb2.trans ((bea w2 (.cells #[.bool b,.slice p n c,.slice q m d] 98)).mono hb2.size))
 have hy2:=hy _ hbw.out
 clear hb2 hy
 go_wp2_with fail
 refine hy2.out.mono ?_
 rintro e w3 ⟨hb3,b',p',n',c',q',m',d',rfl,-⟩
 have ypt:=yA (tr hbw.out hb3)
 have ysr:=yA (ypt.out.trans ((bea w3 (.cells #[.bool b',.slice p' n' c',.slice q' m' d'] 98)).mono ypt.out.size))
 clear hb3
 go_wp2
 go_ret2
 exact ⟨rfl,ysr.out⟩
theorem yl4 (x y:ByteArray) (p q:Rat) (w:World) (hx:Hid (Calls Tryz.prog 130 #[.string x] w (ycV (some p) w))) (hy:∀ W,Be w W→Hid (Calls Tryz.prog 130 #[.string y] W (ycV (some q) W))):Calls Tryz.prog 85 #[.string x,.string y] w (yah (yfb (p-q),true) w):=by
 have hop:Hid (∀ W u v,GD W u p 20→GD W v q 20→Calls Tryz.prog 134 #[u,v] W (yp9 (p-q) 41 W)):=yA fun W u v hu hv=>yu9 u v p q 20 W (by omega) hu hv
 have hsg:Hid (∀ W z,GD W z (p-q) 41→Calls Tryz.prog 135 #[z] W (Rp (.int .i64 (yfb (p-q))) W)):=yA fun W z hz=>yti z (p-q) 41 W hz
 generalize yfb (p-q)=c at hsg ⊢
 go_in
 go_wp2_with fail
 refine hx.out.mono ?_
 rintro e w2 ⟨hb2,b1,p1,n1,c1,q1,m1,d1,rfl,hr1⟩
 have hbw:=yA (hb2.trans ((bea w2 (.cells #[.bool b1,.slice p1 n1 c1,.slice q1 m1 d1] 98)).mono hb2.size))
 have hR1:=yA ((hr1 _ rfl).below (bea w2 (.cells #[.bool b1,.slice p1 n1 c1,.slice q1 m1 d1] 98)))
 have hb1:=yA (zG w2 (.cells #[.bool b1,.slice p1 n1 c1,.slice q1 m1 d1] 98))
 have hy2:=hy _ hbw.out
 clear hb2 hy hr1
 go_wp2_with fail
 refine hy2.out.mono ?_
 rintro e w3 ⟨hb3,b',p',n',c',q',m',d',rfl,hr3⟩
 have ypt:=yA (tr hbw.out hb3)
 have ysr:=yA (ypt.out.trans ((bea w3 (.cells #[.bool b',.slice p' n' c',.slice q' m' d'] 98)).mono ypt.out.size))
 have hA:=yA (bea w3 (.cells #[.bool b',.slice p' n' c',.slice q' m' d'] 98))
 have hR3:=yA ((hr3 _ rfl).below hA.out)
 have hR2:=yA ((hR1.out.below hb3).below hA.out)
 have yd6:=(tr hb3 hA.out).block w2.heap.size (by simp)
 have hbx:=yd6.trans hb1.out
 have e0:=zW hbx 0
 have e1:=zW hbx 1
 have e2:=zW hbx 2
 have hop4:=yA (hop.out _ _ _ hR2.out hR3.out)
 clear hb3 hy2 hr3 yd6 hbx
 go_wp2_with fail
 refine hop4.out.mono ?_
 rintro e w5 ⟨z,rfl,hz,hb5⟩
 have hbw5:=yA (tr ysr.out hb5)
 have ht5:=yA (hsg.out _ _ hz)
 clear hb5 hz hop4
 go_wp2_with fail
 refine ht5.out.mono ?_
 rintro e w6 ⟨rfl,hb6⟩
 have yss:=yA (tr hbw5.out hb6)
 clear hb6
 go_wp2
 go_ret2
 exact ⟨rfl,yss.out⟩
theorem yoc (x y:ByteArray) (w:World) (htab:Tab w):Calls Tryz.prog 85 #[.string x,.string y] w (yah (yew x.data.toList y.data.toList) w):=by
 have hx:=yjC x w htab
 have hy:=fun W (hb:Be w W)=>yjC y W (htab.below hb)
 unfold yew
 cases hnx:num x.data.toList with
 | none=>rw [hnx] at hx;exact yio x y w (yA hx)
 | some p =>
  rw [hnx] at hx
  cases hny:num y.data.toList with
  | none=>rw [hny] at hy;exact yip x y p w (yA hx) fun W hb=>yA (hy W hb)
  | some q=>rw [hny] at hy;exact yl4 x y p q w (yA hx) fun W hb=>yA (hy W hb)
/-! isPositive -/
end Go.Proofs.YtgepehlpjpccaaaGreatDoor
namespace Go.Proofs.YtgepehlpjpccaaaGreatDoor
open Go.RowKit
open Go.Lib
def zY (k:Int):Nat:=if k=1 then 1 else if k=2 then 2 else if k=3 then 4 else if k=4 then 8 else 0
def isT (k:Int):Bool:=decide (1≤k)&&decide (k≤5)
theorem ybs (k:Int):zY k≤8:=by
 unfold zY
 repeat' split
 all_goals omega
theorem yfF {k:Int} (h:k<1∨4<k):zY k=0:=by
 unfold zY
 rw [if_neg (by omega),if_neg (by omega),if_neg (by omega),if_neg (by omega)]
theorem kinds (k:Int):k=1∨k=2∨k=3∨k=4∨k=5∨k<1∨5<k:=by omega
def vN (k:Int) (xs:List Lb):Int:=if isT k=false then 2 else if xs.all (zZ k)=false then 41 else 0
theorem yau (k:Int) (w:World):Calls Tryz.prog 13 #[.int .i64 k] w (Qp (.int .i64 (zY k:Int)) w):=by
 by_cases h1:k=1
 ·subst h1
  go_in
  go_wp2
  go_ret
  exact ⟨rfl,rfl⟩
 by_cases h2:k=2
 ·subst h2
  go_in
  go_wp2
  go_ret
  exact ⟨rfl,rfl⟩
 by_cases h3:k=3
 ·subst h3
  go_in
  go_wp2
  go_ret
  exact ⟨rfl,rfl⟩
 by_cases h4:k=4
 ·subst h4
  go_in
  go_wp2
  go_ret
  exact ⟨rfl,rfl⟩
 have e:zY k=0:=by unfold zY;rw [if_neg h1,if_neg h2,if_neg h3,if_neg h4]
 rw [e]
 have g1:(k==1)=false:=by simpa using h1
 have g2:(k==2)=false:=by simpa using h2
 have g3:(k==3)=false:=by simpa using h3
 have g4:(k==4)=false:=by simpa using h4
 go_in
 go_wp2
 go_ret
 exact ⟨rfl,rfl⟩
theorem ybj (k:Int) (w:World):Calls Tryz.prog 39 #[.int .i64 k] w (Qp (.bool (isT k)) w):=by
 have HW:=h_ (yau k w)
 obtain ⟨d,HD⟩:=ey (zY k)
 rw [← HD.out] at HW
 obtain ⟨b,HB⟩:=ey (isT k)
 rw [← HB.out]
 by_cases h:1≤k∧k≤4
 ·obtain rfl:b=true:=by rw [HB.out];unfold isT;rw [decide_eq_true h.1,decide_eq_true (by omega)];rfl
  have hd:(0:Int)<(d:Int):=by
   have:0<d:=by
    rw [HD.out];unfold zY
    have:k=1∨k=2∨k=3∨k=4:=by omega
    rcases this with rfl|rfl|rfl|rfl<;>decide
   omega
  go_in
  go_wp2_with fail
  refine (HW.out).mono ?_
  rintro e w' ⟨rfl,rfl⟩
  go_wp2
  go_ret
  exact ⟨rfl,rfl⟩
 ·obtain rfl:d=0:=by rw [HD.out];exact yfF (by omega)
  by_cases h5:k=5
  ·subst h5
   obtain rfl:b=true:=HB.out
   go_in
   go_wp2_with fail
   refine (HW.out).mono ?_
   rintro e w' ⟨rfl,rfl⟩
   go_wp2
   go_ret
   exact ⟨rfl,rfl⟩
  ·obtain rfl:b=false:=by
    rw [HB.out];unfold isT
    by_cases h1:1≤k
    ·rw [decide_eq_false (show ¬ k≤5 by omega),Bool.and_false]
    ·rw [decide_eq_false h1];rfl
   have g5:(k==5)=false:=by simpa using h5
   go_in
   go_wp2_with fail
   refine (HW.out).mono ?_
   rintro e w' ⟨rfl,rfl⟩
   go_wp2
   go_ret
   exact ⟨rfl,rfl⟩
theorem vQ (k:Int) (w:World):Calls Tryz.prog 14 #[.int .i64 k] w (Qp (.int .i64 (zY k:Int)) w):=by
 rcases kinds k with rfl|rfl|rfl|rfl|rfl|h|h
 case inr.inr.inr.inr.inr.inl =>
  rw [yfF (.inl h)]
  go_in
  go_wp2
  go_ret
  exact ⟨rfl,rfl⟩
 case inr.inr.inr.inr.inr.inr =>
  rw [yfF (.inr (by omega))]
  have h1:¬ k<1:=by omega
  have h4:4<k:=by omega
  go_in
  go_wp2
  go_ret
  exact ⟨rfl,rfl⟩
 all_goals
  go_in
  go_wp2
  go_ret
  exact ⟨rfl,rfl⟩
theorem ybB (k:Int) (w:World):Calls Tryz.prog 41 #[.int .i64 k] w (Qp (.bool (isT k)) w):=by
 obtain ⟨b,HB⟩:=ey (isT k)
 rw [← HB.out]
 by_cases h1:1≤k
 ·by_cases h5:k≤5
  ·obtain rfl:b=true:=by rw [HB.out];unfold isT;rw [decide_eq_true h1,decide_eq_true h5];rfl
   go_in
   go_wp2
   go_ret
   exact ⟨rfl,rfl⟩
  ·obtain rfl:b=false:=by rw [HB.out];unfold isT;rw [decide_eq_false h5,Bool.and_false]
   have h6:5<k:=by omega
   go_in
   go_wp2
   go_ret
   exact ⟨rfl,rfl⟩
 ·obtain rfl:b=false:=by rw [HB.out];unfold isT;rw [decide_eq_false h1];rfl
  have h6:k<1:=by omega
  go_in
  go_wp2
  go_ret
  exact ⟨rfl,rfl⟩
theorem yf1 (k:Int) (p:Oa) (c n:Nat) (xs:List Lb) (w:World) (hx:Hid (xs.length=n)) (hn:n≤4096) (hs:Ss w p xs) (he:Env w) :
  Calls Tryz.prog 44 #[.int .i64 k,.slice p n c] w (Rp (.int .i64 (vN k xs)) w):=by
 have HS:=h_ hs
 have hn':(n:Int)≤4096:=by omega
 have HT:=h_ (fun W=>ybj k W)
 have HE:=h_ he
 clear he
 obtain ⟨b,HBT⟩:=ez (isT k)
 rw [HBT.out] at HT
 obtain ⟨v,HV⟩:=ey (vN k xs)
 rw [← HV.out]
 have HB0:=h_ (Below.refl w.heap.size w)
 clear hs
 cases b with
 | false =>
  obtain rfl:v=2:=by rw [HV.out];unfold vN;rw [if_pos HBT.out]
  go_in
  go_wp2_with fail
  refine (HT.out _).mono ?_
  rintro e w' ⟨rfl,rfl⟩
  go_wp2
  go_ret
  exact ⟨rfl,HB0.out⟩
 | true =>
  have HNO:Hid (∀ j,j<n→zZ k (xs.getD j [])=false→v=41):=h_ (fun j hj h=>by
   rw [HV.out];unfold vN
   rw [if_neg (by rw [HBT.out];simp),if_pos]
   rw [List.all_eq_false]
   have hj2:j<xs.length:=by rw [hx.out];exact hj
   rw [gD hj2] at h
   exact ⟨_,List.getElem_mem hj2,by simpa using h⟩)
  have ygB:Hid ((∀ j,j<n→zZ k (xs.getD j [])=true)→v=0):=h_ (fun h=>by
   rw [HV.out];unfold vN
   rw [if_neg (by rw [HBT.out];simp),if_neg]
   rw [Bool.not_eq_false,List.all_eq_true]
   intro x hx2
   obtain ⟨j,hj,rfl⟩:=List.getElem_of_mem hx2
   have:=h j (by rw [← hx.out];exact hj)
   rwa [List.getD_eq_getElem?_getD,List.getElem?_eq_getElem hj] at this)
  go_in
  go_wp2_with fail
  refine (HT.out _).mono ?_
  rintro e w' ⟨rfl,rfl⟩
  go_wp2_with fail
  refine (GB n hn' _).mono ?_
  rintro e w' ⟨rfl,rfl⟩
  go_wp2
  go_loopw [16] (fun iv wr=>∃ i:Nat,i≤n∧iv=.int .i64 i∧Hid (Be w wr)∧Hid (∀ j,j<i→zZ k (xs.getD j [])=true)) (fun iv _=>n-(intOf iv).toNat)
  case atStart=>exact ⟨0,Nat.zero_le _,rfl,HB0,h_ (fun j hj=>by omega)⟩
  case round =>
   obtain ⟨i,hi,rfl,HB,HA⟩:=hrel
   have ii:(i:Int)≤(n:Int):=by omega
   by_cases hlt:i<n
   ·have ilt:(i:Int)<(n:Int):=by omega
    obtain ⟨b1,o1,x,e1,hb1,hc1,hxx⟩:=(HS.out.below HB.out).at (k:=i) (by rw [hx.out];exact hlt)
    subst e1
    have HC:=h_ (yf3 k x wr (HE.out.below HB.out))
    obtain ⟨f,HF⟩:=ez (zZ k x)
    rw [HF.out] at HC
    cases f with
    | true =>
     have HA2:Hid (∀ j,j<i+1→zZ k (xs.getD j [])=true):=h_ (fun j hj=>by
      by_cases e:j=i
      ·rw [e,hxx.out];exact HF.out
      ·exact HA.out j (by omega))
     go_wp2_with fail
     refine (HC.out).mono ?_
     rintro e w2 ⟨rfl,hb2⟩
     have vK:=th HB hb2
     clear hb2
     go_wp2
     go_roundw
     case rel=>exact ⟨i+1,by omega,by go_num,vK,HA2⟩
     case measure=>simp [intOf];omega
    | false =>
     obtain rfl:v=41:=HNO.out i hlt (by rw [hxx.out];exact HF.out)
     go_wp2_with fail
     refine (HC.out).mono ?_
     rintro e w2 ⟨rfl,hb2⟩
     have vK:=th HB hb2
     clear hb2
     go_wp2
     go_ret
     exact ⟨rfl,vK.out⟩
   ·obtain rfl:i=n:=by omega
    have ilt:¬ (i:Int)<(i:Int):=by omega
    obtain rfl:v=0:=ygB.out HA.out
    go_wp2
    go_ret
    exact ⟨rfl,HB.out⟩
theorem yf2 (k:Int) (p:Oa) (c n:Nat) (xs:List Lb) (w:World) (hx:Hid (xs.length=n)) (hn:n≤4096) (hs:Ss w p xs) :
  Calls Tryz.prog 48 #[.int .i64 k,.slice p n c] w (Rp (.int .i64 (vN k xs)) w):=by
 have HS:=h_ hs
 have hn':(n:Int)≤4096:=by omega
 have HT:=h_ (fun W=>ybB k W)
 obtain ⟨b,HBT⟩:=ez (isT k)
 rw [HBT.out] at HT
 obtain ⟨v,HV⟩:=ey (vN k xs)
 rw [← HV.out]
 have HB0:=h_ (Below.refl w.heap.size w)
 clear hs
 cases b with
 | false =>
  obtain rfl:v=2:=by rw [HV.out];unfold vN;rw [if_pos HBT.out]
  go_in
  go_wp2_with fail
  refine (HT.out _).mono ?_
  rintro e w' ⟨rfl,rfl⟩
  go_wp2
  go_ret
  exact ⟨rfl,HB0.out⟩
 | true =>
  have HNO:Hid (∀ j,j<n→zZ k (xs.getD j [])=false→v=41):=h_ (fun j hj h=>by
   rw [HV.out];unfold vN
   rw [if_neg (by rw [HBT.out];simp),if_pos]
   rw [List.all_eq_false]
   have hj2:j<xs.length:=by rw [hx.out];exact hj
   rw [gD hj2] at h
   exact ⟨_,List.getElem_mem hj2,by simpa using h⟩)
  have ygB:Hid ((∀ j,j<n→zZ k (xs.getD j [])=true)→v=0):=h_ (fun h=>by
   rw [HV.out];unfold vN
   rw [if_neg (by rw [HBT.out];simp),if_neg]
   rw [Bool.not_eq_false,List.all_eq_true]
   intro x hx2
   obtain ⟨j,hj,rfl⟩:=List.getElem_of_mem hx2
   have:=h j (by rw [← hx.out];exact hj)
   rwa [List.getD_eq_getElem?_getD,List.getElem?_eq_getElem hj] at this)
  go_in
  go_wp2_with fail
  refine (HT.out _).mono ?_
  rintro e w' ⟨rfl,rfl⟩
  go_wp2
  go_loopw [5] (fun iv wr=>∃ i:Nat,i≤n∧iv=.int .i64 i∧Hid (Be w wr)∧Hid (∀ j,j<i→zZ k (xs.getD j [])=true)) (fun iv _=>n-(intOf iv).toNat)
  case atStart=>exact ⟨0,Nat.zero_le _,rfl,HB0,h_ (fun j hj=>by omega)⟩
  case round =>
   obtain ⟨i,hi,rfl,HB,HA⟩:=hrel
   have ii:(i:Int)≤(n:Int):=by omega
   by_cases hlt:i<n
   ·have ilt:(i:Int)<(n:Int):=by omega
    obtain ⟨b1,o1,x,e1,hb1,hc1,hxx⟩:=(HS.out.below HB.out).at (k:=i) (by rw [hx.out];exact hlt)
    subst e1
    have HC:=h_ (ymP k x wr)
    obtain ⟨f,HF⟩:=ez (zZ k x)
    rw [HF.out] at HC
    cases f with
    | true =>
     have HA2:Hid (∀ j,j<i+1→zZ k (xs.getD j [])=true):=h_ (fun j hj=>by
      by_cases e:j=i
      ·rw [e,hxx.out];exact HF.out
      ·exact HA.out j (by omega))
     go_wp2_with fail
     refine (HC.out).mono ?_
     rintro e w2 ⟨rfl,hb2⟩
     have vK:=th HB hb2
     clear hb2
     go_wp2
     go_roundw
     case rel=>exact ⟨i+1,by omega,by go_num,vK,HA2⟩
     case measure=>simp [intOf];omega
    | false =>
     obtain rfl:v=41:=HNO.out i hlt (by rw [hxx.out];exact HF.out)
     go_wp2_with fail
     refine (HC.out).mono ?_
     rintro e w2 ⟨rfl,hb2⟩
     have vK:=th HB hb2
     clear hb2
     go_wp2
     go_ret
     exact ⟨rfl,vK.out⟩
   ·obtain rfl:i=n:=by omega
    have ilt:¬ (i:Int)<(i:Int):=by omega
    obtain rfl:v=0:=ygB.out HA.out
    go_wp2
    go_ret
    exact ⟨rfl,HB.out⟩
end Go.Proofs.YtgepehlpjpccaaaGreatDoor
namespace Go.Proofs.YtgepehlpjpccaaaGreatDoor
open Go.RowKit
open Go.Lib
theorem yc6 {w w':World} (h:Be w w') (r:Option Nat):w.grownBy w' r:=⟨h.os,h.tape,h.output,h.size,fun k hk _=>h.block k hk⟩
theorem jG {w w':World} {B e size n:Nat} {v:Value} {xs:List Value} (h:w.ownsRow B e size v n xs) (hb:Be w w'):w'.ownsRow B e size v n xs:=by
 refine h.kept (row:=none) (yc6 hb none) ?_
 cases v.ownBlock with
 | none=>exact .inl rfl
 | some a=>exact .inr (by simp)
theorem Grew.of_below {B:Nat} {w w':World} {v:Value} {l:Lb} (h:w.ownsRow B 5 1 v l.length (zN l)) (hb:Be w w'):Grew B w v l w' v:=⟨jG h hb,yc6 hb _,.inl rfl⟩
theorem yaN (B:Nat) (v:Value) (l x:Lb) (z:Int) (y n:Nat) (w:World) (hn:n≤8) (hl:l.length≤100000000) (hB:B≤w.heap.size) (hv:w.ownsRow B 5 1 v l.length (zN l)) (hx:x.length≤100) (hp:parseIntB 64 x=.ok z) (hy:IntKind.u64.wrap z=(y:Int)) (hy2:y<18446744073709551616) :
  Calls Tryz.prog 77 #[v,.string ⟨x.toArray⟩,.int .i64 (n:Int)] w (App B w v (l++be n y)):=by
 have HP:=h_ (Tryz.strconv_ParseInt_10_at64_ok ⟨x.toArray⟩ (by rw [← ByteArray.size_data];simp;omega) z (by simpa using hp) w)
 have HW:Hid (∀ W,Be w W→Calls Tryz.prog 128 #[v,.int .u64 (y:Int),.int .i64 (n:Int)] W (App B W v (l++be n y))):=h_ fun W hW=>jV B v l y n W hn hl (Nat.le_trans hB hW.size) (jG hv hW) hy2
 have HG:=h_ hv
 clear hv hp hx hl hB
 clear hy2 hn
 go_in
 go_wp2_with fail
 refine (HP.out).mono ?_
 rintro e w1 ⟨rfl,hb1⟩
 have yY:=h_ (ycO hb1)
 clear hb1
 go_wp2_with fail
 refine (HW.out _ yY.out).mono ?_
 rintro e w2 ⟨v2,rfl,hg2⟩
 have HG2:=h_ ((Grew.of_below HG.out yY.out).trans hg2)
 clear hg2
 go_wp2
 go_ret
 exact ⟨_,rfl,HG2.out⟩
theorem ybK (B:Nat) (v:Value) (l x:Lb) (n:Nat) (w:World) (hn:n≤8) (hl:l.length≤100000000) (hB:B≤w.heap.size) (hv:w.ownsRow B 5 1 v l.length (zN l)) (hx:x.length≤100) (hp:parseIntB 64 x=parseIntB 64 []) (he:Env w) :
  Calls Tryz.prog 77 #[v,.string ⟨x.toArray⟩,.int .i64 (n:Int)] w (App B w v (l++be n 0)):=by
 obtain ⟨ev,h1,k1⟩:=he.syn
 have HP:Hid (Calls Tryz.prog 127 #[.string ⟨x.toArray⟩,.int .i64 10,.int .i64 64] w fun e w'=>Be w w'∧∃ z T N,e=.returned (.tuple #[.int .i64 z,.iface T (.pointer (some ⟨N,0,none⟩))])):=h_
  ((Tryz.strconv_ParseInt_10_at64_syntax ⟨x.toArray⟩ (by rw [← ByteArray.size_data];simp;omega) (by simpa using hp) ev w h1 k1).mono fun e w' ⟨N,h,_,_,hb⟩=>⟨hb,_,_,N,h⟩)
 have HW:Hid (∀ W,Be w W→Calls Tryz.prog 128 #[v,.int .u64 ((0:Nat):Int),.int .i64 (n:Int)] W (App B W v (l++be n 0))):=h_ fun W hW=>jV B v l 0 n W hn hl (Nat.le_trans hB hW.size) (jG hv hW) (by omega)
 have HG:=h_ hv
 clear hv hp hx hl hB he h1 k1
 clear hn
 go_in
 go_wp2_with fail
 refine (HP.out).mono ?_
 rintro e w1 ⟨hb1,z,T,N,rfl⟩
 have yY:=h_ hb1
 clear hb1
 go_wp2_with fail
 refine (HW.out _ yY.out).mono ?_
 rintro e w2 ⟨v2,rfl,hg2⟩
 have HG2:=h_ ((Grew.of_below HG.out yY.out).trans hg2)
 clear hg2
 go_wp2
 go_ret
 exact ⟨_,rfl,HG2.out⟩
end Go.Proofs.YtgepehlpjpccaaaGreatDoor
namespace Go.Proofs.YtgepehlpjpccaaaGreatDoor
open Go.RowKit
open Go.Lib
def vT (x:Lb):Nat:=match num x with
 | some q=>(q.num%18446744073709551616).toNat
 | none=>0
def jD (k:Int) (x:Lb):Lb:=if k=5 then (if x=[] then [] else UInt8.ofNat x.length::x) else be (zY k) (vT x)
theorem yt9 (x:Lb):vT x<18446744073709551616:=by
 unfold vT
 split
 ·omega
 ·omega
theorem yqa:vT []=0:=by unfold vT;rw [yh9]
structure Gro (B:Nat) (w:World) (v:Value) (l:Lb) (w':World) (v':Value):Prop where
 own:w'.ownsRow B 5 1 v' l.length (zN l)
 grown:w.grownBy w' v.ownBlock
def yhJ (B:Nat) (w:World) (v:Value) (l:Lb) (e:Ending) (w':World):Prop:=∃ v',e=.returned v'∧Gro B w v l w' v'
theorem yua {B:Nat} {w w':World} {v:Value} {l:Lb} {e:Ending} (h:App B w v l e w'):yhJ B w v l e w':=by
 obtain ⟨v',h1,h2⟩:=h
 exact ⟨v',h1,h2.own,h2.grown⟩
theorem yhX {k:Int} {x:Lb} (h:zZ k x=true) (h1:1≤k) (h4:k≤4) (hx:x≠[]):∃ q:Rat,num x=some q∧q.den=1∧-((2^(8*zY k-1):Nat):Int)≤q.num∧q.num<((2^(8*zY k-1):Nat):Int):=by
 have key:∀ B,(x.isEmpty || (uX B x).isSome)=true→∃ q:Rat,num x=some q∧q.den=1∧-((2^(B-1):Nat):Int)≤q.num∧q.num<((2^(B-1):Nat):Int):=fun B hB=>by
  have he:x.isEmpty=false:=by cases x with
   | nil=>exact absurd rfl hx
   | cons=>rfl
  rw [he,Bool.false_or] at hB
  unfold uX at hB
  cases hn:num x with
  | none=>rw [hn] at hB;cases hB
  | some q =>
   rw [hn] at hB
   simp only at hB
   by_cases hc:q.den=1∧-((2^(B-1):Nat):Int)≤q.num∧q.num<((2^(B-1):Nat):Int)
   ·exact ⟨q,rfl,hc.1,hc.2.1,hc.2.2⟩
   ·rw [if_neg hc] at hB;cases hB
 have hk:k=1∨k=2∨k=3∨k=4:=by omega
 unfold zZ at h
 rcases hk with rfl|rfl|rfl|rfl
 ·exact key 8 h
 ·exact key 16 h
 ·exact key 32 h
 ·exact key 64 h
theorem yjD (k:Int):(2^(8*zY k-1):Nat)≤9223372036854775808:=by
 have:=ybs k
 calc 2^(8*zY k-1)≤2^63:=Nat.pow_le_pow_right (by omega) (by omega)
  _=9223372036854775808:=by decide
theorem yod {k:Int} {x:Lb} (h:zZ k x=true) (h1:1≤k) (h4:k≤4) (hx:x≠[]):∃ z:Int,parseIntB 64 x=.ok z∧IntKind.u64.wrap z=(vT x:Int):=by
 obtain ⟨q,hq,hd,hl,hh⟩:=yhX h h1 h4 hx
 have hp:=yjD k
 have h64:uX 64 x=some q.num:=by
  unfold uX
  rw [hq]
  simp only
  rw [if_pos ⟨hd,by show -((2^63:Nat):Int)≤q.num;omega,by show q.num<((2^63:Nat):Int);omega⟩]
 have:=yft (B:=64) (by decide) (by decide) hq
 rw [h64] at this
 refine ⟨q.num,this,?_⟩
 rw [IntKind.wrap_u64]
 unfold vT
 rw [hq]
 show q.num%18446744073709551616=((q.num%18446744073709551616).toNat:Int)
 omega
theorem ycc {k:Int} {x:Lb} (h:zZ k x=true):x.length≤82:=by
 have key:(x.isEmpty || (num x).isSome)=true→x.length≤82:=fun h=>by
  cases x with
  | nil=>simp
  | cons a r =>
   rw [show (a::r).isEmpty=false from rfl,Bool.false_or] at h
   obtain ⟨q,hq⟩:=Option.isSome_iff_exists.1 h
   exact yh3 hq
 by_cases hx:x=[]
 ·rw [hx];simp
 unfold zZ at h
 have e:∀ B,(x.isEmpty || (uX B x).isSome)=true→(x.isEmpty || (num x).isSome)=true:=fun B hB=>by
  rw [Bool.or_eq_true] at hB ⊢
  refine hB.imp id (fun hB=>?_)
  unfold uX at hB
  cases hn:num x with
  | none=>rw [hn] at hB;cases hB
  | some q=>rfl
 repeat' split at h
 ·exact key (e _ h)
 ·exact key (e _ h)
 ·exact key (e _ h)
 ·exact key (e _ h)
 ·exact key h
 ·cases h
theorem ybL (B:Nat) (v:Value) (k:Int) (l x:Lb) (w:World) (hf:zZ k x=true) (h1:1≤k) (h4:k≤4) (hl:l.length≤100000000) (hB:B≤w.heap.size) (hv:w.ownsRow B 5 1 v l.length (zN l)) (he:Env w) :
  Calls Tryz.prog 77 #[v,.string ⟨x.toArray⟩,.int .i64 (zY k:Int)] w (yhJ B w v (l++jD k x)):=by
 have e5:jD k x=be (zY k) (vT x):=by unfold jD;rw [if_neg (by omega)]
 rw [e5]
 by_cases hx:x=[]
 ·subst hx
  rw [yqa]
  exact (ybK B v l [] (zY k) w (ybs k) hl hB hv (by simp) rfl he).mono fun _ _=>yua
 ·obtain ⟨z,hz,hw⟩:=yod hf h1 h4 hx
  exact (yaN B v l x z (vT x) (zY k) w (ybs k) hl hB hv (by have:=ycc hf;omega) hz hw (yt9 x)).mono fun _ _=>yua
theorem yhY (a b:Lb):zN (a++b)=zN a++zN b:=by simp [zN]
theorem yni (x:Lb):strCells ⟨x.toArray⟩=zN x:=by simp [strCells,zN]
theorem yc7 (B:Nat) (v:Value) (l x:Lb) (w:World) (hx:x.length≤82) (hl:l.length≤100000000) (hB:B≤w.heap.size) (hv:w.ownsRow B 5 1 v l.length (zN l)) :
  Calls Tryz.prog 76 #[v,.string ⟨x.toArray⟩] w (yhJ B w v (l++(if x=[] then [] else UInt8.ofNat x.length::x))):=by
 obtain ⟨i0,hi,hz0,hz1,hz2⟩:=info_parts uF
 have HG:=h_ hv
 have HL:=h_ hl
 have HBB:=h_ hB
 clear hv hl hB
 by_cases he:x=[]
 ·subst he
  rw [if_pos rfl,List.append_nil]
  have HR:Hid (yhJ B w v l (.returned v) w):=h_ ⟨v,rfl,HG.out,ydE _ _⟩
  go_in
  go_wp2
  go_ret
  exact HR.out
 rw [if_neg he]
 obtain ⟨m,HM⟩:=ez (x.length)
 have hne:x.isEmpty=false:=by
  cases x with
  | nil=>exact absurd rfl he
  | cons=>rfl
 have hm82:(m:Int)≤82:=by rw [← HM.out];omega
 have hsz:(⟨x.toArray⟩:ByteArray).size=m:=by rw [← ByteArray.size_data];simpa using HM.out
 have hwr:IntKind.u8.wrap (m:Int)=((UInt8.ofNat m).toNat:Int):=by rw [UInt8.toNat_ofNat'];simp [IntKind.wrap_u8]
 have HX:=h_ hx
 clear hx
 obtain ⟨c,HC⟩:=ey (UInt8.ofNat m)
 have hcv:(m:Int)%256=((c.toNat:Nat):Int):=by rw [HC.out,UInt8.toNat_ofNat'];simp
 have hbl:Hid (l.length+1≤maxLen∧(l.length+1)*1≤140737488355328∧B≤w.heap.size+1):=h_ (by
  have h2:=HL.out
  have h3:=HBB.out
  unfold maxLen;omega)
 have zH:Hid (l++UInt8.ofNat x.length::x=(l++[c])++x):=h_ (by rw [HM.out,← HC.out];simp)
 rw [zH.out]
 go_in
 go_wp2_with (at_builtin;refine wpList_append_own_at _ rfl (.tmp 8) (.tmp 12) 39 rfl B 5 i0 (.int .u8 0) 1 1 Tryz.underlying39 hi hz0 hz1 hz2 rfl (by decide) _ _ _ rfl ((HG.out).alloc _) ⟨_,0,none⟩ 1 1 [.int .u8 (c.toNat:Int)] rfl rfl (cell_one_new _ _ _) (by intro u hu;simp at hu;subst hu;rfl) hbl.out.1 hbl.out.2.1 (by simp;exact hbl.out.2.2) ?_)
 intro v5 w5 yM yH _ uS
 have HG5:=h_ ((Grew.refl HG.out).next rfl yM yH uS)
 have yeB:Hid ((l++[c]).length+(⟨x.toArray⟩:ByteArray).size≤maxLen∧(l++[c]).length+(⟨x.toArray⟩:ByteArray).size≤140737488355328∧B≤w5.heap.size):=h_ (by
  have h2:=HL.out
  have h3:=HBB.out
  have h4:=HG5.out.grown.size
  rw [hsz,List.length_append,List.length_singleton]
  unfold maxLen;omega)
 clear yM yH uS hbl
 go_wp2_with (at_builtin;refine wpList_append_own_string _ rfl (.tmp 14) (.tmp 15) 39 9 rfl B 5 i0 Tryz.underlying39 Tryz.underlying9 hi hz0 hz1 hz2 _ _ _ rfl HG5.out.own ⟨x.toArray⟩ rfl yeB.out.1 yeB.out.2.1 yeB.out.2.2 ?_)
 intro v6 w6 yba ya1 _
 have HG6:Hid (Gro B w v (l++[c]++x) w6 v6):=h_ (by
  refine ⟨?_,?_⟩
  ·rw [yni,← yhY] at yba
   have e:l.length+1+m=(l++[c]++x).length:=by simp only [List.length_append,HM.out,List.length_singleton]
   rw [e] at yba
   exact yba
  ·refine yc4 HG5.out.grown ya1 (fun j hj=>?_)
   rcases HG5.out.lies with h|⟨i,h,h2⟩
   ·exact .inl h
   ·rw [h] at hj;cases hj;exact .inr h2)
 clear yba ya1
 go_wp2
 go_ret
 exact ⟨_,rfl,HG6.out⟩
end Go.Proofs.YtgepehlpjpccaaaGreatDoor
