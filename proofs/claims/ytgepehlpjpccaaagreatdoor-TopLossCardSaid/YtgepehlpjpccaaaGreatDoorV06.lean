/- Contracts. -/
import Derived.Test.YtgepehlpjpccaaaGreatDoorV05
namespace Go.Proofs.YtgepehlpjpccaaaGreatDoor
open Go.RowKit Big
set_option maxHeartbeats 6400000
set_option maxRecDepth 100000
section
def ybF (s:Bool) (a b:Nat) (t:Bool) (c d K:Nat) (w:World) (e:Ending) (w':World):Prop :=
 ∃ x r n m,e=.returned x∧jU w' x r n m∧Below w.heap.size w w'∧0<m∧yL r n m=yL s a b+yL t c d∧n<yB^(2*K+1)∧m<yB^(2*K+1)
structure Common (s:Bool) (a b:Nat) (t:Bool) (c d K A B M:Nat):Prop where
 pos:0<M
 eqA:yL s A M=yL s a b
 eqB:yL t B M=yL t c d
 ltA:A<yB^(2*K)
 ltB:B<yB^(2*K)
 ltM0:M<yB^(2*K)
theorem ysM (K:Nat):yB^(2*K+1)=yB^(2*K)*yB:=Nat.pow_succ _ _
theorem Common.ltM {s:Bool} {a b:Nat} {t:Bool} {c d K A B M:Nat} (h:Common s a b t c d K A B M):M<yB^(2*K+1):=by
 have:=h.ltM0
 have h2:yB^(2*K)≤yB^(2*K+1):=Nat.pow_le_pow_right yR (by omega)
 omega
theorem Common.ltP {s:Bool} {a b:Nat} {t:Bool} {c d K A B M:Nat} (h:Common s a b t c d K A B M):A+B<yB^(2*K+1):=by
 have h1:=h.ltA
 have h2:=h.ltB
 have h3:yB^(2*K)*2≤yB^(2*K)*yB:=Nat.mul_le_mul_left _ (by rw [yM];omega)
 rw [ysM];omega
theorem Common.ltAm {s:Bool} {a b:Nat} {t:Bool} {c d K A B M:Nat} (h:Common s a b t c d K A B M):A-B<yB^(2*K+1):=by have:=h.ltP;omega
theorem Common.ltBm {s:Bool} {a b:Nat} {t:Bool} {c d K A B M:Nat} (h:Common s a b t c d K A B M):B-A<yB^(2*K+1):=by have:=h.ltP;omega
theorem Common.sumP {s:Bool} {a b:Nat} {t:Bool} {c d K A B M:Nat} (h:Common s a b t c d K A B M) (hst:s=t):yL s (A+B) M=yL s a b+yL t c d:=by
 subst hst;rw [yeS,h.eqA,h.eqB]
theorem Common.sumA {s:Bool} {a b:Nat} {t:Bool} {c d K A B M:Nat} (h:Common s a b t c d K A B M) (hst:s≠t) (hlt:¬ A<B):yL s (A-B) M=yL s a b+yL t c d:=by
 rw [yaH hst (by omega),h.eqA,h.eqB]
theorem Common.sumB {s:Bool} {a b:Nat} {t:Bool} {c d K A B M:Nat} (h:Common s a b t c d K A B M) (hst:s≠t) (hlt:A<B):yL t (B-A) M=yL s a b+yL t c d:=by
 rw [yaH (Ne.symm hst) (by omega),h.eqA,h.eqB,Rat.add_comm]
theorem Common.same {s:Bool} {a b:Nat} {t:Bool} {c K:Nat} (ha:a<yB^K) (hb:b<yB^K) (hc:c<yB^K) (hb0:0<b):Common s a b t c b K a c b:=by
 have h2:yB^K≤yB^(2*K):=Nat.pow_le_pow_right yR (by omega)
 exact ⟨hb0,rfl,rfl,by omega,by omega,by omega⟩
theorem yfU (K:Nat):yB^(2*K)=yB^K*yB^K:=by rw [Nat.two_mul,Nat.pow_add]
theorem Common.made {s:Bool} {a b:Nat} {t:Bool} {c d K:Nat} (ha:a<yB^K) (hb:b<yB^K) (hc:c<yB^K) (hd:d<yB^K) (hb0:0<b) (hd0:0<d):Common s a b t c d K (a*d) (c*b) (b*d):=by
 refine ⟨Nat.mul_pos hb0 hd0,vZ hb0 hd0,?_,?_,?_,?_⟩
 ·rw [Nat.mul_comm b d];exact vZ hd0 hb0
 ·rw [yfU];exact Nat.mul_lt_mul'' ha hd
 ·rw [yfU];exact Nat.mul_lt_mul'' hc hb
 ·rw [yfU];exact Nat.mul_lt_mul'' hb hd
theorem yo0 (x y:Value) (s t:Bool) (a b c d K:Nat) (w:World) (hK:2*K+1≤1073741824) (ha:a<yB^K) (hb:b<yB^K) (hc:c<yB^K) (hd:d<yB^K) (hb0:0<b) (hd0:0<d) (hx:jU w x s a b) (hy:jU w y t c d) :
  Calls Tryz.prog 89 #[x,y] w (ybF s a b t c d K w):=by
 obtain ⟨u1,v1,rfl,hu1,hv1,hs1⟩:=hx
 obtain ⟨u2,v2,rfl,hu2,hv2,hs2⟩:=hy
 obtain ⟨p1,n1,k1,rfl⟩:=hu1.slice
 obtain ⟨p2,n2,k2,rfl⟩:=hv1.slice
 obtain ⟨p3,n3,k3,rfl⟩:=hu2.slice
 obtain ⟨p4,n4,k4,rfl⟩:=hv2.slice
 have jV:=Two.start w s (.slice p1 n1 k1) (.slice p2 n2 k2) t (.slice p3 n3 k3) (.slice p4 n4 k4)
 obtain ⟨w0,hw0⟩:∃ w0,w0=(((w.alloc (.cells #[.bool s,(.slice p1 n1 k1),(.slice p2 n2 k2)] 98)).alloc (.cells #[.bool t,(.slice p3 n3 k3),(.slice p4 n4 k4)] 98)).alloc (.cells #[.bool false,.slice none 0 0,.slice none 0 0] 98)):=⟨_,rfl⟩
 rw [← hw0] at jV
 have Htwo:=yA jV
 obtain ⟨-,c0,c1,c2,c3,c4,c5⟩:=jV.all
 have HU1:=yA hu1
 have HV1:=yA hv1
 have HU2:=yA hu2
 have HV2:=yA hv2
 have Hw0:=yA hw0
 have htB:=yA Htwo.out.below
 clear hu1 hv1 hu2 hv2 hs1 hs2 jV hw0
 go_enter Tryz.func89,Tryz.ntmps89
 go_wp2_with fail
 rw [← Hw0.out]
 go_quiet (fail)
 go_wp2_with fail
 refine (yaW (.slice p2 n2 k2) (.slice p4 n4 k4) b d K _ (by unfold yC;omega) hb hd ((HV1.out.below htB.out).below (yG _ _ _)) ((HV2.out.below htB.out).below (yG _ _ _))).mono ?_
 rintro e w1 ⟨rfl,k,rfl⟩
 obtain ⟨W,hW⟩:∃ W,W=(w0.drewN nq).drewN k:=⟨_,rfl⟩
 have htw:Hid (Two w.heap.size s (.slice p1 n1 k1) (.slice p2 n2 k2) t (.slice p3 n3 k3) (.slice p4 n4 k4) w W):=yA (by rw [hW];exact (Htwo.out.next (yG _ _ _)).next (yG _ _ _))
 rw [← hW]
 have HUW:=yA (show yH W (.slice p1 n1 k1) a by rw [hW];exact ((HU1.out.below htB.out).drewN _).drewN _)
 have HVW:=yA (show yH W (.slice p2 n2 k2) b by rw [hW];exact ((HV1.out.below htB.out).drewN _).drewN _)
 have HUW2:=yA (show yH W (.slice p3 n3 k3) c by rw [hW];exact ((HU2.out.below htB.out).drewN _).drewN _)
 have HVW2:=yA (show yH W (.slice p4 n4 k4) d by rw [hW];exact ((HV2.out.below htB.out).drewN _).drewN _)
 clear hW c0 c1 c2 c3 c4 c5
 obtain ⟨-,c0,c1,c2,c3,c4,c5⟩:=htw.out.all
 by_cases hbd:b=d
 ·subst hbd
  have hz:zZ b b=0:=by simp [zZ]
  rw [hz]
  have hF:Hid (Common s a b t c b K a c b):=yA (Common.same ha hb hc hb0)
  obtain ⟨A,hAq⟩:∃ A,A=a:=⟨_,rfl⟩
  obtain ⟨B,hBq⟩:∃ B,B=c:=⟨_,rfl⟩
  obtain ⟨M,hMq⟩:∃ M,M=b:=⟨_,rfl⟩
  have hA:Hid (yH W (.slice p1 n1 k1) A):=yA (by rw [hAq];exact HUW.out)
  have hB:Hid (yH W (.slice p3 n3 k3) B):=yA (by rw [hBq];exact HUW2.out)
  have hM:Hid (yH W (.slice p2 n2 k2) M):=yA (by rw [hMq];exact HVW.out)
  have hF:Hid (Common s a b t c b K A B M):=yA (by rw [hAq,hBq,hMq];exact hF.out)
  clear hAq hBq hMq hz
  by_cases hst:s=t
  ·subst hst
   have hst':(s==s)=true:=by simp
   go_wp2_with fail
   have hop:Hid (∀ W',Below W.heap.size W W'→Calls Tryz.prog 138 #[.slice p1 n1 k1,.slice p3 n3 k3] W' (zB (A+B) W')):=yA fun W' h=>ybq _ _ _ _ (2*K) W' (by unfold yC;omega) hF.out.ltA hF.out.ltB (hA.out.below h) (hB.out.below h)
   obtain ⟨-,c0,c1,c2,c3,c4,c5⟩:=htw.out.all
   go_region_held3 (fun w'=>Two w.heap.size s (.slice p1 n1 k1) (.slice p2 n2 k2) s (.slice p3 n3 k3) (.slice p4 n4 k4) w w'∧w'.cell? ⟨w.heap.size,0,none⟩=some (.bool s)∧w'.cell? ⟨w.heap.size,1,none⟩=some (.slice p1 n1 k1)∧w'.cell? ⟨w.heap.size,2,none⟩=some (.slice p2 n2 k2)∧w'.cell? ⟨w.heap.size+1,0,none⟩=some (.bool s)∧w'.cell? ⟨w.heap.size+1,1,none⟩=some (.slice p3 n3 k3)∧w'.cell? ⟨w.heap.size+1,2,none⟩=some (.slice p4 n4 k4))
    (first|exact Two.all (Two.drew htw.out)|exact Two.all htw.out|(go_split_ands;exact Two.all (Two.next (by assumption) hb1))|(go_split_ands;exact Two.all (Two.next (by assumption) hb3))|(go_split_ands;exact Two.all (Two.put3 (by assumption) (Nat.le_refl _) _ _ _ _ _ _ _))|go_keep)
    (first|(go_at_call 138;go_split_ands;refine (hop.out _ (Below.drew (Below.refl _ _))).mono ?_;rintro e w1 ⟨vt,rfl,hvt,hb1⟩;obtain ⟨pt,nt,ct,rfl⟩:=hvt.slice)|(go_at_call 132;go_split_ands;refine (vI _ _ _ _ _ _ hvt ((hM.out.below (Below.drew (Below.refl _ _))).below hb1)).mono ?_;rintro e w3 ⟨rfl,hb3⟩;have htw:=Two.next (by assumption) hb3;obtain ⟨z0,z1,z2,l0,l1,l2,f0,f1,f2⟩:=Two.slots htw))
   go_wp2_with fail
   have q1:=htw.nat3 (Nat.le_refl _) (hvt.below hb3) (s&&!((A+B)==0)) pt p2 nt ct n2 k2
   have q2:=htw.nat3 (Nat.le_refl _) (((hM.out.below (Below.drew (Below.refl _ _))).below hb1).below hb3) (s&&!((A+B)==0)) pt p2 nt ct n2 k2
   have q3:=(htw.put3 (Nat.le_refl _) (s&&!((A+B)==0)) pt p2 nt ct n2 k2).below
   have yD:Hid (∀ W',W'=(((w3.setCell ⟨w.heap.size+1+1,0,none⟩ (.bool (s&&!((A+B)==0)))).setCell ⟨w.heap.size+1+1,1,none⟩ (.slice pt nt ct)).setCell ⟨w.heap.size+1+1,2,none⟩ (.slice p2 n2 k2))→ybF s a b s c b K w (.returned (.agg #[.bool (s&&!((A+B)==0)),.slice pt nt ct,.slice p2 n2 k2])) W'):=yA (by
    rintro W' rfl
    refine ⟨_,_,_,_,rfl,⟨_,_,rfl,q1,q2,by intro h;simp at h;omega⟩,q3,hF.out.pos,?_,hF.out.ltP,hF.out.ltM⟩
    rw [jQ]
    exact hF.out.sumP rfl)
   refine bodyPost_ret (v:=.agg #[.bool (s&&!((A+B)==0)),.slice pt nt ct,.slice p2 n2 k2]) (by simp [results,Tryz.results89,go_sem,l0,l1,l2]) rfl ?_
   exact yD.out _ rfl
  ·have hst':(s==t)=false:=by simpa using hst
   have hcm:Hid (Calls Tryz.prog 137 #[.slice p1 n1 k1,.slice p3 n3 k3] W (GV A B W)):=yA (yaW _ _ _ _ (2*K) _ (by unfold yC;omega) hF.out.ltA hF.out.ltB hA.out hB.out)
   go_wp2_with fail
   refine hcm.out.mono ?_
   rintro e w5 ⟨rfl,k5,rfl⟩
   have yhj:Hid (Two w.heap.size s (.slice p1 n1 k1) (.slice p2 n2 k2) t (.slice p3 n3 k3) (.slice p4 n4 k4) w (W.drewN k5)):=yA (htw.out.next (yG _ _ _))
   have hMd:Hid (yH (W.drewN k5) (.slice p2 n2 k2) M):=yA (hM.out.drewN _)
   by_cases hlt:A<B
   ·have hz:zZ A B=-1:=yjb hlt
    rw [hz]
    have hlt':=yA hlt
    clear hlt hz
    clear c0 c1 c2 c3 c4 c5
    have hM0:=hM
    have yv6:=htw
    clear hM htw
    have hM:=hMd
    have htw:=yhj
    clear hMd yhj
    obtain ⟨-,c0,c1,c2,c3,c4,c5⟩:=htw.out.all
    go_wp2_with fail
    have hop:Hid (∀ W',Below (W.drewN k5).heap.size (W.drewN k5) W'→Calls Tryz.prog 139 #[.slice p3 n3 k3,.slice p1 n1 k1] W' (zB (B-A) W')):=yA fun W' h=>ydk _ _ _ _ (2*K) W' (by unfold yC;omega) hF.out.ltB (by have:=hlt'.out;omega) ((hB.out.drewN k5).below h) ((hA.out.drewN k5).below h)
    obtain ⟨-,c0,c1,c2,c3,c4,c5⟩:=htw.out.all
    go_region_held3 (fun w'=>Two w.heap.size s (.slice p1 n1 k1) (.slice p2 n2 k2) t (.slice p3 n3 k3) (.slice p4 n4 k4) w w'∧w'.cell? ⟨w.heap.size,0,none⟩=some (.bool s)∧w'.cell? ⟨w.heap.size,1,none⟩=some (.slice p1 n1 k1)∧w'.cell? ⟨w.heap.size,2,none⟩=some (.slice p2 n2 k2)∧w'.cell? ⟨w.heap.size+1,0,none⟩=some (.bool t)∧w'.cell? ⟨w.heap.size+1,1,none⟩=some (.slice p3 n3 k3)∧w'.cell? ⟨w.heap.size+1,2,none⟩=some (.slice p4 n4 k4))
     (first|exact Two.all (Two.drew htw.out)|exact Two.all htw.out|(go_split_ands;exact Two.all (Two.next (by assumption) hb1))|(go_split_ands;exact Two.all (Two.next (by assumption) hb3))|(go_split_ands;exact Two.all (Two.put3 (by assumption) (Nat.le_refl _) _ _ _ _ _ _ _))|go_keep)
     (first|(go_at_call 139;go_split_ands;refine (hop.out _ (Below.drew (Below.refl _ _))).mono ?_;rintro e w1 ⟨vt,rfl,hvt,hb1⟩;obtain ⟨pt,nt,ct,rfl⟩:=hvt.slice)|(go_at_call 132;go_split_ands;refine (vI _ _ _ _ _ _ hvt ((hM.out.below (Below.drew (Below.refl _ _))).below hb1)).mono ?_;rintro e w3 ⟨rfl,hb3⟩;have htw:=Two.next (by assumption) hb3;obtain ⟨z0,z1,z2,l0,l1,l2,f0,f1,f2⟩:=Two.slots htw))
    go_wp2_with fail
    have q1:=htw.nat3 (Nat.le_refl _) (hvt.below hb3) (t&&!((B-A)==0)) pt p2 nt ct n2 k2
    have q2:=htw.nat3 (Nat.le_refl _) (((hM.out.below (Below.drew (Below.refl _ _))).below hb1).below hb3) (t&&!((B-A)==0)) pt p2 nt ct n2 k2
    have q3:=(htw.put3 (Nat.le_refl _) (t&&!((B-A)==0)) pt p2 nt ct n2 k2).below
    have yD:Hid (∀ W',W'=(((w3.setCell ⟨w.heap.size+1+1,0,none⟩ (.bool (t&&!((B-A)==0)))).setCell ⟨w.heap.size+1+1,1,none⟩ (.slice pt nt ct)).setCell ⟨w.heap.size+1+1,2,none⟩ (.slice p2 n2 k2))→ybF s a b t c b K w (.returned (.agg #[.bool (t&&!((B-A)==0)),.slice pt nt ct,.slice p2 n2 k2])) W'):=yA (by
     rintro W' rfl
     refine ⟨_,_,_,_,rfl,⟨_,_,rfl,q1,q2,by intro h;simp at h;omega⟩,q3,hF.out.pos,?_,hF.out.ltBm,hF.out.ltM⟩
     rw [jQ]
     exact hF.out.sumB hst hlt'.out)
    refine bodyPost_ret (v:=.agg #[.bool (t&&!((B-A)==0)),.slice pt nt ct,.slice p2 n2 k2]) (by simp [results,Tryz.results89,go_sem,l0,l1,l2]) rfl ?_
    exact yD.out _ rfl
   ·obtain ⟨z,hz,hz0⟩:∃ z:Int,zZ A B=z∧(0:Int)≤z:=⟨_,rfl,by rcases yfR hlt with h|h<;>rw [h]<;>omega⟩
    rw [hz]
    have hlt':=yA hlt
    clear hlt hz
    clear c0 c1 c2 c3 c4 c5
    have hM0:=hM
    have yv6:=htw
    clear hM htw
    have hM:=hMd
    have htw:=yhj
    clear hMd yhj
    obtain ⟨-,c0,c1,c2,c3,c4,c5⟩:=htw.out.all
    go_wp2_with fail
    have hop:Hid (∀ W',Below (W.drewN k5).heap.size (W.drewN k5) W'→Calls Tryz.prog 139 #[.slice p1 n1 k1,.slice p3 n3 k3] W' (zB (A-B) W')):=yA fun W' h=>ydk _ _ _ _ (2*K) W' (by unfold yC;omega) hF.out.ltA (by have:=hlt'.out;omega) ((hA.out.drewN k5).below h) ((hB.out.drewN k5).below h)
    obtain ⟨-,c0,c1,c2,c3,c4,c5⟩:=htw.out.all
    go_region_held3 (fun w'=>Two w.heap.size s (.slice p1 n1 k1) (.slice p2 n2 k2) t (.slice p3 n3 k3) (.slice p4 n4 k4) w w'∧w'.cell? ⟨w.heap.size,0,none⟩=some (.bool s)∧w'.cell? ⟨w.heap.size,1,none⟩=some (.slice p1 n1 k1)∧w'.cell? ⟨w.heap.size,2,none⟩=some (.slice p2 n2 k2)∧w'.cell? ⟨w.heap.size+1,0,none⟩=some (.bool t)∧w'.cell? ⟨w.heap.size+1,1,none⟩=some (.slice p3 n3 k3)∧w'.cell? ⟨w.heap.size+1,2,none⟩=some (.slice p4 n4 k4))
     (first|exact Two.all (Two.drew htw.out)|exact Two.all htw.out|(go_split_ands;exact Two.all (Two.next (by assumption) hb1))|(go_split_ands;exact Two.all (Two.next (by assumption) hb3))|(go_split_ands;exact Two.all (Two.put3 (by assumption) (Nat.le_refl _) _ _ _ _ _ _ _))|go_keep)
     (first|(go_at_call 139;go_split_ands;refine (hop.out _ (Below.drew (Below.refl _ _))).mono ?_;rintro e w1 ⟨vt,rfl,hvt,hb1⟩;obtain ⟨pt,nt,ct,rfl⟩:=hvt.slice)|(go_at_call 132;go_split_ands;refine (vI _ _ _ _ _ _ hvt ((hM.out.below (Below.drew (Below.refl _ _))).below hb1)).mono ?_;rintro e w3 ⟨rfl,hb3⟩;have htw:=Two.next (by assumption) hb3;obtain ⟨z0,z1,z2,l0,l1,l2,f0,f1,f2⟩:=Two.slots htw))
    go_wp2_with fail
    have q1:=htw.nat3 (Nat.le_refl _) (hvt.below hb3) (s&&!((A-B)==0)) pt p2 nt ct n2 k2
    have q2:=htw.nat3 (Nat.le_refl _) (((hM.out.below (Below.drew (Below.refl _ _))).below hb1).below hb3) (s&&!((A-B)==0)) pt p2 nt ct n2 k2
    have q3:=(htw.put3 (Nat.le_refl _) (s&&!((A-B)==0)) pt p2 nt ct n2 k2).below
    have yD:Hid (∀ W',W'=(((w3.setCell ⟨w.heap.size+1+1,0,none⟩ (.bool (s&&!((A-B)==0)))).setCell ⟨w.heap.size+1+1,1,none⟩ (.slice pt nt ct)).setCell ⟨w.heap.size+1+1,2,none⟩ (.slice p2 n2 k2))→ybF s a b t c b K w (.returned (.agg #[.bool (s&&!((A-B)==0)),.slice pt nt ct,.slice p2 n2 k2])) W'):=yA (by
     rintro W' rfl
     refine ⟨_,_,_,_,rfl,⟨_,_,rfl,q1,q2,by intro h;simp at h;omega⟩,q3,hF.out.pos,?_,hF.out.ltAm,hF.out.ltM⟩
     rw [jQ]
     exact hF.out.sumA hst hlt'.out)
    refine bodyPost_ret (v:=.agg #[.bool (s&&!((A-B)==0)),.slice pt nt ct,.slice p2 n2 k2]) (by simp [results,Tryz.results89,go_sem,l0,l1,l2]) rfl ?_
    exact yD.out _ rfl
 ·have hz:(zZ b d != 0)=true:=by
   rw [bne_iff_ne];unfold zZ
   split
   ·omega
   ·split<;>omega
  have hF:Hid (Common s a b t c d K (a*d) (c*b) (b*d)):=yA (Common.made ha hb hc hd hb0 hd0)
  have hm1:Hid (Calls Tryz.prog 133 #[(.slice p1 n1 k1),(.slice p4 n4 k4)] W (zB (a*d) W)):=yA (uF _ _ _ _ K W (by omega) ha hd HUW.out HVW2.out)
  go_wp2_with fail
  refine hm1.out.mono ?_
  rintro e Wa ⟨va,rfl,hva,hba⟩
  have yv7:=htw.out.next hba
  obtain ⟨-,c0,c1,c2,c3,c4,c5⟩:=yv7.all
  have hm2:Hid (Calls Tryz.prog 133 #[(.slice p3 n3 k3),(.slice p2 n2 k2)] Wa (zB (c*b) Wa)):=yA (uF _ _ _ _ K Wa (by omega) hc hb (HUW2.out.below hba) (HVW.out.below hba))
  have Htwa:=yA yv7
  clear yv7
  go_wp2_with fail
  refine hm2.out.mono ?_
  rintro e Wb ⟨vb,rfl,hvb,hbb⟩
  have yv8:=Htwa.out.next hbb
  obtain ⟨-,c0,c1,c2,c3,c4,c5⟩:=yv8.all
  have hab:=hba.trans (hbb.mono hba.size)
  have hm3:Hid (Calls Tryz.prog 133 #[(.slice p2 n2 k2),(.slice p4 n4 k4)] Wb (zB (b*d) Wb)):=yA (uF _ _ _ _ K Wb (by omega) hb hd (HVW.out.below hab) (HVW2.out.below hab))
  have Htwb:=yA yv8
  clear yv8
  go_wp2_with fail
  refine hm3.out.mono ?_
  rintro e Wc ⟨vc,rfl,hvc,hbc⟩
  have htw:Hid (Two w.heap.size s (.slice p1 n1 k1) (.slice p2 n2 k2) t (.slice p3 n3 k3) (.slice p4 n4 k4) w Wc):=yA (Htwb.out.next hbc)
  obtain ⟨-,c0,c1,c2,c3,c4,c5⟩:=htw.out.all
  obtain ⟨A,hAq⟩:∃ A,A=a*d:=⟨_,rfl⟩
  obtain ⟨B,hBq⟩:∃ B,B=c*b:=⟨_,rfl⟩
  obtain ⟨M,hMq⟩:∃ M,M=b*d:=⟨_,rfl⟩
  rw [← hAq,← hBq,← hMq] at hF
  have hA:Hid (yH Wc va A):=yA (by rw [hAq];exact (hva.below hbb).below hbc)
  have hB:Hid (yH Wc vb B):=yA (by rw [hBq];exact hvb.below hbc)
  have hM:Hid (yH Wc vc M):=yA (by rw [hMq];exact hvc)
  clear hAq hBq hMq hva hvb hvc hz
  obtain ⟨pa,na,ca,rfl⟩:=hA.out.slice
  obtain ⟨pb,nb,cb,rfl⟩:=hB.out.slice
  obtain ⟨pm,nm,cm,rfl⟩:=hM.out.slice
  by_cases hst:s=t
  ·subst hst
   have hst':(s==s)=true:=by simp
   go_wp2_with fail
   have hop:Hid (∀ W',Below Wc.heap.size Wc W'→Calls Tryz.prog 138 #[.slice pa na ca,.slice pb nb cb] W' (zB (A+B) W')):=yA fun W' h=>ybq _ _ _ _ (2*K) W' (by unfold yC;omega) hF.out.ltA hF.out.ltB (hA.out.below h) (hB.out.below h)
   obtain ⟨-,c0,c1,c2,c3,c4,c5⟩:=htw.out.all
   go_region_held3 (fun w'=>Two w.heap.size s (.slice p1 n1 k1) (.slice p2 n2 k2) s (.slice p3 n3 k3) (.slice p4 n4 k4) w w'∧w'.cell? ⟨w.heap.size,0,none⟩=some (.bool s)∧w'.cell? ⟨w.heap.size,1,none⟩=some (.slice p1 n1 k1)∧w'.cell? ⟨w.heap.size,2,none⟩=some (.slice p2 n2 k2)∧w'.cell? ⟨w.heap.size+1,0,none⟩=some (.bool s)∧w'.cell? ⟨w.heap.size+1,1,none⟩=some (.slice p3 n3 k3)∧w'.cell? ⟨w.heap.size+1,2,none⟩=some (.slice p4 n4 k4))
    (first|exact Two.all (Two.drew htw.out)|exact Two.all htw.out|(go_split_ands;exact Two.all (Two.next (by assumption) hb1))|(go_split_ands;exact Two.all (Two.next (by assumption) hb3))|(go_split_ands;exact Two.all (Two.put3 (by assumption) (Nat.le_refl _) _ _ _ _ _ _ _))|go_keep)
    (first|(go_at_call 138;go_split_ands;refine (hop.out _ (Below.drew (Below.refl _ _))).mono ?_;rintro e w1 ⟨vt,rfl,hvt,hb1⟩;obtain ⟨pt,nt,ct,rfl⟩:=hvt.slice)|(go_at_call 132;go_split_ands;refine (vI _ _ _ _ _ _ hvt ((hM.out.below (Below.drew (Below.refl _ _))).below hb1)).mono ?_;rintro e w3 ⟨rfl,hb3⟩;have htw:=Two.next (by assumption) hb3;obtain ⟨z0,z1,z2,l0,l1,l2,f0,f1,f2⟩:=Two.slots htw))
   go_wp2_with fail
   have q1:=htw.nat3 (Nat.le_refl _) (hvt.below hb3) (s&&!((A+B)==0)) pt pm nt ct nm cm
   have q2:=htw.nat3 (Nat.le_refl _) (((hM.out.below (Below.drew (Below.refl _ _))).below hb1).below hb3) (s&&!((A+B)==0)) pt pm nt ct nm cm
   have q3:=(htw.put3 (Nat.le_refl _) (s&&!((A+B)==0)) pt pm nt ct nm cm).below
   have yD:Hid (∀ W',W'=(((w3.setCell ⟨w.heap.size+1+1,0,none⟩ (.bool (s&&!((A+B)==0)))).setCell ⟨w.heap.size+1+1,1,none⟩ (.slice pt nt ct)).setCell ⟨w.heap.size+1+1,2,none⟩ (.slice pm nm cm))→ybF s a b s c d K w (.returned (.agg #[.bool (s&&!((A+B)==0)),.slice pt nt ct,.slice pm nm cm])) W'):=yA (by
    rintro W' rfl
    refine ⟨_,_,_,_,rfl,⟨_,_,rfl,q1,q2,by intro h;simp at h;omega⟩,q3,hF.out.pos,?_,hF.out.ltP,hF.out.ltM⟩
    rw [jQ]
    exact hF.out.sumP rfl)
   refine bodyPost_ret (v:=.agg #[.bool (s&&!((A+B)==0)),.slice pt nt ct,.slice pm nm cm]) (by simp [results,Tryz.results89,go_sem,l0,l1,l2]) rfl ?_
   exact yD.out _ rfl
  ·have hst':(s==t)=false:=by simpa using hst
   have hcm:Hid (Calls Tryz.prog 137 #[.slice pa na ca,.slice pb nb cb] Wc (GV A B Wc)):=yA (yaW _ _ _ _ (2*K) _ (by unfold yC;omega) hF.out.ltA hF.out.ltB hA.out hB.out)
   go_wp2_with fail
   refine hcm.out.mono ?_
   rintro e w5 ⟨rfl,k5,rfl⟩
   have yhj:Hid (Two w.heap.size s (.slice p1 n1 k1) (.slice p2 n2 k2) t (.slice p3 n3 k3) (.slice p4 n4 k4) w (Wc.drewN k5)):=yA (htw.out.next (yG _ _ _))
   have hMd:Hid (yH (Wc.drewN k5) (.slice pm nm cm) M):=yA (hM.out.drewN _)
   by_cases hlt:A<B
   ·have hz:zZ A B=-1:=yjb hlt
    rw [hz]
    have hlt':=yA hlt
    clear hlt hz
    clear c0 c1 c2 c3 c4 c5
    have hM0:=hM
    have yv6:=htw
    clear hM htw
    have hM:=hMd
    have htw:=yhj
    clear hMd yhj
    obtain ⟨-,c0,c1,c2,c3,c4,c5⟩:=htw.out.all
    go_wp2_with fail
    have hop:Hid (∀ W',Below (Wc.drewN k5).heap.size (Wc.drewN k5) W'→Calls Tryz.prog 139 #[.slice pb nb cb,.slice pa na ca] W' (zB (B-A) W')):=yA fun W' h=>ydk _ _ _ _ (2*K) W' (by unfold yC;omega) hF.out.ltB (by have:=hlt'.out;omega) ((hB.out.drewN k5).below h) ((hA.out.drewN k5).below h)
    obtain ⟨-,c0,c1,c2,c3,c4,c5⟩:=htw.out.all
    go_region_held3 (fun w'=>Two w.heap.size s (.slice p1 n1 k1) (.slice p2 n2 k2) t (.slice p3 n3 k3) (.slice p4 n4 k4) w w'∧w'.cell? ⟨w.heap.size,0,none⟩=some (.bool s)∧w'.cell? ⟨w.heap.size,1,none⟩=some (.slice p1 n1 k1)∧w'.cell? ⟨w.heap.size,2,none⟩=some (.slice p2 n2 k2)∧w'.cell? ⟨w.heap.size+1,0,none⟩=some (.bool t)∧w'.cell? ⟨w.heap.size+1,1,none⟩=some (.slice p3 n3 k3)∧w'.cell? ⟨w.heap.size+1,2,none⟩=some (.slice p4 n4 k4))
     (first|exact Two.all (Two.drew htw.out)|exact Two.all htw.out|(go_split_ands;exact Two.all (Two.next (by assumption) hb1))|(go_split_ands;exact Two.all (Two.next (by assumption) hb3))|(go_split_ands;exact Two.all (Two.put3 (by assumption) (Nat.le_refl _) _ _ _ _ _ _ _))|go_keep)
     (first|(go_at_call 139;go_split_ands;refine (hop.out _ (Below.drew (Below.refl _ _))).mono ?_;rintro e w1 ⟨vt,rfl,hvt,hb1⟩;obtain ⟨pt,nt,ct,rfl⟩:=hvt.slice)|(go_at_call 132;go_split_ands;refine (vI _ _ _ _ _ _ hvt ((hM.out.below (Below.drew (Below.refl _ _))).below hb1)).mono ?_;rintro e w3 ⟨rfl,hb3⟩;have htw:=Two.next (by assumption) hb3;obtain ⟨z0,z1,z2,l0,l1,l2,f0,f1,f2⟩:=Two.slots htw))
    go_wp2_with fail
    have q1:=htw.nat3 (Nat.le_refl _) (hvt.below hb3) (t&&!((B-A)==0)) pt pm nt ct nm cm
    have q2:=htw.nat3 (Nat.le_refl _) (((hM.out.below (Below.drew (Below.refl _ _))).below hb1).below hb3) (t&&!((B-A)==0)) pt pm nt ct nm cm
    have q3:=(htw.put3 (Nat.le_refl _) (t&&!((B-A)==0)) pt pm nt ct nm cm).below
    have yD:Hid (∀ W',W'=(((w3.setCell ⟨w.heap.size+1+1,0,none⟩ (.bool (t&&!((B-A)==0)))).setCell ⟨w.heap.size+1+1,1,none⟩ (.slice pt nt ct)).setCell ⟨w.heap.size+1+1,2,none⟩ (.slice pm nm cm))→ybF s a b t c d K w (.returned (.agg #[.bool (t&&!((B-A)==0)),.slice pt nt ct,.slice pm nm cm])) W'):=yA (by
     rintro W' rfl
     refine ⟨_,_,_,_,rfl,⟨_,_,rfl,q1,q2,by intro h;simp at h;omega⟩,q3,hF.out.pos,?_,hF.out.ltBm,hF.out.ltM⟩
     rw [jQ]
     exact hF.out.sumB hst hlt'.out)
    refine bodyPost_ret (v:=.agg #[.bool (t&&!((B-A)==0)),.slice pt nt ct,.slice pm nm cm]) (by simp [results,Tryz.results89,go_sem,l0,l1,l2]) rfl ?_
    exact yD.out _ rfl
   ·obtain ⟨z,hz,hz0⟩:∃ z:Int,zZ A B=z∧(0:Int)≤z:=⟨_,rfl,by rcases yfR hlt with h|h<;>rw [h]<;>omega⟩
    rw [hz]
    have hlt':=yA hlt
    clear hlt hz
    clear c0 c1 c2 c3 c4 c5
    have hM0:=hM
    have yv6:=htw
    clear hM htw
    have hM:=hMd
    have htw:=yhj
    clear hMd yhj
    obtain ⟨-,c0,c1,c2,c3,c4,c5⟩:=htw.out.all
    go_wp2_with fail
    have hop:Hid (∀ W',Below (Wc.drewN k5).heap.size (Wc.drewN k5) W'→Calls Tryz.prog 139 #[.slice pa na ca,.slice pb nb cb] W' (zB (A-B) W')):=yA fun W' h=>ydk _ _ _ _ (2*K) W' (by unfold yC;omega) hF.out.ltA (by have:=hlt'.out;omega) ((hA.out.drewN k5).below h) ((hB.out.drewN k5).below h)
    obtain ⟨-,c0,c1,c2,c3,c4,c5⟩:=htw.out.all
    go_region_held3 (fun w'=>Two w.heap.size s (.slice p1 n1 k1) (.slice p2 n2 k2) t (.slice p3 n3 k3) (.slice p4 n4 k4) w w'∧w'.cell? ⟨w.heap.size,0,none⟩=some (.bool s)∧w'.cell? ⟨w.heap.size,1,none⟩=some (.slice p1 n1 k1)∧w'.cell? ⟨w.heap.size,2,none⟩=some (.slice p2 n2 k2)∧w'.cell? ⟨w.heap.size+1,0,none⟩=some (.bool t)∧w'.cell? ⟨w.heap.size+1,1,none⟩=some (.slice p3 n3 k3)∧w'.cell? ⟨w.heap.size+1,2,none⟩=some (.slice p4 n4 k4))
     (first|exact Two.all (Two.drew htw.out)|exact Two.all htw.out|(go_split_ands;exact Two.all (Two.next (by assumption) hb1))|(go_split_ands;exact Two.all (Two.next (by assumption) hb3))|(go_split_ands;exact Two.all (Two.put3 (by assumption) (Nat.le_refl _) _ _ _ _ _ _ _))|go_keep)
     (first|(go_at_call 139;go_split_ands;refine (hop.out _ (Below.drew (Below.refl _ _))).mono ?_;rintro e w1 ⟨vt,rfl,hvt,hb1⟩;obtain ⟨pt,nt,ct,rfl⟩:=hvt.slice)|(go_at_call 132;go_split_ands;refine (vI _ _ _ _ _ _ hvt ((hM.out.below (Below.drew (Below.refl _ _))).below hb1)).mono ?_;rintro e w3 ⟨rfl,hb3⟩;have htw:=Two.next (by assumption) hb3;obtain ⟨z0,z1,z2,l0,l1,l2,f0,f1,f2⟩:=Two.slots htw))
    go_wp2_with fail
    have q1:=htw.nat3 (Nat.le_refl _) (hvt.below hb3) (s&&!((A-B)==0)) pt pm nt ct nm cm
    have q2:=htw.nat3 (Nat.le_refl _) (((hM.out.below (Below.drew (Below.refl _ _))).below hb1).below hb3) (s&&!((A-B)==0)) pt pm nt ct nm cm
    have q3:=(htw.put3 (Nat.le_refl _) (s&&!((A-B)==0)) pt pm nt ct nm cm).below
    have yD:Hid (∀ W',W'=(((w3.setCell ⟨w.heap.size+1+1,0,none⟩ (.bool (s&&!((A-B)==0)))).setCell ⟨w.heap.size+1+1,1,none⟩ (.slice pt nt ct)).setCell ⟨w.heap.size+1+1,2,none⟩ (.slice pm nm cm))→ybF s a b t c d K w (.returned (.agg #[.bool (s&&!((A-B)==0)),.slice pt nt ct,.slice pm nm cm])) W'):=yA (by
     rintro W' rfl
     refine ⟨_,_,_,_,rfl,⟨_,_,rfl,q1,q2,by intro h;simp at h;omega⟩,q3,hF.out.pos,?_,hF.out.ltAm,hF.out.ltM⟩
     rw [jQ]
     exact hF.out.sumA hst hlt'.out)
    refine bodyPost_ret (v:=.agg #[.bool (s&&!((A-B)==0)),.slice pt nt ct,.slice pm nm cm]) (by simp [results,Tryz.results89,go_sem,l0,l1,l2]) rfl ?_
    exact yD.out _ rfl
section
variable {B : Nat} {s : Bool} {u1 v1 : Value} {w0 W W' : World}
end
def sgn (s:Bool) (a:Nat):Int:=if s then -1 else if a=0 then 0 else 1
theorem ysN (x:Value) (s:Bool) (a b:Nat) (w:World) (hx:jU w x s a b):Calls Tryz.prog 135 #[x] w fun e w'=>e=.returned (.int .i64 (sgn s a))∧Below w.heap.size w w':=by
 obtain ⟨u1,v1,rfl,hu1,hv1,hs1⟩:=hx
 obtain ⟨p1,n1,k1,rfl⟩:=hu1.slice
 have hz:=zW hu1
 clear hu1 hv1 hs1
 cases s with
 | true =>
  have h:sgn true a=-1:=rfl
  rw [h]
  go_enter Tryz.func135,Tryz.ntmps135
  go_wp2_with fail
  go_ret
  exact ⟨rfl,(Below.refl _ _).alloc (Nat.le_refl _) _⟩
 | false =>
  by_cases h0:a=0
  ·have hn:n1=0:=hz.2 h0
   subst hn
   have h:sgn false a=0:=by simp [sgn,h0]
   rw [h]
   clear hz h0 h
   go_enter Tryz.func135,Tryz.ntmps135
   go_wp2_with fail
   refine (jC _ _ _ _).mono ?_
   rintro e w1 ⟨rfl,rfl⟩
   go_wp2_with fail
   go_ret
   exact ⟨rfl,(Below.refl _ _).alloc (Nat.le_refl _) _⟩
  ·have hn:((n1:Int)==0)=false:=by rw [beq_eq_false_iff_ne];omega
   have h:sgn false a=1:=by simp [sgn,h0]
   rw [h]
   clear hz h0 h
   go_enter Tryz.func135,Tryz.ntmps135
   go_wp2_with fail
   refine (jC _ _ _ _).mono ?_
   rintro e w1 ⟨rfl,rfl⟩
   rw [hn]
   go_wp2_with fail
   go_ret
   exact ⟨rfl,(Below.refl _ _).alloc (Nat.le_refl _) _⟩
end
section
section
variable {B : Nat} {w0 W W' : World}
end
theorem yo1 (n:Nat) (w:World) (hn:n≤1000):Calls Tryz.prog 87 #[.int .i64 n] w (uJ false n 1 w):=by
 have h0:(0:Int)≤n:=by omega
 have h1:(n:Int)≤1000:=by omega
 have hdec:decide ((n:Int)<0)=false:=by simp
 have zA:=yA (Res.start w)
 have hnB:n<yB:=by rw [yM];omega
 have ht:∀ (W:World) T B,B=W.heap.size→Hid (Calls Tryz.prog 136 #[.slice (some ⟨B,0,none⟩) 1 1] (W.alloc (.cells #[.int .u64 (n:Int)] T)) (zB (val yB [n]) (W.alloc (.cells #[.int .u64 (n:Int)] T)))):=fun W T B hB =>
  yA (hB ▸ GJ _ 1 1 [n] _ _ (by unfold maxLen;omega) (by omega) (ymp W n T) (yP.one hnB) (Below.refl _ _))
 have zR:Hid (val yB [n]=n):=yA (by simp [val])
 clear hnB
 go_enter Tryz.func87,Tryz.ntmps87
 go_wp2_with fail
 refine (ht (w.alloc (.cells #[.bool false,.slice none 0 0,.slice none 0 0] 98)) _ (w.heap.size+1) (by simp)).out.mono ?_
 rintro e w2 ⟨v2,rfl,hv2,hb2⟩
 rw [zR.out] at hv2
 obtain ⟨p2,n2,k2,rfl⟩:=hv2.slice
 have hr2:=yA ((zA.out.next (GB _ _)).next hb2)
 have hB1:1<yB:=by rw [yM];omega
 have jE:∀ T,Hid (yH (w2.alloc (.cells #[.int .u64 1] T)) (.slice (some ⟨w2.heap.size,0,none⟩) 1 1) 1):=fun T=>yA (uS w2 1 T (by omega) hB1)
 have hv2':∀ T,Hid (yH (w2.alloc (.cells #[.int .u64 1] T)) (.slice p2 n2 k2) n):=fun T=>yA (hv2.below (GB _ _))
 have hsg:∀ T,Hid (Calls Tryz.prog 132 #[.bool false,.slice p2 n2 k2,.slice (some ⟨w2.heap.size,0,none⟩) 1 1] (w2.alloc (.cells #[.int .u64 1] T)) fun e w'=>e=.returned (.agg #[.bool (false&&!(n==0)),.slice p2 n2 k2,.slice (some ⟨w2.heap.size,0,none⟩) 1 1])∧Below (w2.alloc (.cells #[.int .u64 1] T)).heap.size (w2.alloc (.cells #[.int .u64 1] T)) w'):=fun T =>
  yA (vI false _ _ n 1 _ (hv2' T).out (jE T).out)
 clear hv2 hb2 hB1
 go_wp2_with fail
 refine (hsg _).out.mono ?_
 rintro e w3 ⟨rfl,hb3⟩
 have htw:=(hr2.out.next (GB _ _)).next hb3
 obtain ⟨z0,z1,z2,l0,l1,l2,f0,f1,f2⟩:=htw.slots
 have Htw:=yA htw
 have q1:=Htw.out.nat3 (Nat.le_refl _) ((hv2' _).out.below hb3) false p2 (some ⟨w2.heap.size,0,none⟩) n2 k2 1 1
 have q2:=Htw.out.nat3 (Nat.le_refl _) ((jE _).out.below hb3) false p2 (some ⟨w2.heap.size,0,none⟩) n2 k2 1 1
 have q3:=(Htw.out.put3 (Nat.le_refl _) false p2 (some ⟨w2.heap.size,0,none⟩) n2 k2 1 1).below
 have yD:Hid (∀ W,W=(((w3.setCell ⟨w.heap.size,0,none⟩ (.bool false)).setCell ⟨w.heap.size,1,none⟩ (.slice p2 n2 k2)).setCell ⟨w.heap.size,2,none⟩ (.slice (some ⟨w2.heap.size,0,none⟩) 1 1))→uJ false n 1 w (.returned (.agg #[.bool false,.slice p2 n2 k2,.slice (some ⟨w2.heap.size,0,none⟩) 1 1])) W):=yA (by
  rintro W rfl
  exact ⟨_,rfl,⟨_,_,rfl,q1,q2,by intro h;simp at h⟩,q3⟩)
 clear htw q1 q2 q3
 go_wp2_with fail
 refine bodyPost_ret (v:=.agg #[.bool false,.slice p2 n2 k2,.slice (some ⟨w2.heap.size,0,none⟩) 1 1]) (by simp [results,Tryz.results87,go_sem,l0,l1,l2]) rfl ?_
 exact yD.out _ rfl
end
end Go.Proofs.YtgepehlpjpccaaaGreatDoor
