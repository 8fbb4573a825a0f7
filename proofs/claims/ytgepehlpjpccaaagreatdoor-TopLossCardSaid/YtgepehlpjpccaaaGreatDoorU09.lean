/- Contracts. -/
import Derived.Test.YtgepehlpjpccaaaGreatDoorVSC
set_option maxHeartbeats 3200000
set_option maxRecDepth 100000
namespace Go.Proofs.YtgepehlpjpccaaaGreatDoor
open Go.RowKit Big
open Go.Lib
def yaV (l k:List UInt8):List UInt8:=match num l,num k with
 | some a,some b=>if ybg b=1 then GT (yaE a b) else []
 | _,_=>[]
theorem yjX (s:Bool) (a b k:Nat) (hk:0<k):vO s (a*k) (b*k)=vO s a b:=by
 unfold vO
 rw [Nat.mul_div_mul_right a b hk,Nat.mul_mod_mul_right k a b]
 have e:(a%b*k==0)=(a%b==0):=by
  by_cases h:a%b=0
  ·simp [h]
  ·have h2:a%b*k≠0:=Nat.mul_ne_zero h (by omega)
   rw [beq_eq_false_iff_ne.2 h,beq_eq_false_iff_ne.2 h2]
 rw [e]
theorem ysG {s:Bool} {a b:Nat} (hb:0<b) (hs:s=true→0<a):yL s (vO s a b) 1=yiJ (yL s a b):=by
 obtain ⟨h1,h2,h3⟩:=ycY hb hs
 unfold yiJ
 rw [h1,h2,h3]
 have hg:0<Nat.gcd a b:=Nat.gcd_pos_of_pos_right _ hb
 have h:=yjX s (a/Nat.gcd a b) (b/Nat.gcd a b) _ hg
 rw [Nat.div_mul_cancel (Nat.gcd_dvd_left a b),Nat.div_mul_cancel (Nat.gcd_dvd_right a b)] at h
 rw [h]
theorem ysH (x:Value) (q:Rat) (K:Nat) (w:World) (hK:K+2≤1073741824) (hx:zO w x q K):Calls Tryz.prog 90 #[x] w (vU (yiJ q) (K+1) w):=by
 obtain ⟨s,a,b,h1,h2,h3,h4,h5⟩:=hx
 have hs:s=true→0<a:=by obtain ⟨u,v,-,-,-,hs⟩:=h1;exact hs
 refine (ypY x s a b K w hK h4 h5 h3 h1).mono ?_
 rintro e w' ⟨z,rfl,hz,hb⟩
 have e1:yB^(K+1)=yB^K*18446744073709551616:=by rw [Nat.pow_succ,yM]
 have hp:0<yB^K:=Nat.lt_of_le_of_lt (Nat.zero_le _) h4
 have h6:a/b<yB^K:=Nat.lt_of_le_of_lt (Nat.div_le_self _ _) h4
 have h7:vO s a b≤a/b+1:=by
  unfold vO
  split<;>omega
 exact ⟨z,rfl,⟨_,_,_,hz,by rw [jQ,ysG h3 hs,h2],by omega,by omega,by omega⟩,hb⟩
theorem Two.rfin {B:Nat} {s:Bool} {u1 v1:Value} {t:Bool} {u2 v2:Value} {w0 W:World} (h:Two B s u1 v1 t u2 v2 w0 W) (hB:w0.heap.size≤B) {a:Bool} {p q:Option Addr} {n c m d K:Nat} {r:Rat} (hr:zO W (.agg #[.bool a,.slice p n c,.slice q m d]) r K) :
  vU r K w0 (.returned (.agg #[.bool a,.slice p n c,.slice q m d])) (((W.setCell ⟨B+1+1,0,none⟩ (.bool a)).setCell ⟨B+1+1,1,none⟩ (.slice p n c)).setCell ⟨B+1+1,2,none⟩ (.slice q m d)):=by
 obtain ⟨s',x,y,⟨u,v,he,hu,hv,hs⟩,h2,h3,h4,h5⟩:=hr
 cases he
 exact ⟨_,rfl,⟨_,_,_,⟨_,_,rfl,h.nat3 hB hu _ _ _ _ _ _ _,h.nat3 hB hv _ _ _ _ _ _ _,hs⟩,h2,h3,h4,h5⟩,(h.put3 hB _ _ _ _ _ _ _).below⟩
structure TwoH (B g:Nat) (s:Bool) (u1 v1:Value) (t:Bool) (u2 v2:Value) (x0 x1 x2:Value) (w0 W:World):Prop where
 two:Two B s u1 v1 t u2 v2 w0 W
 hg:g<w0.heap.size
 hb:w0.heap.size≤B
 h:W.heap[g]?=some (.cells #[x0,x1,x2] 98 (0,0))
section
variable {B g : Nat} {s : Bool} {u1 v1 : Value} {t : Bool} {u2 v2 : Value} {x0 x1 x2 : Value} {w0 W W' : World}
theorem TwoH.next (h:TwoH B g s u1 v1 t u2 v2 x0 x1 x2 w0 W) (hb:Below W.heap.size W W'):TwoH B g s u1 v1 t u2 v2 x0 x1 x2 w0 W' :=
 ⟨h.two.next hb,h.hg,h.hb,(hb.block _ (by have:=h.two.size;have:=h.hg;have:=h.hb;omega)).trans h.h⟩
theorem TwoH.drew (h:TwoH B g s u1 v1 t u2 v2 x0 x1 x2 w0 W):TwoH B g s u1 v1 t u2 v2 x0 x1 x2 w0 W.drew:=⟨h.two.drew,h.hg,h.hb,h.h⟩
theorem TwoH.below (h:TwoH B g s u1 v1 t u2 v2 x0 x1 x2 w0 W):Below w0.heap.size w0 W:=h.two.below
theorem TwoH.put3 (h:TwoH B g s u1 v1 t u2 v2 x0 x1 x2 w0 W) (a:Bool) (p q:Option Addr) (n c m d:Nat):TwoH B g s u1 v1 t u2 v2 x0 x1 x2 w0 (((W.setCell ⟨B+1+1,0,none⟩ (.bool a)).setCell ⟨B+1+1,1,none⟩ (.slice p n c)).setCell ⟨B+1+1,2,none⟩ (.slice q m d)) :=
 have hne:g≠B+1+1:=by have:=h.hg;have:=h.hb;omega
 ⟨h.two.put3 h.hb _ _ _ _ _ _ _,h.hg,h.hb,((Below.heap_setCell _ _ _ _ hne).trans (Below.heap_setCell _ _ _ _ hne)).trans ((Below.heap_setCell _ _ _ _ hne).trans h.h)⟩
theorem TwoH.all (h:TwoH B g s u1 v1 t u2 v2 x0 x1 x2 w0 W):TwoH B g s u1 v1 t u2 v2 x0 x1 x2 w0 W∧W.cell? ⟨B,0,none⟩=some (.bool s)∧W.cell? ⟨B,1,none⟩=some u1∧W.cell? ⟨B,2,none⟩=some v1 ∧
  W.cell? ⟨B+1,0,none⟩=some (.bool t)∧W.cell? ⟨B+1,1,none⟩=some u2∧W.cell? ⟨B+1,2,none⟩=some v2∧W.cell? ⟨g,0,none⟩=some x0∧W.cell? ⟨g,1,none⟩=some x1∧W.cell? ⟨g,2,none⟩=some x2 :=
 ⟨h,zU h.two.x 0,zU h.two.x 1,zU h.two.x 2,zU h.two.y 0,zU h.two.y 1,zU h.two.y 2,zU h.h 0,zU h.h 1,zU h.h 2⟩
end
theorem yn3 (x y:Value) (a b:Rat) (g:Nat) (x0 x1 x2:Value) (w:World) (hb0:b≠0) (hx:zO w x a 20) (hy:zO w y b 20) (hg:g<w.heap.size) (hh:w.heap[g]?=some (.cells #[x0,x1,x2] 98 (0,0))) (hr:zO w (.agg #[x0,x1,x2]) jF 2) :
  Calls Tryz.prog 88 #[x,y,.pointer (some ⟨g,0,none⟩)] w (vU (yaE a b) 164 w):=by
 obtain ⟨f1,hf1⟩:∃ f,Hid (f=a/b):=⟨_,yA rfl⟩
 obtain ⟨f2,hf2⟩:∃ f,Hid (f=f1+jF):=⟨_,yA rfl⟩
 obtain ⟨f3,hf3⟩:∃ f,Hid (f=yiJ f2):=⟨_,yA rfl⟩
 obtain ⟨f4,hf4⟩:∃ f,Hid (f=f3*b):=⟨_,yA rfl⟩
 have he:yaE a b=f4:=by rw [hf4.out,hf3.out,hf2.out,hf1.out];rfl
 rw [he]
 have hq1:Hid (∀ W,Below w.heap.size w W→Calls Tryz.prog 79 #[x,y] W (vU f1 40 W)):=yA fun W hW=>by
  rw [hf1.out];exact yms x y a b 20 W (by omega) hb0 (hx.below hW) (hy.below hW)
 have hq2:Hid (∀ W u,Below w.heap.size w W→zO W u f1 40→Calls Tryz.prog 89 #[u,.agg #[x0,x1,x2]] W (vU f2 81 W)):=yA fun W u hW hu=>by
  rw [hf2.out];exact ywv u _ f1 jF 40 W (by omega) hu ((hr.below hW).more (by omega))
 have hq3:Hid (∀ W u,zO W u f2 81→Calls Tryz.prog 90 #[u] W (vU f3 82 W)):=yA fun W u hu=>by
  rw [hf3.out];exact ysH u f2 81 W (by omega) hu
 have hq4:Hid (∀ W u,Below w.heap.size w W→zO W u f3 82→Calls Tryz.prog 91 #[u,y] W (vU f4 164 W)):=yA fun W u hW hu=>by
  rw [hf4.out];exact yww u y f3 b 82 W (by omega) hu ((hy.below hW).more (by omega))
 obtain ⟨y0,e0,e1,e2,e3,e4,e5,he0⟩:=hr.agg
 cases he0
 obtain ⟨s,p1,n1,c1,p2,n2,c2,rfl⟩:=hx.agg
 obtain ⟨t,p3,n3,c3,p4,n4,c4,rfl⟩:=hy.agg
 have jV:TwoH w.heap.size g s (.slice p1 n1 c1) (.slice p2 n2 c2) t (.slice p3 n3 c3) (.slice p4 n4 c4) (.bool y0) (.slice e0 e1 e2) (.slice e3 e4 e5) w _ :=
  ⟨Two.start w s (.slice p1 n1 c1) (.slice p2 n2 c2) t (.slice p3 n3 c3) (.slice p4 n4 c4),hg,Nat.le_refl _,((Two.start w s (.slice p1 n1 c1) (.slice p2 n2 c2) t (.slice p3 n3 c3) (.slice p4 n4 c4)).below.block _ hg).trans hh⟩
 have Htwo:=yA jV
 obtain ⟨-,k0,k1,k2,k3,k4,k5,k6,k7,k8⟩:=jV.all
 clear jV hx hy hr hg hh he
 go_enter Tryz.func88,Tryz.ntmps88
 go_wp2_with fail
 go_region_held3 (fun w'=>TwoH w.heap.size g s (.slice p1 n1 c1) (.slice p2 n2 c2) t (.slice p3 n3 c3) (.slice p4 n4 c4) (.bool y0) (.slice e0 e1 e2) (.slice e3 e4 e5) w w'∧w'.cell? ⟨w.heap.size,0,none⟩=some (.bool s)∧w'.cell? ⟨w.heap.size,1,none⟩=some (.slice p1 n1 c1)∧w'.cell? ⟨w.heap.size,2,none⟩=some (.slice p2 n2 c2)∧w'.cell? ⟨w.heap.size+1,0,none⟩=some (.bool t)∧w'.cell? ⟨w.heap.size+1,1,none⟩=some (.slice p3 n3 c3)∧w'.cell? ⟨w.heap.size+1,2,none⟩=some (.slice p4 n4 c4)∧w'.cell? ⟨g,0,none⟩=some (.bool y0)∧w'.cell? ⟨g,1,none⟩=some (.slice e0 e1 e2)∧w'.cell? ⟨g,2,none⟩=some (.slice e3 e4 e5))
  (first|exact TwoH.all (TwoH.drew Htwo.out)|exact TwoH.all Htwo.out|(go_split_ands;exact TwoH.all (TwoH.next (by assumption) hb1))|(go_split_ands;exact TwoH.all (TwoH.next (by assumption) hb2))|(go_split_ands;exact TwoH.all (TwoH.next (by assumption) hb3))|(go_split_ands;exact TwoH.all (TwoH.next (by assumption) hb4))|(go_split_ands;exact TwoH.all (TwoH.put3 (by assumption) _ _ _ _ _ _ _))|go_keep)
  (first|(go_at_call 79;go_split_ands;refine (hq1.out _ (TwoH.below (by assumption))).mono ?_;rintro e w1 ⟨z1,rfl,hz1,hb1⟩;obtain ⟨m0,m1,m2,m3,m4,m5,m6,rfl⟩:=hz1.agg)|(go_at_call 89;go_split_ands;refine (hq2.out _ _ (TwoH.below (by assumption)) hz1).mono ?_;rintro e w2 ⟨z2,rfl,hz2,hb2⟩;obtain ⟨a0,a1,a2,a3,a4,a5,a6,rfl⟩:=hz2.agg)|(go_at_call 90;go_split_ands;refine (hq3.out _ _ hz2).mono ?_;rintro e w3 ⟨z3,rfl,hz3,hb3⟩;obtain ⟨d0,d1,d2,d3,d4,d5,d6,rfl⟩:=hz3.agg)|(go_at_call 91;go_split_ands;refine (hq4.out _ _ (TwoH.below (by assumption)) hz3).mono ?_;rintro e w4 ⟨z4,rfl,hz4,hb4⟩;obtain ⟨r0,r1,r2,r3,r4,r5,r6,rfl⟩:=hz4.agg;have htw:=TwoH.next (by assumption) hb4;obtain ⟨j0,j1,j2,l0,l1,l2,g0,g1,g2⟩:=Two.slots htw.two))
 go_wp2_with fail
 have yD:=yA (htw.two.rfin (Nat.le_refl _) hz4)
 refine bodyPost_ret (v:=.agg #[.bool r0,.slice r1 r2 r3,.slice r4 r5 r6]) (by simp [results,Tryz.results88,go_sem,l0,l1,l2]) rfl ?_
 exact yD.out
end Go.Proofs.YtgepehlpjpccaaaGreatDoor
set_option maxHeartbeats 3200000
set_option maxRecDepth 100000
namespace Go.Proofs.YtgepehlpjpccaaaGreatDoor
open Go.RowKit Big
open Go.Lib
theorem ylZ (x y:ByteArray) (g gh:Nat) (p q r:Rat) (K:Nat) (w:World) (hg:g<w.heap.size) (hcl:w.cell? ⟨g,0,none⟩=some (.func (.func 88) #[] #[.pointer (some ⟨gh,0,none⟩)])) (hx:Hid (Calls Tryz.prog 130 #[.string x] w (GF (some p) w))) (hy:∀ W,Below w.heap.size w W→Hid (Calls Tryz.prog 130 #[.string y] W (GF (some q) W)))
  (hop:∀ W u v,Below w.heap.size w W→zO W u p 20→zO W v q 20→Hid (Calls Tryz.prog 88 #[u,v,.pointer (some ⟨gh,0,none⟩)] W (vU r K W)))
  (ht:∀ W z,Below w.heap.size w W→zO W z r K→Hid (Calls Tryz.prog 131 #[z] W fun e w'=>e=.returned (.string ⟨(GT r).toArray⟩)∧Below W.heap.size W w')):Calls Tryz.prog 129 #[.string x,.string y,.pointer (some ⟨g,0,none⟩)] w fun e w'=>e=.returned (.string ⟨(GT r).toArray⟩)∧Below w.heap.size w w':=by
 have Hcl:=yA hcl
 have Hg:=yA hg
 clear hcl hg
 go_enter Tryz.func129,Tryz.ntmps129
 go_wp2_with fail
 refine hx.out.mono ?_
 rintro e w2 ⟨hb2,b1,p1,n1,c1,q1,m1,d1,rfl,hr1⟩
 have hbw:=yA (hb2.trans ((GB w2 (.cells #[.bool b1,.slice p1 n1 c1,.slice q1 m1 d1] 98)).mono hb2.size))
 have hR1:=yA ((hr1 _ rfl).below (GB w2 (.cells #[.bool b1,.slice p1 n1 c1,.slice q1 m1 d1] 98)))
 have hb1:=yA (yY w2 (.cells #[.bool b1,.slice p1 n1 c1,.slice q1 m1 d1] 98))
 have hy2:=hy _ hbw.out
 clear hb2 hy hr1
 go_wp2_with fail
 refine hy2.out.mono ?_
 rintro e w3 ⟨hb3,b',p',n',c',q',m',d',rfl,hr3⟩
 have ydz:=yA (hbw.out.trans (hb3.mono hbw.out.size))
 have ycB:=yA (ydz.out.trans ((GB w3 (.cells #[.bool b',.slice p' n' c',.slice q' m' d'] 98)).mono ydz.out.size))
 have hA:=yA (GB w3 (.cells #[.bool b',.slice p' n' c',.slice q' m' d'] 98))
 have hR3:=yA ((hr3 _ rfl).below hA.out)
 have hR2:=yA ((hR1.out.below hb3).below hA.out)
 have uZ:=(hb3.trans (hA.out.mono hb3.size)).block w2.heap.size (by simp)
 have hbx:=uZ.trans hb1.out
 have e0:=zU hbx 0
 have e1:=zU hbx 1
 have e2:=zU hbx 2
 have hcl4:=(ycB.out.cell (p:=⟨g,0,none⟩) Hg.out).trans Hcl.out
 have yi0:=hop _ _ _ ycB.out hR2.out hR3.out
 clear hb3 hy2 hr3 uZ hbx hop
 go_wp2_with fail
 refine yi0.out.mono ?_
 rintro e w5 ⟨z,rfl,hz,hb5⟩
 have yfZ:=yA (ycB.out.trans (hb5.mono ycB.out.size))
 have ht5:=ht _ _ yfZ.out hz
 clear hb5 hz ht yi0
 go_wp2_with fail
 refine ht5.out.mono ?_
 rintro e w6 ⟨rfl,hb6⟩
 have ydK:=yA (yfZ.out.trans (hb6.mono yfZ.out.size))
 clear hb6
 go_wp2_with fail
 go_ret
 exact ⟨rfl,ydK.out⟩
theorem yl0 (c:Array Value) (w:World):Calls Tryz.prog 78 #[.func (.func 88) #[] c] w fun e w'=>e=.returned (.func (.func 129) #[] #[.pointer (some ⟨w.heap.size,0,none⟩)])∧w'=w.alloc (.cells #[.func (.func 88) #[] c] 94):=by
 go_enter Tryz.func78,Tryz.ntmps78
 go_wp2_with fail
 go_ret
 exact ⟨rfl,rfl⟩
theorem yws (w:World):Calls Tryz.prog 87 #[.int .i64 2] w (vU 2 1 w):=by
 refine (yo1 2 w (by omega)).mono ?_
 rintro e w' ⟨z,rfl,hz,hb⟩
 have h1:2<yB^1:=by rw [Nat.pow_one,yM];omega
 refine ⟨z,rfl,⟨_,_,_,hz,?_,by omega,h1,by omega⟩,hb⟩
 rw [jQ];unfold yL;simp;grind
theorem yoZ:(1:Rat)/2=jF:=by unfold jF;rfl
theorem yn4 (x y:ByteArray) (a b:Rat) (gh:Nat) (x0 x1 x2:Value) (W:World) (htab:Tab W) (hb0:b≠0) (hx:num x.data.toList=some a) (hy:num y.data.toList=some b) (hg:gh<W.heap.size) (hh:W.heap[gh]?=some (.cells #[x0,x1,x2] 98 (0,0))) (hr:zO W (.agg #[x0,x1,x2]) jF 2) :
  Calls Tryz.prog 129 #[.string x,.string y,.pointer (some ⟨W.heap.size,0,none⟩)] (W.alloc (.cells #[.func (.func 88) #[] #[.pointer (some ⟨gh,0,none⟩)]] 94)) fun e w'=>e=.returned (.string ⟨(GT (yaE a b)).toArray⟩)∧Below W.heap.size W w':=by
 have hb:=GB W (.cells #[.func (.func 88) #[] #[.pointer (some ⟨gh,0,none⟩)]] 94)
 have yrl:=htab.below hb
 have hq:∀ (s:ByteArray) (q:Rat) (W':World),Tab W'→num s.data.toList=some q→Calls Tryz.prog 130 #[.string s] W' (GF (some q) W'):=fun s q W' ht h=>by
  have:=yb3 s W' ht
  rwa [h] at this
 refine (ylZ x y W.heap.size gh a b (yaE a b) 164 _ (by simp) (zU (yY W _) 0) (yA (hq x a _ yrl hx)) (fun W' hW=>yA (hq y b _ (yrl.below hW) hy)) (fun W' u v hW hu hv=>yA ?_) (fun W' z hW hz=>yA (yk7 z _ 164 W' (by omega) hz (yrl.below hW)))).mono ?_
 ·have hbW:=hb.trans (hW.mono hb.size)
  exact yn3 u v a b gh x0 x1 x2 W' hb0 hu hv (Nat.lt_of_lt_of_le hg hbW.size) ((hbW.block _ hg).trans hh) (hr.below hbW)
 ·rintro e w' ⟨he,hb2⟩
  exact ⟨he,hb.trans (hb2.mono hb.size)⟩
theorem yha (x y:ByteArray) (gh:Nat) (W:World) (htab:Tab W) (hx:num x.data.toList=none) :
  Calls Tryz.prog 129 #[.string x,.string y,.pointer (some ⟨W.heap.size,0,none⟩)] (W.alloc (.cells #[.func (.func 88) #[] #[.pointer (some ⟨gh,0,none⟩)]] 94)) fun e w'=>e=.returned (.string ⟨#[]⟩)∧Below W.heap.size W w':=by
 have hb:=GB W (.cells #[.func (.func 88) #[] #[.pointer (some ⟨gh,0,none⟩)]] 94)
 have h:=yfV x _ (htab.below hb)
 have hr:uD x.data.toList=none:=by unfold num at hx;simpa using hx
 rw [hr] at h
 exact (yey x y _ _ (yA h)).mono fun e w' h=>⟨h.1,hb.trans (h.2.mono hb.size)⟩
theorem yn5 (x y:ByteArray) (w:World) (hp:∀ W,Below w.heap.size w W→Hid (Calls Tryz.prog 86 #[.string y] W fun e w'=>e=.returned (.bool false)∧Below W.heap.size W w')):Calls Tryz.prog 45 #[.string x,.string y] w (yaz [] w):=by
 unfold yaz
 have hp0:=hp w (Below.refl _ _)
 clear hp
 go_enter Tryz.func45,Tryz.ntmps45
 go_wp2_with fail
 refine hp0.out.mono ?_
 rintro e w1 ⟨rfl,hb1⟩
 have Hb1:=yA hb1
 clear hb1
 go_wp2_with fail
 go_ret
 exact ⟨rfl,Hb1.out⟩
theorem ysI (W:World) (u v:Value) (hu:zO W u 1 1) (hv:zO W v 2 1):Calls Tryz.prog 79 #[u,v] W (vU jF 2 W):=by
 have h2:(2:Rat)≠0:=by
  have:=vW (b:=2) (by omega)
  exact this
 have h:=yms u v 1 2 1 W (by omega) h2 hu hv
 rw [yoZ] at h
 exact h
theorem yfv (x y r:ByteArray) (w:World) (hp:Hid (Calls Tryz.prog 86 #[.string y] w fun e w'=>e=.returned (.bool true)∧Below w.heap.size w w'))
  (hcl:Hid (∀ W gh x0 x1 x2 B,B=W.heap.size→Below w.heap.size w W→gh<W.heap.size→W.heap[gh]?=some (.cells #[x0,x1,x2] 98 (0,0))→zO W (.agg #[x0,x1,x2]) jF 2→Calls Tryz.prog 129 #[.string x,.string y,.pointer (some ⟨B,0,none⟩)] (W.alloc (.cells #[.func (.func 88) #[] #[.pointer (some ⟨gh,0,none⟩)]] 94)) fun e w'=>e=.returned (.string r)∧Below W.heap.size W w')) :
  Calls Tryz.prog 45 #[.string x,.string y] w fun e w'=>e=.returned (.string r)∧Below w.heap.size w w':=by
 have h1:Hid (∀ W,Calls Tryz.prog 87 #[.int .i64 1] W (vU 1 1 W)):=yA ywy
 have h2:Hid (∀ W,Calls Tryz.prog 87 #[.int .i64 2] W (vU 2 1 W)):=yA yws
 have hq:=yA ysI
 go_enter Tryz.func45,Tryz.ntmps45
 go_wp2_with fail
 refine hp.out.mono ?_
 rintro e w1 ⟨rfl,hb1⟩
 have Hb1:=yA hb1
 clear hb1
 go_wp2_with fail
 refine (h1.out _).mono ?_
 rintro e w2 ⟨u,rfl,hu,hb2⟩
 have Hb2:=yA (Hb1.out.trans (hb2.mono Hb1.out.size))
 have Hu:=yA hu
 obtain ⟨a0,a1,a2,a3,a4,a5,a6,rfl⟩:=hu.agg
 clear hb2 hu
 go_wp2_with fail
 refine (h2.out _).mono ?_
 rintro e w3 ⟨v,rfl,hv,hb3⟩
 have Hb3:=yA (Hb2.out.trans (hb3.mono Hb2.out.size))
 have Hq:=yA (hq.out _ _ _ (Hu.out.below hb3) hv)
 obtain ⟨d0,d1,d2,d3,d4,d5,d6,rfl⟩:=hv.agg
 clear hb3 hv
 go_wp2_with fail
 refine Hq.out.mono ?_
 rintro e w4 ⟨z,rfl,hz,hb4⟩
 have Hb4:=yA (Hb3.out.trans (hb4.mono Hb3.out.size))
 obtain ⟨m0,m1,m2,m3,m4,m5,m6,rfl⟩:=hz.agg
 have hA:=GB w4 (.cells #[.bool m0,.slice m1 m2 m3,.slice m4 m5 m6] 98)
 have Hc:=yA (hcl.out (w4.alloc (.cells #[.bool m0,.slice m1 m2 m3,.slice m4 m5 m6] 98)) w4.heap.size _ _ _ (w4.heap.size+1) (by simp) (Hb4.out.trans (hA.mono Hb4.out.size)) (by simp) (yY _ _) (hz.below hA))
 have Hb5:=yA (Hb4.out.trans (hA.mono Hb4.out.size))
 clear hb4 hz hA
 go_wp2_with fail
 refine (yl0 _ _).mono ?_
 rintro e w5 ⟨rfl,rfl⟩
 go_wp2_with fail
 refine Hc.out.mono ?_
 rintro e w6 ⟨rfl,hb6⟩
 have Hb6:=yA (Hb5.out.trans (hb6.mono Hb5.out.size))
 clear hb6
 go_wp2_with fail
 go_ret
 exact ⟨rfl,Hb6.out⟩
theorem yje (q:Rat):ybg q=1↔0<q:=by
 rw [ygv]
 unfold ybA
 constructor
 ·intro h
  split at h
  ·omega
  ·split at h
   ·omega
   ·rename_i h1 h2;grind
 ·intro h
  rw [if_neg (by grind),if_neg (by grind)]
theorem yn6 (x y:ByteArray) (w:World) (htab:Tab w):Calls Tryz.prog 45 #[.string x,.string y] w (yaz (yaV x.data.toList y.data.toList) w):=by
 have hp:=fun W (hb:Below w.heap.size w W)=>yj0 y W (htab.below hb)
 cases hpy:yqo y.data.toList with
 | false =>
  rw [hpy] at hp
  have e:yaV x.data.toList y.data.toList=[]:=by
   unfold yqo at hpy
   unfold yaV
   cases hx:num x.data.toList with
   | none=>rfl
   | some a =>
    cases hy:num y.data.toList with
    | none=>rfl
    | some b =>
     rw [hy] at hpy
     have h0:¬ ybg b=1:=fun h=>by rw [yje] at h;simp at hpy;grind
     simp only [h0,if_false]
  rw [e]
  exact yn5 x y w fun W hb=>yA (hp W hb)
 | true =>
  rw [hpy] at hp
  have hp0:=yA (hp w (Below.refl _ _))
  unfold yqo at hpy
  cases hy:num y.data.toList with
  | none=>rw [hy] at hpy;cases hpy
  | some b =>
   rw [hy] at hpy
   have hb0:0<b:=by simpa using hpy
   unfold yaz yaV
   rw [hy]
   cases hx:num x.data.toList with
   | none=>exact yfv x y _ w hp0 (yA fun W gh x0 x1 x2 B hB hb hg hh hr=>by rw [hB];exact yha x y gh W (htab.below hb) hx)
   | some a =>
    have h1:ybg b=1:=(yje b).2 hb0
    simp only [h1,if_true]
    exact yfv x y _ w hp0 (yA fun W gh x0 x1 x2 B hB hb hg hh hr=>by rw [hB];exact yn4 x y a b gh x0 x1 x2 W (htab.below hb) (by grind) hx hy hg hh hr)
end Go.Proofs.YtgepehlpjpccaaaGreatDoor
namespace Go.Proofs.YtgepehlpjpccaaaGreatDoor
open Go.RowKit Go.Lib Big
end Go.Proofs.YtgepehlpjpccaaaGreatDoor
namespace Go.Proofs.YtgepehlpjpccaaaGreatDoor
open Go.RowKit Big
variable {B : Nat} {s : Bool} {u1 v1 : Value} {t : Bool} {u2 v2 : Value} {w0 W W' : World}
end Go.Proofs.YtgepehlpjpccaaaGreatDoor
namespace Big
theorem yk4 (s:Bool) (a b:Nat):yL (!s) a b=- yL s a b:=by
 unfold yL
 cases s<;>simp<;>grind
end Big
set_option maxHeartbeats 3200000
set_option maxRecDepth 100000
namespace Go.Proofs.YtgepehlpjpccaaaGreatDoor
open Go.RowKit Big
section
variable {B : Nat} {s : Bool} {u1 v1 : Value} {w0 W W' : World}
end
theorem yl1 (x:Value) (s:Bool) (a b:Nat) (w:World) (hx:jU w x s a b):Calls Tryz.prog 178 #[x] w (uJ (!s) a b w):=by
 obtain ⟨u1,v1,rfl,hu1,hv1,hs1⟩:=hx
 obtain ⟨p1,n1,k1,rfl⟩:=hu1.slice
 obtain ⟨p2,n2,k2,rfl⟩:=hv1.slice
 have jE:=One.start w s (.slice p1 n1 k1) (.slice p2 n2 k2)
 obtain ⟨c0,c1,c2⟩:=jE.cells
 have Hone:=yA jE
 have HU:=yA hu1
 have HV:=yA hv1
 clear jE hu1 hv1 hs1
 go_enter Tryz.func178,Tryz.ntmps178
 go_wp2_with fail
 refine (vI _ _ _ a b _ (HU.out.below Hone.out.below) (HV.out.below Hone.out.below)).mono ?_
 rintro e w3 ⟨rfl,hb3⟩
 have htw:=Hone.out.next hb3
 obtain ⟨z0,z1,z2,l0,l1,l2,f0,f1,f2⟩:=htw.slots
 have Htw:=yA htw
 clear htw
 go_wp2_with fail
 have q1:=Htw.out.nat3 (Nat.le_refl _) ((HU.out.below Hone.out.below).below hb3) (!s&&!(a==0)) p1 p2 n1 k1 n2 k2
 have q2:=Htw.out.nat3 (Nat.le_refl _) ((HV.out.below Hone.out.below).below hb3) (!s&&!(a==0)) p1 p2 n1 k1 n2 k2
 have q3:=(Htw.out.put3 (Nat.le_refl _) (!s&&!(a==0)) p1 p2 n1 k1 n2 k2).below
 refine bodyPost_ret (v:=.agg #[.bool (!s&&!(a==0)),.slice p1 n1 k1,.slice p2 n2 k2]) (by simp [results,Tryz.results178,go_sem,l0,l1,l2]) rfl ?_
 exact ⟨_,rfl,⟨_,_,rfl,q1,q2,by intro h;simp at h;omega⟩,q3⟩
def yuH (s:Bool) (a b:Nat) (t:Bool) (c d K:Nat) (w:World) (e:Ending) (w':World):Prop :=
 ∃ x r n m,e=.returned x∧jU w' x r n m∧Below w.heap.size w w'∧0<m∧yL r n m=yL s a b-yL t c d∧n<yB^(2*K+1)∧m<yB^(2*K+1)
theorem yuI (x y:Value) (s t:Bool) (a b c d K:Nat) (w:World) (hK:2*K+1≤1073741824) (ha:a<yB^K) (hb:b<yB^K) (hc:c<yB^K) (hd:d<yB^K) (hb0:0<b) (hd0:0<d) (hx:jU w x s a b) (hy:jU w y t c d) :
  Calls Tryz.prog 134 #[x,y] w (yuH s a b t c d K w):=by
 have hx0:=yA hx
 have hy0:=yA hy
 obtain ⟨u1,v1,rfl,hu1,hv1,hs1⟩:=hx
 obtain ⟨u2,v2,rfl,hu2,hv2,hs2⟩:=hy
 obtain ⟨p1,n1,k1,rfl⟩:=hu1.slice
 obtain ⟨p2,n2,k2,rfl⟩:=hv1.slice
 obtain ⟨p3,n3,k3,rfl⟩:=hu2.slice
 obtain ⟨p4,n4,k4,rfl⟩:=hv2.slice
 have jV:=Two.start w s (.slice p1 n1 k1) (.slice p2 n2 k2) t (.slice p3 n3 k3) (.slice p4 n4 k4)
 have Htwo:=yA jV
 obtain ⟨-,c0,c1,c2,c3,c4,c5⟩:=jV.all
 have yvZ:Hid (∀ W,Below w.heap.size w W→Calls Tryz.prog 178 #[.agg #[.bool t,.slice p3 n3 k3,.slice p4 n4 k4]] W (uJ (!t) c d W)):=yA fun W h=>yl1 _ t c d W (hy0.out.below h)
 have ycl:Hid (∀ W z,Below w.heap.size w W→jU W z ((!t)&&!(c==0)) c d→Calls Tryz.prog 89 #[.agg #[.bool s,.slice p1 n1 k1,.slice p2 n2 k2],z] W (ybF s a b ((!t)&&!(c==0)) c d K W)) :=
  yA fun W z h hz=>yo0 _ _ s _ a b c d K W hK ha hb hc hd hb0 hd0 (hx0.out.below h) hz
 clear hu1 hv1 hu2 hv2 hs1 hs2 jV
 go_enter Tryz.func134,Tryz.ntmps134
 go_wp2_with fail
 go_region_held3 (fun w'=>Two w.heap.size s (.slice p1 n1 k1) (.slice p2 n2 k2) t (.slice p3 n3 k3) (.slice p4 n4 k4) w w'∧w'.cell? ⟨w.heap.size,0,none⟩=some (.bool s)∧w'.cell? ⟨w.heap.size,1,none⟩=some (.slice p1 n1 k1)∧w'.cell? ⟨w.heap.size,2,none⟩=some (.slice p2 n2 k2)∧w'.cell? ⟨w.heap.size+1,0,none⟩=some (.bool t)∧w'.cell? ⟨w.heap.size+1,1,none⟩=some (.slice p3 n3 k3)∧w'.cell? ⟨w.heap.size+1,2,none⟩=some (.slice p4 n4 k4))
  (first|exact Two.all (Two.drew Htwo.out)|exact Two.all Htwo.out|(go_split_ands;exact Two.all (Two.next (by assumption) hb1))|(go_split_ands;exact Two.all (Two.next (by assumption) hb3))|(go_split_ands;exact Two.all (Two.put3 (by assumption) (Nat.le_refl _) _ _ _ _ _ _ _))|go_keep)
  (first|(go_at_call 178;go_split_ands;refine (yvZ.out _ (Two.below (by assumption))).mono ?_;rintro e w1 ⟨xn,rfl,hxn,hb1⟩)|(go_at_call 89;go_split_ands;refine (ycl.out _ _ (Two.below (by assumption)) hxn).mono ?_;rintro e w3 ⟨xr,r,nn,mm,rfl,hxr,hb3,ym5,zR,hn1,hm1⟩;have htw:=Two.next (by assumption) hb3;obtain ⟨ur,vr,rfl,hur,hvr,hsr⟩:=hxr;obtain ⟨pr,nr,cr,rfl⟩:=hur.slice;obtain ⟨pv,nv,cv,rfl⟩:=hvr.slice;obtain ⟨z0,z1,z2,l0,l1,l2,f0,f1,f2⟩:=Two.slots htw))
 go_wp2_with fail
 have q1:=htw.nat3 (Nat.le_refl _) hur r pr pv nr cr nv cv
 have q2:=htw.nat3 (Nat.le_refl _) hvr r pr pv nr cr nv cv
 have q3:=(htw.put3 (Nat.le_refl _) r pr pv nr cr nv cv).below
 refine bodyPost_ret (v:=.agg #[.bool r,.slice pr nr cr,.slice pv nv cv]) (by simp [results,Tryz.results134,go_sem,l0,l1,l2]) rfl ?_
 refine ⟨_,r,nn,mm,rfl,⟨_,_,rfl,q1,q2,hsr⟩,q3,ym5,?_,hn1,hm1⟩
 rw [zR,jQ,yk4,Rat.sub_eq_add_neg]
end Go.Proofs.YtgepehlpjpccaaaGreatDoor
namespace Go.Proofs.YtgepehlpjpccaaaGreatDoor
open Go.RowKit Big
section
variable {B : Nat} {w0 W W' : World}
end
end Go.Proofs.YtgepehlpjpccaaaGreatDoor
set_option maxHeartbeats 1600000
set_option maxRecDepth 100000
namespace Go.Proofs.YtgepehlpjpccaaaGreatDoor
open Go.RowKit Go.Lib Big
end Go.Proofs.YtgepehlpjpccaaaGreatDoor
namespace Go.Proofs.YtgepehlpjpccaaaGreatDoor
open Go.RowKit Go.Lib Big
end Go.Proofs.YtgepehlpjpccaaaGreatDoor
namespace Go.Proofs.YtgepehlpjpccaaaGreatDoor
open Go.RowKit Go.Lib Big
theorem yl2 (f:FuncId) (w:World):Calls Tryz.prog 78 #[.func (.func f) #[] #[]] w fun e w'=>e=.returned (.func (.func 129) #[] #[.pointer (some ⟨w.heap.size,0,none⟩)])∧w'=w.alloc (.cells #[.func (.func f) #[] #[]] 94):=by
 go_enter Tryz.func78,Tryz.ntmps78
 go_wp2_with fail
 go_ret
 exact ⟨rfl,rfl⟩
theorem yjY (x y:ByteArray) (g:Addr) (t:Bool × Nat × Nat) (w:World) (hx:Hid (Calls Tryz.prog 130 #[.string x] w (ymU (some t) w))) (hy:∀ W,Below w.heap.size w W→Hid (Calls Tryz.prog 130 #[.string y] W (ymU none W))):Calls Tryz.prog 129 #[.string x,.string y,.pointer (some g)] w fun e w'=>e=.returned (.string ⟨#[]⟩)∧Below w.heap.size w w':=by
 go_enter Tryz.func129,Tryz.ntmps129
 go_wp2_with fail
 refine hx.out.mono ?_
 rintro e w2 ⟨hb2,b,p,n,c,q,m,d,rfl,-⟩
 have hbw:=yA (hb2.trans ((GB w2 (.cells #[.bool b,.slice p n c,.slice q m d] 98)).mono hb2.size))
 have hy2:=hy _ hbw.out
 clear hb2 hy
 go_wp2_with fail
 refine hy2.out.mono ?_
 rintro e w3 ⟨hb3,b',p',n',c',q',m',d',rfl,-⟩
 have ydz:=yA (hbw.out.trans (hb3.mono hbw.out.size))
 have ycB:=yA (ydz.out.trans ((GB w3 (.cells #[.bool b',.slice p' n' c',.slice q' m' d'] 98)).mono ydz.out.size))
 clear hb3
 go_wp2_with fail
 go_ret
 exact ⟨rfl,ycB.out⟩
end Go.Proofs.YtgepehlpjpccaaaGreatDoor
namespace Go.Proofs.YtgepehlpjpccaaaGreatDoor
open Go.Lib Big
theorem yuJ {l m:List UInt8} {q:Rat} (h:num l=some q) (h2:num m=some q):l=m:=by
 rw [← yfT h,yfT h2]
/-! Digits -/
theorem yd2 (u:Nat):yO (decDigits u)=true:=by
 unfold yO
 rw [(yan u).1]
 simp [ymr u]
theorem yk5 (u:Nat) (x:List UInt8):Lib.hasPrefix (decDigits u++x) [45]=false:=by
 cases h:decDigits u with
 | nil=>exact absurd h (ymr u)
 | cons b t =>
  have hb:yI b=true:=by
   have:=(yan u).1
   rw [h,List.all_cons,Bool.and_eq_true] at this
   exact this.1
  have:((45:UInt8)==b)=false:=by rw [beq_eq_false_iff_ne];rintro rfl;revert hb;decide
  simp [Lib.hasPrefix,List.isPrefixOf,this]
theorem ydS {n d:Nat} (hd:0<d):vR (decDigits n++(if d=1 then [] else 47::decDigits d))=some (n,d):=by
 have k1:yI 46=false:=by decide
 have k2:yI 47=false:=by decide
 have a1:=yaR (yan n).1 k1
 have a2:=yaR (yan n).1 k2
 have b1:=yaR (yan d).1 k1
 unfold vR
 by_cases h:d=1
 ·rw [if_pos h,List.append_nil,yb1 a1,yb1 a2]
  simp only [Bool.false_eq_true,if_false]
  rw [if_pos (yd2 n),(yan n).2,h]
 ·rw [if_neg h,yb1 (by simp [a1,b1]),yiD a2]
  simp only [Bool.false_eq_true,if_false,if_true]
  rw [yd2 n,yd2 d,(yan n).2,(yan d).2]
  have:(d==0)=false:=by rw [beq_eq_false_iff_ne];omega
  simp [this]
theorem yl3 {s:Bool} {n d:Nat} (hd:0<d):uC (wrote s n d)=some (s,n,d):=by
 unfold uC wrote
 cases s
 ·simp only [Bool.false_eq_true,if_false,List.nil_append]
  rw [yk5]
  unfold Lib.trimPrefix
  rw [yk5]
  simp only [Bool.false_eq_true,if_false]
  rw [ydS hd];rfl
 ·simp only [if_true]
  have h:Lib.hasPrefix ([45]++decDigits n++(if d=1 then [] else 47::decDigits d)) [45]=true:=by simp [Lib.hasPrefix,List.isPrefixOf]
  unfold Lib.trimPrefix
  rw [h]
  simp only [if_true]
  have:([45]++decDigits n++(if d=1 then [] else 47::decDigits d)).drop [(45:UInt8)].length=decDigits n++(if d=1 then [] else 47::decDigits d):=by simp
  rw [this,ydS hd];rfl
theorem ypU (s:Bool) (n d:Nat):(wrote s n d).length≤2+nDigits n+nDigits d:=by
 unfold wrote
 rw [List.length_append,List.length_append,decDigits_length]
 split<;>split<;>simp [decDigits_length]<;>omega
theorem yjf {q:Rat} (h:GT q≠[]):num (GT q)=some q:=by
 have hs:=yrB.1 h
 have e:=yeB q
 unfold ykc at hs
 rw [if_pos hs] at e
 have hself:=uT q
 have hr:uD (GT q)=some (decide (q.num<0),q.num.natAbs,q.den):=by
  unfold uD
  rw [e]
  have hl:=ypU (decide (q.num<0)) q.num.natAbs q.den
  rw [if_neg (by omega),yl3 q.den_pos]
  have hsg:(decide (q.num<0)&&!(q.num.natAbs==0))=decide (q.num<0):=by
   by_cases h:q.num<0
   ·have:(q.num.natAbs==0)=false:=by rw [beq_eq_false_iff_ne];omega
    simp [h,this]
   ·simp [h]
  simp only [hsg]
  rw [if_pos]
  exact e
 unfold num
 rw [hr,Option.map_some]
 simp only [hself]
def opT (f:Rat→Rat→Rat) (x y:List UInt8):List UInt8 :=
 match num x,num y with
 | some a,some b=>GT (f a b)
 | _,_=>[]
theorem ysJ {f:Rat→Rat→Rat} {x y:List UInt8} {a b:Rat} (hx:num x=some a) (hy:num y=some b):opT f x y=GT (f a b):=by
 unfold opT;rw [hx,hy]
theorem ypV {f:Rat→Rat→Rat} {x y:List UInt8} (hx:num x=none):opT f x y=[]:=by unfold opT;rw [hx]
theorem ypW {f:Rat→Rat→Rat} {x y:List UInt8} (hy:num y=none):opT f x y=[]:=by unfold opT;rw [hy];cases num x<;>rfl
def ymZ (x y:List UInt8):List UInt8:=if y=[48] then [] else opT (·/·) x y
theorem yen:num [48]=some 0:=by
 have h:GT 0=[48]:=by
  rw [yeB]
  have:nDigits (0:Rat).num.natAbs=1:=nDigits_small (by decide)
  have h2:nDigits (0:Rat).den=1:=nDigits_small (by decide)
  rw [if_pos (by omega)]
  unfold wrote
  rw [show decDigits (0:Rat).num.natAbs=[48] from decDigits_one (by decide)]
  rfl
 have:=yjf (q:=0) (by rw [h];decide)
 rwa [h] at this
theorem yjZ {y:List UInt8}:num y=some 0↔y=[48] :=
 ⟨fun h=>yuJ h yen,fun h=>h ▸ yen⟩
/-! Compare -/
def yes (x y:List UInt8):Int × Bool :=
 match num x,num y with
 | some a,some b=>(ybA (a-b),true)
 | _,_=>(0,false)
end Go.Proofs.YtgepehlpjpccaaaGreatDoor
