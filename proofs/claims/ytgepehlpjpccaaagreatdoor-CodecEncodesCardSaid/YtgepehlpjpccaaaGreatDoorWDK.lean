/- Contracts. -/
import Derived.Test.YtgepehlpjpccaaaGreatDoorYG
import Derived.RangeFuncNested
import Derived.RangeFuncBound
import Derived.Shelf.RegionOpen
import Derived.OwnWalkIn
import Derived.LoopNIn
import Derived.LoopIn
set_option maxHeartbeats 3200000
set_option maxRecDepth 100000
namespace Go.Proofs.YtgepehlpjpccaaaGreatDoor
section
open Go.Lib Big
/-! Digits -/
/-! Compare -/
theorem yrc {x y:Lb} {a b:Rat} (hx:num x=some a) (hy:num y=some b):yeW x y=(ybO (a-b),true):=by unfold yeW;rw [hx,hy]
end
section
open Go.RowKit Big
theorem yhs (a b:Rat):yM (decide (a.num<0) != decide (b.num<0)) (a.num.natAbs*b.den) (a.den*b.num.natAbs)=a/b:=by
 by_cases h:b.num.natAbs=0
 ·have hb:b=0:=Rat.num_eq_zero.1 (by omega)
  rw [h,Nat.mul_zero,yiQ,hb];grind
 ·rw [ylI a.den_pos b.den_pos (by omega),vS,vS]
theorem ylJ (x y:Value) (a b:Rat) (K L:Nat) (w:World) (hK:K+L≤900000) (hab:uA K a) (hbb:uA L b) (hx:jL w x a) (hy:jL w y b):Calls Tryz.prog 83 #[x,y] w (uF (a/b) w):=by
 have ydf:Hid (∀ W,Be w W→Calls Tryz.prog 71 #[x] W (yaM a.den W)):=yA fun W hW=>yaP x a W (hx.below hW)
 have ydg:Hid (∀ W,Be w W→Calls Tryz.prog 71 #[y] W (yaM b.den W)):=yA fun W hW=>yaP y b W (hy.below hW)
 obtain ⟨u1,v1,rfl,hu1,hv1⟩:=hx
 obtain ⟨u2,v2,rfl,hu2,hv2⟩:=hy
 obtain ⟨s,hs⟩:∃ s,Hid (s=decide (a.num<0)):=⟨_,yA rfl⟩
 obtain ⟨t,ht⟩:∃ t,Hid (t=decide (b.num<0)):=⟨_,yA rfl⟩
 rw [← hs.out] at ydf ⊢
 rw [← ht.out] at ydg ⊢
 have hdx:=ydf
 have hdy:=ydg
 clear ydf ydg
 obtain ⟨sb,hsb⟩:∃ sb,Hid (sb=decide ((a/b).num<0)):=⟨_,yA rfl⟩
 have hm1:Hid (∀ W p q,yE W p a.num.natAbs→yE W q b.den→Calls Tryz.prog 70 #[p,q] W (zC (a.num.natAbs*b.den) W)):=yA fun W p q h1 h2=>jN _ _ _ _ K L W (by unfold yF;omega) (by unfold yF;omega) hab.1 hbb.2 h1 h2
 have hm2:Hid (∀ W p q,yE W p a.den→yE W q b.num.natAbs→Calls Tryz.prog 70 #[p,q] W (zC (a.den*b.num.natAbs) W)):=yA fun W p q h1 h2=>jN _ _ _ _ K L W (by unfold yF;omega) (by unfold yF;omega) hab.2 hbb.1 h1 h2
 have hmk:Hid (∀ W f p q,f=(s != t)→yE W p (a.num.natAbs*b.den)→yE W q (a.den*b.num.natAbs)→Calls Tryz.prog 65 #[.bool f,p,q] W (uJ (a/b) sb W)):=yA fun W f p q hf h1 h2=>by
  have h:=GR f p q _ _ (K+L) W hK (jK hab.1 hbb.2) (jK hab.2 hbb.1) h1 h2
  have he:yM f (a.num.natAbs*b.den) (a.den*b.num.natAbs)=a/b:=by rw [hf,hs.out,ht.out];exact yhs a b
  rw [he] at h
  exact h.mono fun e w' h=>h.b hsb.out
 have jC:=Twa.start w s u1 v1 t u2 v2
 have Htwo:=yA jC
 obtain ⟨-,c0,c1,c2,c3,c4,c5⟩:=jC.all
 clear jC hv1 hv2 hab hbb
 go_in
 go_wp2_with fail
 go_region_held3 (fun w'=>Twa w.heap.size s u1 v1 t u2 v2 w w'∧w'.cell? ⟨w.heap.size,0,none⟩=some (.bool s)∧w'.cell? ⟨w.heap.size,1,none⟩=some u1∧w'.cell? ⟨w.heap.size,2,none⟩=some v1∧w'.cell? ⟨w.heap.size+1,0,none⟩=some (.bool t)∧w'.cell? ⟨w.heap.size+1,1,none⟩=some u2∧w'.cell? ⟨w.heap.size+1,2,none⟩=some v2)
  (first|exact Twa.all (Twa.drew Htwo.out)|exact Twa.all Htwo.out|(go_split_ands;exact Twa.all (Twa.next (by assumption) hb1))|(go_split_ands;exact Twa.all (Twa.next (by assumption) hb2))|(go_split_ands;exact Twa.all (Twa.next (by assumption) hb3))|(go_split_ands;exact Twa.all (Twa.next (by assumption) hb4))|(go_split_ands;exact Twa.all (Twa.next (by assumption) hb5))|(go_split_ands;exact Twa.all (Twa.put3 (by assumption) nl _ _ _ _ _ _ _))|go_keep)
  (first|(go_at_call_of 71 (Value.agg #[Value.bool t,u2,v2]);go_split_ands;refine (hdy.out _ (Twa.below (by assumption))).mono ?_;rintro e w1 ⟨py,ny,cy,rfl,hvy,hb1⟩)|(go_at_call_of 70 (u1);go_split_ands;refine (hm1.out _ _ _ (hu1.below (Twa.below (by assumption))) hvy).mono ?_;rintro e w2 ⟨vt,rfl,hvt,hb2,-⟩;obtain ⟨pt,nt,ct,rfl⟩:=hvt.slice)|(go_at_call_of 71 (Value.agg #[Value.bool s,u1,v1]);go_split_ands;refine (hdx.out _ (Twa.below (by assumption))).mono ?_;rintro e w3 ⟨px,nx,cx,rfl,hvx,hb3⟩)|(go_at_call_of 70 (Value.slice px nx cx);go_split_ands;refine (hm2.out _ _ _ hvx (hu2.below (Twa.below (by assumption)))).mono ?_;rintro e w4 ⟨vb,rfl,hvb,hb4,-⟩;obtain ⟨pb,nb,cb,rfl⟩:=hvb.slice)|(go_at_call 65;go_split_ands;refine (hmk.out _ _ _ _ rfl ((hvt.below hb3).below hb4) hvb).mono ?_;rintro e w5 ⟨pr,nr,cr,pq,nq,cq,rfl,hr1,hr2,hb5⟩;have htw:=Twa.next (by assumption) hb5;obtain ⟨z0,z1,z2,k0,k1,k2,f0,f1,f2⟩:=Twa.slots htw))
 go_wp2_with fail
 have yD:=yA (htw.fin nl hsb.out hr1 hr2)
 refine bodyPost_ret (v:=.agg #[.bool sb,.slice pr nr cr,.slice pq nq cq]) (by simp [results,Tryz.results83,go_sem,k0,k1,k2]) rfl ?_
 exact yD.out
end
section
open Go.RowKit Big
open Go.Lib
theorem ywI (x:Value) (q:Rat) (K:Nat) (w:World) (hK:K≤900000) (hq:uA K q) (hx:jL w x q):Calls Tryz.prog 82 #[x] w (Rp (.string ⟨(txt q).toArray⟩) w):=by
 have htx:=yA (fun W (hW:Be w W)=>ysK x q K W hK hq (hx.below hW))
 obtain ⟨p,n,c,p2,n2,c2,rfl,-,-⟩:=hx.slices
 obtain ⟨s,hs⟩:∃ s,Hid (s=decide (q.num<0)):=⟨_,yA rfl⟩
 rw [← hs.out] at htx ⊢
 obtain ⟨y,hy⟩:∃ y:ByteArray,Hid (y=⟨(txt q).toArray⟩):=⟨_,yA rfl⟩
 obtain ⟨f,hf⟩:∃ f,Hid (f=!(txt q).isEmpty):=⟨_,yA rfl⟩
 unfold yfv at htx
 rw [← hy.out,← hf.out] at htx
 rw [← hy.out]
 clear hx hq
 go_in
 go_wp2_with fail
 refine (htx.out _ (yC _ _)).mono ?_
 rintro e w1 ⟨rfl,hb1⟩
 have Hb1:=yA ((yC w _).trans (hb1.mono (yC w _).size))
 clear hb1
 go_wp2
 go_ret
 exact ⟨rfl,Hb1.out⟩
theorem Resa.other {B g:Nat} {w0 W:World} (h:Resa B w0 W) (hg:g≠B) (h0:w0.heap.size≤g) (k:Nat) (v:Value):Resa B w0 (W.setCell ⟨g,k,none⟩ v):=by
 refine ⟨by rw [World.size_setCell];exact h.size,h.below.setCell h0 _,?_⟩
 obtain ⟨z0,z1,z2,hz,hn⟩:=h.z
 exact ⟨z0,z1,z2,(Below.heap_setCell _ _ _ _ (fun e=>hg e.symm)).trans hz,hn⟩
def GA (a b:Rat) (f:Bool) (w:World) (e:Ending) (w':World):Prop:=∃ b1 p n c p2 n2 c2 b2 q m d q2 m2 d2,e=.returned (.tuple #[.agg #[.bool b1,.slice p n c,.slice p2 n2 c2],.agg #[.bool b2,.slice q m d,.slice q2 m2 d2],.bool f])∧Be w w' ∧
 (f=true→jL w' (.agg #[.bool b1,.slice p n c,.slice p2 n2 c2]) a∧jL w' (.agg #[.bool b2,.slice q m d,.slice q2 m2 d2]) b)
theorem yjh (f g:Bool) (s t:ByteArray) (a b:Rat) (w:World) (h1:∀ W,Hid (Calls Tryz.prog 31 #[.string s] W (zY a f W))) (h2:∀ W,Hid (Calls Tryz.prog 31 #[.string t] W (zY b g W))) :
  Calls Tryz.prog 80 #[.string s,.string t] w (GA a b (f&&g) w):=by
 cases f<;>cases g
 all_goals
  have hr1:=(Resa.start w).next (yC _ (.cells #[.bool false,.slice none 0 0,.slice none 0 0] 59))
  have hr2:Resa (w.heap.size+1) w ((w.alloc (.cells #[.bool false,.slice none 0 0,.slice none 0 0] 59)).alloc (.cells #[.bool false,.slice none 0 0,.slice none 0 0] 59)) :=
   ⟨by simp,hr1.below,.bool false,.slice none 0 0,.slice none 0 0,by rw [show w.heap.size+1=(w.alloc (.cells #[.bool false,.slice none 0 0,.slice none 0 0] 59)).heap.size from by simp];exact zB _ _,zI _,yV _ _ _,yV _ _ _⟩
  have Hr1:=yA hr1
  have Hr2:=yA hr2
  clear hr1 hr2
  go_in
  go_wp2_with fail
  refine (h1 _).out.mono ?_
  rintro e w1 ⟨b1,p,n,c,p2,n2,c2,rfl,hb1,hq1⟩
  have hR1:=yA ((Hr1.out.next hb1).next (yC w1 (.cells #[.bool b1,.slice p n c,.slice p2 n2 c2] 59)))
  have hR2:=yA ((Hr2.out.next hb1).next (yC w1 (.cells #[.bool b1,.slice p n c,.slice p2 n2 c2] 59)))
  have hQ1:=yA (fun h=>(hq1 h).below (yC w1 (.cells #[.bool b1,.slice p n c,.slice p2 n2 c2] 59)))
  have hB7:Hid ((w1.alloc (.cells #[.bool b1,.slice p n c,.slice p2 n2 c2] 59)).heap[w1.heap.size]?=some (.cells #[.bool b1,.slice p n c,.slice p2 n2 c2] 59 (0,0))):=yA (zB _ _)
  have hlt1:Hid (w.heap.size+1<w1.heap.size):=yA (by have:=hb1.size;simp at this;omega)
  clear hb1 hq1
  go_wp2_with fail
  refine (h2 _).out.mono ?_
  rintro e w2 ⟨b2,q,m,d,q2,m2,d2,rfl,hb2,hq2⟩
  have hS1:=yA ((hR1.out.next hb2).next (yC w2 (.cells #[.bool b2,.slice q m d,.slice q2 m2 d2] 59)))
  have hS2:=yA ((hR2.out.next hb2).next (yC w2 (.cells #[.bool b2,.slice q m d,.slice q2 m2 d2] 59)))
  have hT1:=yA (fun h=>((hQ1.out h).below hb2).below (yC w2 (.cells #[.bool b2,.slice q m d,.slice q2 m2 d2] 59)))
  have hT2:=yA (fun h=>(hq2 h).below (yC w2 (.cells #[.bool b2,.slice q m d,.slice q2 m2 d2] 59)))
  have h7:(w2.alloc (.cells #[.bool b2,.slice q m d,.slice q2 m2 d2] 59)).heap[w1.heap.size]?=some (.cells #[.bool b1,.slice p n c,.slice p2 n2 c2] 59 (0,0)):=by
   rw [yaT _ _ _ (by have:=hb2.size;simp at this;omega),hb2.block _ (by simp)];exact hB7.out
  have h9:(w2.alloc (.cells #[.bool b2,.slice q m d,.slice q2 m2 d2] 59)).heap[w2.heap.size]?=some (.cells #[.bool b2,.slice q m d,.slice q2 m2 d2] 59 (0,0)):=zB _ _
  have x70:=zO h7 0
  have x71:=zO h7 1
  have x72:=zO h7 2
  obtain ⟨y0,y1,y2,l0,l1,l2,f0,f1,f2⟩:=hS1.out.slots
  obtain ⟨z0,z1,z2,k0,k1,k2,g0,g1,g2⟩:=hS2.out.slots
  have x90:=zO h9 0
  have x91:=zO h9 1
  have x92:=zO h9 2
  have hs1:w.heap.size+1<w1.heap.size:=hlt1.out
  have hs2:w1.heap.size<w2.heap.size:=by have:=hb2.size;simp at this;omega
  have n1:w2.heap.size≠w.heap.size:=by omega
  have n2':w.heap.size≠w2.heap.size:=by omega
  have n3:w2.heap.size≠w.heap.size+1:=by omega
  have n4:w.heap.size+1≠w2.heap.size:=by omega
  have n5:w1.heap.size≠w.heap.size:=by omega
  have n6:w.heap.size≠w1.heap.size:=by omega
  have n7:w1.heap.size≠w.heap.size+1:=by omega
  have n8:w.heap.size+1≠w1.heap.size:=by omega
  clear h7 h9 hb2 hq2
  go_wp2_with fail
  have hA:=yA (hS1.out.put3 nl b1 p p2 n c n2 c2)
  have hB:=yA (((hS2.out.other (by omega) nl 0 (.bool b1)).other (by omega) nl 1 (.slice p n c)).other (by omega) nl 2 (.slice p2 n2 c2))
  first
  | (
    have hQ:Hid (GA a b true w (.returned (.tuple #[.agg #[.bool b1,.slice p n c,.slice p2 n2 c2],.agg #[.bool b2,.slice q m d,.slice q2 m2 d2],.bool true])) ((((((((w2.alloc (.cells #[.bool b2,.slice q m d,.slice q2 m2 d2] 59)).setCell ⟨w.heap.size,0,none⟩ (.bool b1)).setCell ⟨w.heap.size,1,none⟩ (.slice p n c)).setCell ⟨w.heap.size,2,none⟩ (.slice p2 n2 c2)).setCell ⟨w.heap.size+1,0,none⟩ (.bool b2)).setCell ⟨w.heap.size+1,1,none⟩ (.slice q m d)).setCell ⟨w.heap.size+1,2,none⟩ (.slice q2 m2 d2)).drew)):=yA (by
     refine ⟨_,_,_,_,_,_,_,_,_,_,_,_,_,_,rfl,((hB.out.put3 (by omega) b2 q q2 m d m2 d2).below).drew,?_⟩
     exact fun _=>⟨((hT1.out (by trivial)).put3 hS1.out nl b1 p p2 n c n2 c2).put3 hB.out (by omega) b2 q q2 m d m2 d2 |>.below bR.drew,((hT2.out (by trivial)).put3 hS1.out nl b1 p p2 n c n2 c2).put3 hB.out (by omega) b2 q q2 m d m2 d2 |>.below bR.drew⟩)
    go_region
    go_wp2
    refine bodyPost_ret (v:=.tuple #[.agg #[.bool b1,.slice p n c,.slice p2 n2 c2],.agg #[.bool b2,.slice q m d,.slice q2 m2 d2],.bool true]) ?_ rfl ?_
    ·simp [results,Tryz.results80,go_sem,l0,l1,l2,k0,k1,k2]
    ·exact hQ.out)
  | (
    have hQ:Hid (GA a b false w (.returned (.tuple #[.agg #[.bool b1,.slice p n c,.slice p2 n2 c2],.agg #[.bool b2,.slice q m d,.slice q2 m2 d2],.bool false])) ((((((((w2.alloc (.cells #[.bool b2,.slice q m d,.slice q2 m2 d2] 59)).setCell ⟨w.heap.size,0,none⟩ (.bool b1)).setCell ⟨w.heap.size,1,none⟩ (.slice p n c)).setCell ⟨w.heap.size,2,none⟩ (.slice p2 n2 c2)).setCell ⟨w.heap.size+1,0,none⟩ (.bool b2)).setCell ⟨w.heap.size+1,1,none⟩ (.slice q m d)).setCell ⟨w.heap.size+1,2,none⟩ (.slice q2 m2 d2)).drew)):=yA (by
     refine ⟨_,_,_,_,_,_,_,_,_,_,_,_,_,_,rfl,((hB.out.put3 (by omega) b2 q q2 m d m2 d2).below).drew,?_⟩
     exact fun h=>by cases h)
    go_region
    go_wp2
    refine bodyPost_ret (v:=.tuple #[.agg #[.bool b1,.slice p n c,.slice p2 n2 c2],.agg #[.bool b2,.slice q m d,.slice q2 m2 d2],.bool false]) ?_ rfl ?_
    ·simp [results,Tryz.results80,go_sem,l0,l1,l2,k0,k1,k2]
    ·exact hQ.out)
theorem ypS (s t:ByteArray) (w:World):Calls Tryz.prog 80 #[.string s,.string t] w fun e w'=>match num s.data.toList,num t.data.toList with
  | some a,some b=>GA a b true w e w'
  | _,_=>∃ a b,GA a b false w e w':=by
 have gs:=fun W=>yjM s W
 have gt:=fun W=>yjM t W
 have rd:∀ (x:ByteArray) (W:World) (q:Rat),(∀ W,Calls Tryz.prog 31 #[.string x] W (ypH none W))→Calls Tryz.prog 31 #[.string x] W (zY q false W):=fun x W q h=>(h W).mono fun e w' ⟨q',b,p,n,c,p2,n2,c2,h1,h2,_⟩=>⟨b,p,n,c,p2,n2,c2,h1,h2,fun h=>by cases h⟩
 cases ha:num s.data.toList with
 | none =>
  rw [ha] at gs
  cases hb:num t.data.toList with
  | none=>rw [hb] at gt;exact (yjh false false s t 0 0 w (fun W=>yA (rd s W 0 gs)) (fun W=>yA (rd t W 0 gt))).mono fun e w' h=>⟨_,_,h⟩
  | some b=>rw [hb] at gt;exact (yjh false true s t 0 b w (fun W=>yA (rd s W 0 gs)) (fun W=>yA (gt W))).mono fun e w' h=>⟨_,_,h⟩
 | some a =>
  rw [ha] at gs
  cases hb:num t.data.toList with
  | none=>rw [hb] at gt;exact (yjh true false s t a 0 w (fun W=>yA (gs W)) (fun W=>yA (rd t W 0 gt))).mono fun e w' h=>⟨_,_,h⟩
  | some b=>rw [hb] at gt;exact yjh true true s t a b w (fun W=>yA (gs W)) (fun W=>yA (gt W))
theorem uA.quo {K L:Nat} {a b:Rat} (ha:uA K a) (hb:uA L b):uA (K+L) (a/b):=by
 by_cases h:b.num.natAbs=0
 ·have hb0:b=0:=Rat.num_eq_zero.1 (by omega)
  have e:a/b=0:=by rw [hb0];grind
  rw [e]
  exact ⟨Nat.pow_pos zS,Nat.one_lt_pow (by have:=ha.2;have:=a.den_pos;intro h0;have hK:K=0:=(by omega);subst hK;rw [Nat.pow_zero] at *;omega) (by rw [zA];omega)⟩
 ·exact ycT (yhs a b) (jK ha.1 hb.2) (jK ha.2 hb.1) (Nat.mul_pos a.den_pos (by omega))
theorem ywJ (s t:ByteArray) (a b:Rat) (w:World) (jC:∀ W,Hid (Calls Tryz.prog 80 #[.string s,.string t] W (GA a b false W))):Calls Tryz.prog 94 #[.string s,.string t] w (yaU (0,false) w):=by
 go_in
 go_wp2_with fail
 refine (jC _).out.mono ?_
 rintro e w1 ⟨b1,p,n,c,p2,n2,c2,b2,q,m,d,q2,m2,d2,rfl,hb1,-⟩
 have HB:Hid (∀ o1 o2,Be w ((w1.alloc o1).alloc o2)):=yA fun o1 o2=>(hb1.alloc hb1.size o1).alloc (by have:=hb1.size;simp;omega) o2
 clear hb1
 go_wp2
 go_ret2
 exact ⟨rfl,HB.out _ _⟩
theorem yup (s t:ByteArray) (a b:Rat) (z:Int) (w:World) (hz0:GK (a-b)=z) (hab:uA 5 a) (hbb:uA 5 b) (jC:∀ W,Hid (Calls Tryz.prog 80 #[.string s,.string t] W (GA a b true W))):Calls Tryz.prog 94 #[.string s,.string t] w (yaU (z,true) w):=by
 have hop:∀ W x y,jL W x a→jL W y b→Hid (Calls Tryz.prog 52 #[x,y] W (Rp (.int .i64 z) W)):=fun W x y hx hy=>yA (by have h:=yez x y a b 5 5 W (by omega) hab hbb hx hy;rw [hz0] at h;exact h)
 clear hab hbb hz0
 go_in
 go_wp2_with fail
 refine (jC _).out.mono ?_
 rintro e w1 ⟨b1,p,n,c,p2,n2,c2,b2,q,m,d,q2,m2,d2,rfl,hb1,hq⟩
 obtain ⟨hx,hz⟩:=hq rfl
 have HB:Hid (∀ o1 o2,Be w ((w1.alloc o1).alloc o2)):=yA fun o1 o2=>(hb1.alloc hb1.size o1).alloc (by have:=hb1.size;simp;omega) o2
 have HX:Hid (∀ o1 o2,jL ((w1.alloc o1).alloc o2) (.agg #[.bool b1,.slice p n c,.slice p2 n2 c2]) a∧jL ((w1.alloc o1).alloc o2) (.agg #[.bool b2,.slice q m d,.slice q2 m2 d2]) b):=yA fun o1 o2=>⟨(hx.below (yC _ _)).below (yC _ _),(hz.below (yC _ _)).below (yC _ _)⟩
 clear hb1 hq hx hz
 go_wp2_with fail
 refine (hop _ _ _ (HX.out _ _).1 (HX.out _ _).2).out.mono ?_
 rintro e w3 ⟨rfl,hb3⟩
 have Hb3:=yA ((HB.out _ _).trans (hb3.mono (HB.out _ _).size))
 clear hb3
 go_wp2
 go_ret2
 exact ⟨rfl,Hb3.out⟩
theorem ypT {s t:ByteArray} {a b:Rat} (ha:num s.data.toList=some a) (hb:num t.data.toList=some b) (W:World):Hid (Calls Tryz.prog 80 #[.string s,.string t] W (GA a b true W)):=yA (by
 have h:=ypS s t W
 rw [ha,hb] at h;exact h)
theorem ypU {s t:ByteArray} (hn:num s.data.toList=none∨num t.data.toList=none) (W:World):Hid (Calls Tryz.prog 80 #[.string s,.string t] W (GA 0 0 false W)):=yA (by
 have h:=ypS s t W
 have k:∀ e w',(∃ a b,GA a b false W e w')→GA 0 0 false W e w':=by
  rintro e w' ⟨a,b,b1,p,n,c,p2,n2,c2,b2,q,m,d,q2,m2,d2,h1,h2,_⟩
  exact ⟨b1,p,n,c,p2,n2,c2,b2,q,m,d,q2,m2,d2,h1,h2,fun h=>by cases h⟩
 refine h.mono fun e w' h=>?_
 rcases hn with h1|h1
 ·rw [h1] at h;exact k _ _ h
 ·rw [h1] at h
  cases h2:num s.data.toList with
  | none=>rw [h2] at h;exact k _ _ h
  | some a=>rw [h2] at h;exact k _ _ h)
theorem ylK (x y:Lb):(∃ a b,num x=some a∧num y=some b)∨(num x=none∨num y=none):=by
 cases hx:num x with
 | none=>exact .inr (.inl rfl)
 | some a=>cases hy:num y with
  | none=>exact .inr (.inr rfl)
  | some b=>exact .inl ⟨a,b,rfl,rfl⟩
theorem yo6 (s t:ByteArray) (w:World):Calls Tryz.prog 94 #[.string s,.string t] w (yaU (yeW s.data.toList t.data.toList) w):=by
 rcases ylK s.data.toList t.data.toList with ⟨a,b,ha,hb⟩|hn
 ·rw [yrc ha hb];exact yup s t a b _ w (yeP _) (ycM ha) (ycM hb) (ypT ha hb)
 ·have e:yeW s.data.toList t.data.toList=(0,false):=by
   unfold yeW
   rcases hn with h|h
   ·rw [h]
   ·rw [h];cases num s.data.toList<;>rfl
  rw [e];exact ywJ s t 0 0 w (ypU hn)
end
section
open Go.RowKit
open Go.Lib
theorem yco (x:ByteArray) (w:World):Calls Tryz.prog 47 #[.string x] w (Rp (.bool (yba x.data.toList)) w):=by
 have HC:=h_ (yo6 x ⟨#[48]⟩ w)
 obtain ⟨v,HV⟩:=ez (yba x.data.toList)
 obtain ⟨⟨z,b⟩,HZ⟩:∃ t:Int × Bool,Hid (yeW x.data.toList [48]=t):=⟨_,rfl⟩
 have HC2:Hid (Calls Tryz.prog 94 #[.string x,.string ⟨#[48]⟩] w (yaU (z,b) w)):=h_ (by rw [← HZ.out];exact HC.out)
 have HVZ:Hid ((b&&decide ((0:Int)<z))=v):=h_ (by rw [← HV.out];unfold yba;rw [HZ.out])
 rw [HV.out]
 clear HC
 cases b with
 | false =>
  obtain rfl:v=false:=by rw [← HVZ.out];rfl
  go_in
  go_wp2_with fail
  refine (HC2.out).mono ?_
  rintro e w1 ⟨rfl,hb1⟩
  have HB:=h_ hb1
  clear hb1
  go_wp2
  go_ret
  exact ⟨rfl,HB.out⟩
 | true =>
  by_cases hz:(0:Int)<z
  ·obtain rfl:v=true:=by rw [← HVZ.out,decide_eq_true hz];rfl
   go_in
   go_wp2_with fail
   refine (HC2.out).mono ?_
   rintro e w1 ⟨rfl,hb1⟩
   have HB:=h_ hb1
   clear hb1
   go_wp2
   go_ret
   exact ⟨rfl,HB.out⟩
  ·obtain rfl:v=false:=by rw [← HVZ.out,decide_eq_false hz];rfl
   have hzd:decide ((0:Int)<z)=false:=decide_eq_false hz
   clear hz
   go_in
   go_wp2_with fail
   refine (HC2.out).mono ?_
   rintro e w1 ⟨rfl,hb1⟩
   have HB:=h_ hb1
   clear hb1
   go_wp2
   go_ret
   exact ⟨rfl,HB.out⟩
theorem yuq (n:Int) (i:Nat) (X:ByteArray) (w:World) (bp:Bool) (hp:∀ W,Be w W→Calls Tryz.prog 47 #[.string X] W fun e w2=>e=.returned (.bool bp)∧Be W w2):Calls Tryz.prog 42 #[.agg #[.int .i64 1,.int .i64 n,.string X],.int .i64 (i:Int)] w (Rp (.bool (decide (i=0)&&(decide (n=0)&&bp))) w):=by
 obtain ⟨W1,vI⟩:∃ W1,Hid (w.alloc (.cells #[.int .i64 1,.int .i64 n,.string X] 45)=W1):=⟨_,h_ rfl⟩
 have yX:Hid (Be w W1):=h_ (by rw [← vI.out];exact bR.alloc nl _)
 have HPS:=h_ (hp W1 yX.out)
 clear hp
 by_cases hi:i=0
 ·subst hi
  by_cases hn:n=0
  ·subst hn
   go_in
   go_wp2_with fail
   try rw [vI.out]
   refine (HPS.out).mono ?_
   rintro e w1 ⟨rfl,hb1⟩
   have HB:=th yX hb1
   clear hb1
   go_wp2
   go_ret
   exact ⟨by simp,HB.out⟩
  ·have hne:(n==0)=false:=by rw [beq_eq_false_iff_ne];exact hn
   rw [decide_eq_false hn,Bool.false_and,Bool.and_false]
   go_in
   go_wp2
   go_ret
   exact ⟨rfl,by first|exact yX.out|(rw [vI.out];exact yX.out)⟩
 ·have hie:((i:Int)==0)=false:=by rw [beq_eq_false_iff_ne];omega
  rw [decide_eq_false hi,Bool.false_and]
  go_in
  go_wp2
  go_ret
  exact ⟨rfl,by first|exact yX.out|(rw [vI.out];exact yX.out)⟩
theorem yg9 (kk:Int) (n:Int) (i:Nat) (X:ByteArray) (w:World) (bs:Bool) (hb:X.toList.isEmpty=bs) (hkk:kk=2∨kk=3∨kk=5):Calls Tryz.prog 42 #[.agg #[.int .i64 kk,.int .i64 n,.string X],.int .i64 (i:Int)] w (Rp (.bool (gsB n&&bs)) w):=by
 obtain ⟨W1,vI⟩:∃ W1,Hid (w.alloc (.cells #[.int .i64 kk,.int .i64 n,.string X] 45)=W1):=⟨_,h_ rfl⟩
 rcases hkk with rfl|rfl|rfl
 all_goals
  have yX:Hid (Be w W1):=h_ (by rw [← vI.out];exact bR.alloc nl _)
  unfold gsB
  by_cases h1:1≤n
  case neg =>
   have h1d:decide (1≤n)=false:=decide_eq_false h1
   rw [h1d,Bool.false_and,Bool.false_and]
   clear hb
   go_in
   go_wp2
   go_ret
   exact ⟨rfl,by first|exact yX.out|(rw [vI.out];exact yX.out)⟩
  by_cases h8:n≤8
  case neg =>
   have h8d:decide (n≤8)=false:=decide_eq_false h8
   rw [h8d,Bool.and_false,Bool.false_and]
   clear hb
   go_in
   go_wp2
   go_ret
   exact ⟨rfl,by first|exact yX.out|(rw [vI.out];exact yX.out)⟩
  rw [decide_eq_true h1,decide_eq_true h8,Bool.true_and,Bool.true_and]
  cases bs with
  | true =>
   have g1:X.toList=[]:=List.isEmpty_iff.1 hb
   clear hb
   go_in
   go_wp2
   go_ret
   exact ⟨rfl,by first|exact yX.out|(rw [vI.out];exact yX.out)⟩
  | false =>
   have g2:¬ X.toList=[]:=fun h=>by rw [h] at hb;cases hb
   have g3:(X.toList==[])=false:=by rw [beq_eq_false_iff_ne];exact g2
   go_in
   go_wp2
   go_ret
   exact ⟨rfl,by first|exact yX.out|(rw [vI.out];exact yX.out)⟩
theorem yur (n:Int) (i:Nat) (X:ByteArray) (w:World) (bs:Bool) (hb:X.toList.isEmpty=bs):Calls Tryz.prog 42 #[.agg #[.int .i64 4,.int .i64 n,.string X],.int .i64 (i:Int)] w (Rp (.bool (decide (n=0)&&bs)) w):=by
 obtain ⟨W1,vI⟩:∃ W1,Hid (w.alloc (.cells #[.int .i64 4,.int .i64 n,.string X] 45)=W1):=⟨_,h_ rfl⟩
 have yX:Hid (Be w W1):=h_ (by rw [← vI.out];exact bR.alloc nl _)
 by_cases hn:n=0
 ·subst hn
  rw [decide_eq_true rfl,Bool.true_and]
  cases bs with
  | true =>
   have g1:X.toList=[]:=List.isEmpty_iff.1 hb
   clear hb
   go_in
   go_wp2
   go_ret
   exact ⟨rfl,by first|exact yX.out|(rw [vI.out];exact yX.out)⟩
  | false =>
   have g2:¬ X.toList=[]:=fun h=>by rw [h] at hb;cases hb
   have g3:(X.toList==[])=false:=by rw [beq_eq_false_iff_ne];exact g2
   go_in
   go_wp2
   go_ret
   exact ⟨rfl,by first|exact yX.out|(rw [vI.out];exact yX.out)⟩
 ·have hne:(n==0)=false:=by rw [beq_eq_false_iff_ne];exact hn
  rw [decide_eq_false hn,Bool.false_and]
  clear hb
  go_in
  go_wp2
  go_ret
  exact ⟨rfl,by first|exact yX.out|(rw [vI.out];exact yX.out)⟩
theorem yus (k n:Int) (i:Nat) (X:ByteArray) (w:World) (h:k≠1∧k≠2∧k≠3∧k≠4∧k≠5):Calls Tryz.prog 42 #[.agg #[.int .i64 k,.int .i64 n,.string X],.int .i64 (i:Int)] w (Rp (.bool (false)) w):=by
 obtain ⟨W1,vI⟩:∃ W1,Hid (w.alloc (.cells #[.int .i64 k,.int .i64 n,.string X] 45)=W1):=⟨_,h_ rfl⟩
 have yX:Hid (Be w W1):=h_ (by rw [← vI.out];exact bR.alloc nl _)
 obtain ⟨h1,h2,h3,h4,h5⟩:=h
 have e1:(k==1)=false:=by rw [beq_eq_false_iff_ne];exact h1
 have e2:(k==2)=false:=by rw [beq_eq_false_iff_ne];exact h2
 have e3:(k==3)=false:=by rw [beq_eq_false_iff_ne];exact h3
 have e4:(k==4)=false:=by rw [beq_eq_false_iff_ne];exact h4
 have e5:(k==5)=false:=by rw [beq_eq_false_iff_ne];exact h5
 go_in
 go_wp2
 go_ret
 exact ⟨rfl,by first|exact yX.out|(rw [vI.out];exact yX.out)⟩
theorem yo7 (k n:Int) (i:Nat) (s:Lb) (w:World):Calls Tryz.prog 42 #[.agg #[.int .i64 k,.int .i64 n,.string ⟨s.toArray⟩],.int .i64 (i:Int)] w (Rp (.bool (yde (k,n,s)&&(decide (i=0) || !decide (k=1)))) w):=by
 have hs:(⟨s.toArray⟩:ByteArray).toList.isEmpty=decide (s=[]):=by
  cases s with
  | nil=>simp
  | cons a r=>simp
 have E1:∀ j:Int,j≠1→¬ (j,n,s).1=1:=fun _ h=>h
 have E2:∀ b c:Bool,(b&&(c || true))=b:=by decide
 unfold yde
 by_cases h1:k=1
 ·subst h1
  rw [if_pos rfl,decide_eq_true (rfl:(1:Int)=1),Bool.not_true,Bool.or_false,Bool.and_comm]
  exact yuq n i _ w (yba s) (fun W hW=>yco ⟨s.toArray⟩ W)
 rw [decide_eq_false h1,Bool.not_false,E2]
 by_cases h2:k=2
 ·subst h2;rw [if_neg (E1 2 (by decide)),if_pos (by show (2:Int)=2∨(2:Int)=3∨(2:Int)=5;decide)];exact yg9 2 n i _ w _ hs (.inl rfl)
 by_cases h3:k=3
 ·subst h3;rw [if_neg (E1 3 (by decide)),if_pos (by show (3:Int)=2∨(3:Int)=3∨(3:Int)=5;decide)];exact yg9 3 n i _ w _ hs (.inr (.inl rfl))
 by_cases h5:k=5
 ·subst h5;rw [if_neg (E1 5 (by decide)),if_pos (by show (5:Int)=2∨(5:Int)=3∨(5:Int)=5;decide)];exact yg9 5 n i _ w _ hs (.inr (.inr rfl))
 by_cases h4:k=4
 ·subst h4;rw [if_neg (E1 4 (by decide)),if_neg (by show ¬ ((4:Int)=2∨(4:Int)=3∨(4:Int)=5);decide),if_pos (by show (4:Int)=4;rfl)];exact yur n i _ w _ hs
 rw [if_neg h1,if_neg (by show ¬ (k=2∨k=3∨k=5);omega),if_neg h4]
 exact yus k n i _ w ⟨h1,h2,h3,h4,h5⟩
theorem yf6 (k:Int) (p:Oa) (c n:Nat) (l:List Sg) (w:World) (hx:Hid (l.length=n)) (hs:RdG w p l) :
  Calls Tryz.prog 16 #[.int .i64 k,.slice p n c] w (Rp (.bool (uK k l)) w):=by
 have HS:=h_ hs
 obtain ⟨v,HV⟩:=ez (uK k l)
 have HT:=h_ (fun W=>yb5 k W)
 obtain ⟨bt,HBT⟩:=ez (isT k)
 rw [HBT.out] at HT
 rw [HV.out]
 have GU:=h_ (Below.refl w.heap.size w)
 clear hs
 cases bt with
 | false =>
  obtain rfl:v=false:=by rw [← HV.out];unfold uK;rw [HBT.out];rfl
  go_in
  go_wp2_with fail
  refine (HT.out _).mono ?_
  rintro e w' ⟨rfl,rfl⟩
  go_wp2
  go_ret
  exact ⟨rfl,GU.out⟩
 | true =>
 by_cases h4:4<n
 ·have h4i:(4:Int)<(n:Int):=by omega
  obtain rfl:v=false:=by
   rw [← HV.out];unfold uK;rw [decide_eq_false (by rw [hx.out];omega),Bool.and_false];rfl
  go_in
  go_wp2_with fail
  refine (HT.out _).mono ?_
  rintro e w' ⟨rfl,rfl⟩
  go_wp2
  go_ret
  exact ⟨rfl,GU.out⟩
 have h4i:¬ (4:Int)<(n:Int):=by omega
 have hni:(n:Int)≤4:=by omega
 have HNO:Hid (∀ i,i<n→ybx l i=false→v=false):=h_ (fun i hi h=>by rw [← HV.out];exact ysW (by rw [hx.out];exact hi) h)
 have yfI:Hid ((∀ i,i<n→ybx l i=true)→v=true):=h_ (fun h=>by rw [← HV.out];exact yqc HBT.out (by rw [hx.out];omega) (fun i hi=>h i (by rw [← hx.out];exact hi)))
 go_in
 go_wp2_with fail
 refine (HT.out _).mono ?_
 rintro e w' ⟨rfl,rfl⟩
 go_wp2
 go_loopw [5] (fun iv wr=>∃ i:Nat,i≤n∧iv=.int .i64 i∧Hid (∀ j,j<i→ybx l j=true)∧Hid (Be w wr)) (fun iv _=>n-(intOf iv).toNat)
 case atStart=>exact ⟨0,Nat.zero_le _,rfl,h_ (fun j hj=>by omega),GU⟩
 case round =>
  obtain ⟨i,hi,rfl,HA,HB⟩:=hrel
  have ii:(i:Int)≤(n:Int):=by omega
  by_cases hlt:i<n
  ·have ilt:(i:Int)<(n:Int):=by omega
   obtain ⟨b1,o1,x,y,z,e1,hb1,hc1,hc2,hc3,hx1⟩:=(HS.out.below HB.out).at (k:=i) (by rw [hx.out];exact hlt)
   subst e1
   obtain ⟨Z,HZ⟩:∃ Z:ByteArray,Hid (⟨z.toArray⟩=Z):=⟨_,rfl⟩
   rw [HZ.out] at hc3
   obtain ⟨u,HU⟩:=ez (ybx l i)
   have HVS:Hid (Calls Tryz.prog 42 #[.agg #[.int .i64 x,.int .i64 y,.string Z],.int .i64 (i:Int)] wr (Rp (.bool u) wr)):=h_ (by
    have h:=yo7 x y i z wr
    unfold ybx at HU
    rw [hx1.out] at HU
    rwa [HZ.out,HU.out] at h)
   cases u with
   | false =>
    obtain rfl:v=false:=HNO.out i hlt HU.out
    go_wp2_with fail
    refine (HVS.out).mono ?_
    rintro e w3 ⟨rfl,hb3⟩
    have HB3:Hid (Be w w3):=th HB hb3
    clear hb3
    go_wp2
    go_ret
    exact ⟨rfl,HB3.out⟩
   | true =>
    have hst:Hid (∀ j,j<i+1→ybx l j=true):=h_ (fun j hj=>by
     by_cases e:j=i
     ·rw [e];exact HU.out
     ·exact HA.out j (by omega))
    go_wp2_with fail
    refine (HVS.out).mono ?_
    rintro e w3 ⟨rfl,hb3⟩
    have HB3:Hid (Be w w3):=th HB hb3
    clear hb3
    go_wp2
    go_roundw
    case rel=>exact ⟨i+1,by omega,by go_num,hst,HB3⟩
    case measure=>simp [intOf];omega
  ·obtain rfl:i=n:=by omega
   have ilt:¬ (i:Int)<(i:Int):=by omega
   obtain rfl:v=true:=yfI.out HA.out
   go_wp2
   go_ret
   exact ⟨rfl,HB.out⟩
def uM (l:List Sg):Bool:=decide (0<l.length)&&decide ((l.getD 0 (0,0,[])).1=1)
def zV (l:List Sg):Lb:=(l.getD 0 (0,0,[])).2.2
theorem yep (p:Oa) (c n:Nat) (l:List Sg) (w:World) (hx:Hid (l.length=n)) (hs:RdG w p l) :
  Calls Tryz.prog 35 #[.slice p n c] w (Qp (.bool (uM l)) w):=by
 have HS:=h_ hs
 clear hs
 by_cases h0:n=0
 ·have hr:uM l=false:=by unfold uM;rw [hx.out,h0];rfl
  rw [hr]
  subst h0
  clear hr
  go_in
  go_wp2
  go_ret
  exact ⟨rfl,rfl⟩
 have hn0:(0:Int)<(n:Int):=by omega
 have hne:((n:Int)==0)=false:=by rw [beq_eq_false_iff_ne];omega
 obtain ⟨b1,o1,x,y,z,e1,hb1,hc1,hc2,hc3,hx1⟩:=HS.out.at (k:=0) (by rw [hx.out];omega)
 subst e1
 rw [Nat.zero_mul,Nat.add_zero] at hc1 hc2 hc3
 have hr:uM l=decide (x=1):=by unfold uM;rw [hx1.out,decide_eq_true (by rw [hx.out];omega),Bool.true_and]
 have hst:zV l=z:=by unfold zV;rw [hx1.out]
 obtain ⟨Z,HZ⟩:∃ Z:ByteArray,Hid (⟨z.toArray⟩=Z):=⟨_,rfl⟩
 rw [HZ.out] at hc3
 by_cases h1:x=1
 ·subst h1
  have HR:Hid (uM l=true):=h_ (by rw [hr];rfl)
  have HST:=h_ hst
  rw [HR.out]
  try rw [HST.out,HZ.out]
  clear hr hst h0
  go_in
  go_wp2
  go_ret
  exact ⟨rfl,rfl⟩
 ·have hxb:(x==1)=false:=by rw [beq_eq_false_iff_ne];exact h1
  have HR:Hid (uM l=false):=h_ (by rw [hr];exact decide_eq_false h1)
  rw [HR.out]
  clear hr hst h1 h0
  go_in
  go_wp2
  go_ret
  exact ⟨rfl,rfl⟩
theorem yi3 (p:Oa) (c n:Nat) (l:List Sg) (w:World) (hx:Hid (l.length=n)) (hs:RdG w p l) :
  Calls Tryz.prog 37 #[.slice p n c] w (Qp (.tuple #[.string (if uM l then ⟨(zV l).toArray⟩ else ⟨#[]⟩),.bool (uM l)]) w):=by
 have HS:=h_ hs
 clear hs
 by_cases h0:n=0
 ·have hr:uM l=false:=by unfold uM;rw [hx.out,h0];rfl
  rw [hr]
  subst h0
  clear hr
  go_in
  go_wp2
  go_ret2
  exact ⟨rfl,rfl⟩
 have hn0:(0:Int)<(n:Int):=by omega
 have hne:((n:Int)==0)=false:=by rw [beq_eq_false_iff_ne];omega
 obtain ⟨b1,o1,x,y,z,e1,hb1,hc1,hc2,hc3,hx1⟩:=HS.out.at (k:=0) (by rw [hx.out];omega)
 subst e1
 rw [Nat.zero_mul,Nat.add_zero] at hc1 hc2 hc3
 have hr:uM l=decide (x=1):=by unfold uM;rw [hx1.out,decide_eq_true (by rw [hx.out];omega),Bool.true_and]
 have hst:zV l=z:=by unfold zV;rw [hx1.out]
 obtain ⟨Z,HZ⟩:∃ Z:ByteArray,Hid (⟨z.toArray⟩=Z):=⟨_,rfl⟩
 rw [HZ.out] at hc3
 by_cases h1:x=1
 ·subst h1
  have HR:Hid (uM l=true):=h_ (by rw [hr];rfl)
  have HST:=h_ hst
  rw [HR.out]
  try rw [HST.out,HZ.out]
  clear hr hst h0
  go_in
  go_wp2
  go_ret2
  exact ⟨rfl,rfl⟩
 ·have hxb:(x==1)=false:=by rw [beq_eq_false_iff_ne];exact h1
  have HR:Hid (uM l=false):=h_ (by rw [hr];exact decide_eq_false h1)
  rw [HR.out]
  clear hr hst h1 h0
  go_in
  go_wp2
  go_ret2
  exact ⟨rfl,rfl⟩
end
abbrev zT:Nat:=18446744073709551616
def yb0 (a g:Nat):Nat × Nat:=((g+zT-a)%zT,g)
def chR (st:Nat→Nat→Nat × Nat) (n:Nat):Nat→Nat→Lb→Lb
 | 0,_,l=>l
 | k+1,a,l=>be n (st a (nb (l.take n))).1++chR st n k (st a (nb (l.take n))).2 (l.drop n)
theorem yht (st:Nat→Nat→Nat × Nat) (n:Nat):∀ (k a:Nat) (l:Lb),k*n≤l.length→(chR st n k a l).length=l.length
 | 0,_,_,_=>rfl
 | k+1,a,l,h=>by
  rw [Nat.succ_mul] at h
  rw [chR,List.length_append,zE,yht st n k _ _ (by rw [List.length_drop];omega),List.length_drop];omega
def yeV (l:Lb) (n:Nat):Lb:=chR yb0 n (l.length/n) 0 l
theorem yf7 (l:Lb) {n:Nat}:(yeV l n).length=l.length:=yht _ _ _ _ _ (Nat.div_mul_le_self _ _)
section
open Go.RowKit
open Go.Lib
theorem ydE (w:World) (B:Nat) (v:Value) (n c:Nat) (xs:List Value) (ty:TypeId) (yR:w.ownsRow B 5 1 v n xs):(Builtin.append_ #[39,39] ty #[v,.slice none 0 c]).run Tryz.prog w=.ok v w:=by
 obtain ⟨i0,hi,hz0,hz1,hz2⟩:=info_parts GE
 obtain ⟨-,⟨rfl,rfl⟩|⟨g,cap,cur,rfl,-,-,hnc,-⟩⟩:=yR
 ·simp [Builtin.append_,run_underlying Tryz.underlying39,sizeOf,typeInfo,hi,Builtin.lenOf,Builtin.firstCells]
 ·simp [Builtin.append_,run_underlying Tryz.underlying39,sizeOf,typeInfo,hi,Builtin.lenOf,Builtin.firstCells,hnc,storeCells]
theorem yG {w:World} {ops:Array Oper} {rest:List Oper} {o:Oper} {a:Act} {Q:Exit→Act→World→Prop} (hgd:o.guard=none) (s x:Operand)
  (ho:o.op=.call { callee:=.builtin .append,args:=#[s,x],argTypes:=#[39,39] })
  (B:Nat) (v:Value) (n:Nat) (X:Lb) (hs:a.eval s=v) (hn:n=X.length) (yR:w.ownsRow B 5 1 v n (zG X))
  (p:Oa) (m c:Nat) (L:Lb) (hx:a.eval x=.slice p m c) (hm:L.length=m) (hb:Bs w p L) (hlen:n+m≤140737488355328) (hB:B≤w.heap.size)
  (h:∀ v' w',Grew B w v (X++L) w' v'→wpList Tryz.prog ops Q rest (a.put o.dst v') w'):wpList Tryz.prog ops Q (o::rest) a w:=by
 subst hn
 subst hm
 obtain ⟨i0,hi,hz0,hz1,hz2⟩:=info_parts GE
 cases p with
 | none =>
  have h0:L=[]:=by
   rcases hb with h0|⟨b,off,h1,-⟩
   ·exact List.eq_nil_of_length_eq_zero h0
   ·cases h1
  subst h0
  refine wpList_plain hgd fun K hK=>?_
  have hr:=ydE w B v X.length c (zG X) o.type yR
  unfold Oper.wp execOp
  simp only [ho,resolve,invoke,builtin,Sem.run_bind,Sem.run_pure,Result.andThen_ok,List.map_toArray,List.map_cons,List.map_nil,hs,hx,List.length_nil,hr]
  exact hK _ _ (h v w (by rw [List.append_nil];exact Grew.refl yR))
 | some ad =>
  refine wpList_append_own_at _ hgd s x 39 ho B 5 i0 (.int .u8 0) 1 1 Tryz.underlying39 hi hz0 hz1 hz2 rfl (by decide) _ _ _ hs yR ad L.length c (zG L) hx (by rw [ybI,Nat.mul_one]) (hb.news bR _ rfl) (ygf L) (by unfold maxLen;omega) (by omega) hB ?_
  intro v' w' h1 h2 _ h4
  refine h v' w' ⟨?_,h2,h4.imp id fun h=>⟨_,h,Nat.le_refl _⟩⟩
  rw [List.length_append,zG,List.map_append];exact h1
theorem Grew.drewN {B:Nat} {w w':World} {v v':Value} {l:Lb} (h:Grew B w v l w' v') (n:Nat):Grew B w v l (w'.drewN n) v' :=
 ⟨h.own,⟨h.grown.os,h.grown.tape,h.grown.output,h.grown.size,h.grown.block⟩,h.lies⟩
theorem GT {B:Nat} {a w:World} (h:Below B a w) (n:Nat):Below B a (w.drewN n):=h.trans ⟨rfl,rfl,rfl,Nat.le_refl _,fun _ _=>rfl⟩
def gl (n:Nat):Nat→Lb→List Nat
 | 0,_=>[]
 | k+1,l=>nb (l.take n)::gl n k (l.drop n)
theorem uL (n:Nat):∀ (k:Nat) (l:Lb),(gl n k l).length=k
 | 0,_=>rfl
 | k+1,l=>by rw [gl,List.length_cons,uL n k]
theorem yjU (n:Nat):∀ (k:Nat) (l:Lb),gl n (k+1) l=gl n k l++[nb ((l.drop (k*n)).take n)]
 | 0,l=>by rw [gl,gl,gl,Nat.zero_mul,List.drop_zero,List.nil_append]
 | k+1,l=>by rw [gl,yjU n k (l.drop n),gl,List.cons_append,List.drop_drop,Nat.succ_mul,Nat.add_comm n]
theorem ykI {n:Nat} (hn:n≤8):∀ (k:Nat) (l:Lb),∀ x ∈ gl n k l,x<zT
 | 0,_,x,h=>by cases h
 | k+1,l,x,h=>by
  rw [gl,List.mem_cons] at h
  rcases h with rfl|h
  ·exact ygP (by rw [List.length_take];omega)
  ·exact ykI hn k _ x h
def jl (n:Nat):List Nat→Lb
 | []=>[]
 | x::xs=>be n x++jl n xs
theorem ydJ (n:Nat) (ys:List Nat):∀ xs,jl n (xs++ys)=jl n xs++jl n ys
 | []=>rfl
 | x::xs=>by rw [List.cons_append,jl,jl,ydJ n ys xs,List.append_assoc]
theorem yax (n:Nat):∀ xs,(jl n xs).length=xs.length*n
 | []=>by rw [jl,List.length_nil,List.length_nil,Nat.zero_mul]
 | x::xs=>by rw [jl,List.length_append,zE,yax n xs,List.length_cons,Nat.succ_mul,Nat.add_comm]
theorem ybl {w:World} {p:Oa} {l:Lb} (h:Bs w p l) {t:Nat} (ht:t<l.length):∃ b off:Nat,p=some ⟨b,off,none⟩∧b<w.heap.size∧w.cell? ⟨b,off+t,none⟩=some (.int .u8 (((l.getD t 0).toNat:Nat):Int)):=by
 rcases h with h0|⟨b,off,h1,h2,h3⟩
 ·omega
 ·exact ⟨b,off,h1,h2,h3 t ht⟩
end
section
open Go.RowKit Go.Shelf
open Go.Lib
attribute [local go_sem] Oper.semAt_some
theorem yf8 (F:Fence) (n:Nat) (h39:F.fn 148) (hro:F.round=none) (a b:Int) (w:World) :
  CallsIn F n Tryz.prog 148 #[.int .i64 a,.int .i64 b] w fun e w'=>e=.returned (.func (.func 189) #[] #[.pointer (some ⟨w.heap.size,0,none⟩),.pointer (some ⟨w.heap.size+1,0,none⟩)])∧w'=(w.alloc (.cells #[.int .i64 a] 3)).alloc (.cells #[.int .i64 b] 3):=by
 refine callsIn_of_wp Tryz.func148 rfl h39 ?_ hro
 simp only [Tryz.ntmps148,List.size_toArray,List.length_cons,List.length_nil,Nat.reduceAdd,Nat.reduceSub,Array.replicate_succ,Array.replicate_zero,List.push_toArray,List.append_toArray,List.nil_append,List.cons_append]
 gi_wp2
 go_ret
 exact ⟨rfl,rfl⟩
end
def uX (len n t:Nat):Nat:=if t<len/n*n then t%(len/n)*n+t/(len/n) else t
theorem yjV {len n t:Nat} (_hn:0<n) (h:t<len):uX len n t<len:=by
 unfold uX
 split
 ·rename_i h1
  have hk:0<len/n:=Nat.pos_of_ne_zero fun h0=>by rw [h0] at h1;omega
  have h2:t/(len/n)<n:=(Nat.div_lt_iff_lt_mul hk).2 (by rw [Nat.mul_comm];exact h1)
  exact Nat.lt_of_lt_of_le (ybm (Nat.mod_lt _ hk) h2) (Nat.div_mul_le_self _ _)
 ·exact h
theorem ybt {len n i j:Nat} (hi:i<len/n) (hj:j<n):uX len n (j*(len/n)+i)=i*n+j:=by
 have hk:0<len/n:=by omega
 unfold uX
 rw [if_pos (by rw [Nat.mul_comm (len/n)];exact ybm hj hi),Nat.mul_comm j,Nat.mul_add_mod,Nat.mod_eq_of_lt hi,Nat.mul_add_div hk,Nat.div_eq_of_lt hi,Nat.add_zero]
theorem ybu {len n t:Nat} (h:len/n*n≤t):uX len n t=t:=by unfold uX;rw [if_neg (by omega)]
theorem yi4 (l:Lb) {n t:Nat} (hn:0<n) (ht:t<l.length):(yaj l n).getD t 0=l.getD (uX l.length n t) 0:=by
 by_cases h:t<l.length/n*n
 ·have hk:0<l.length/n:=Nat.pos_of_ne_zero fun h0=>by rw [h0] at h;omega
  have _:=ht
  have _:=hn
  obtain ⟨j,i,hj,hi,rfl⟩:=ya1 (k:=n) (n:=l.length/n) (by rw [Nat.mul_comm];exact h) hk
  rw [yjb l hi hj,ybt hi hj]
 ·rw [yhA _ (by omega),ybu (by omega)]
def ybg (l:Lb) (f g:Nat→Nat) (ts:List Nat):Lb:=ts.foldl (fun X t=>X.set (f t) (l.getD (g t) 0)) (List.replicate l.length 0)
theorem yeq (l:Lb) (f g:Nat→Nat) (ts:List Nat) (t:Nat):ybg l f g (ts++[t])=(ybg l f g ts).set (f t) (l.getD (g t) 0):=by
 unfold ybg;rw [List.foldl_append];rfl
theorem yut (l:Lb) (f g:Nat→Nat) (ts:List Nat):∀ X:Lb,(ts.foldl (fun X t=>X.set (f t) (l.getD (g t) 0)) X).length=X.length:=by
 induction ts with
 | nil=>intro X;rfl
 | cons t ts ih=>intro X;rw [List.foldl_cons,ih,List.length_set]
theorem yaf (l:Lb) (f g:Nat→Nat) (ts:List Nat):(ybg l f g ts).length=l.length:=by
 unfold ybg;rw [yut,List.length_replicate]
theorem yfy (l:Lb) (f g:Nat→Nat) (hf:∀ s t,s<l.length→t<l.length→f s=f t→s=t) (hb:∀ t,t<l.length→f t<l.length):∀ m,m≤l.length→∀ t,t<m→(ybg l f g (List.range m)).getD (f t) 0=l.getD (g t) 0
 | m+1,hm,t,ht=>by
  rw [List.range_succ,yeq,List.getD_eq_getElem?_getD,List.getElem?_set]
  by_cases h:f m=f t
  ·have e:m=t:=hf m t (by omega) (by omega) h
   rw [if_pos h,if_pos (by rw [yaf];exact hb m (by omega)),e];rfl
  ·rw [if_neg h,← List.getD_eq_getElem?_getD]
   exact yfy l f g hf hb m (by omega) t (by
    rcases Nat.lt_or_ge t m with h1|h1
    ·exact h1
    ·exact absurd (by rw [show t=m by omega]) h)
theorem yrd (l:Lb) {n:Nat} (hn:0<n):ybg l (fun t=>t) (fun t=>uX l.length n t) (List.range l.length)=yaj l n:=by
 refine yhg (by rw [yaf,vN]) fun t ht=>?_
 rw [yaf] at ht
 have:=yfy l (fun t=>t) (fun t=>uX l.length n t) (fun s t _ _ h=>h) (fun t h=>h) l.length nl t ht
 rw [this,yi4 l hn ht]
section
open Go.RowKit Go.Shelf
open Go.Lib
attribute [local go_sem] Oper.semAt_some
abbrev Pl (len:Nat):={ t:Nat // t<len }
abbrev plE (len n:Nat) (x:Pl len):Array Value:=#[.int .i64 ((x.1:Nat):Int),.int .i64 ((uX len n x.1:Nat):Int)]
def ycG (Bs Bn:Nat) (W W':World):Prop:=W'.heap[Bs]?=W.heap[Bs]?∧W'.heap[Bn]?=W.heap[Bn]?
theorem ycG.trans {Bs Bn:Nat} {A B C:World} (h:ycG Bs Bn A B) (k:ycG Bs Bn B C):ycG Bs Bn A C:=⟨k.1.trans h.1,k.2.trans h.2⟩
theorem ycG.c1 {Bs Bn:Nat} {A B:World} (h:ycG Bs Bn A B):B.cell? ⟨Bs,0,none⟩=A.cell? ⟨Bs,0,none⟩:=World.cell?_of_block (a:=⟨Bs,0,none⟩) h.1
theorem ycG.c2 {Bs Bn:Nat} {A B:World} (h:ycG Bs Bn A B):B.cell? ⟨Bn,0,none⟩=A.cell? ⟨Bn,0,none⟩:=World.cell?_of_block (a:=⟨Bn,0,none⟩) h.2
theorem ywK (F:Fence) (m:Nat) (h64:F.fn 189) (hro:F.round=none) (hm:1≤m) (lr Bs Bn len n:Nat) (hn1:1≤n) (hn2:n≤8) (hlen:len≤20000) (J Jx:List (Pl len)→World→Prop)
  (hJd:∀ pre W q,J pre W→J pre (W.drewN q))
  (hY:∀ pre x W,J pre W→pre.length<len→YieldAt F (m-1) Tryz.prog lr (plE len n x) W fun e W' =>
   (e=.returned (.bool true)∧J (pre++[x]) W'∧ycG Bs Bn W W')∨(e=.returned (.bool false)∧Jx (pre++[x]) W'))
  (W:World) (hBs:W.cell? ⟨Bs,0,none⟩=some (.int .i64 (len:Int))) (hBn:W.cell? ⟨Bn,0,none⟩=some (.int .i64 (n:Int))) (h0:J [] W) :
  CallsIn F m Tryz.prog 189 #[.func (.yield lr) #[] #[],.pointer (some ⟨Bs,0,none⟩),.pointer (some ⟨Bn,0,none⟩)] W fun e W'=>(∃ v,e=.returned v) ∧
   ((∃ ys,ys.map (·.1)=List.range len∧J ys W')∨(∃ pre,True∧Jx pre W')):=by
 have hni:1≤(n:Int):=by omega
 have hni2:(n:Int)≤8:=by omega
 have hli:(len:Int)≤20000:=by omega
 obtain ⟨k,HK⟩:=ey (len/n)
 obtain ⟨E,HE⟩:=ey (k*n)
 have HEl:Hid (E≤len):=h_ (by rw [HE.out,HK.out];exact Nat.div_mul_le_self _ _)
 have yaI:wrap64 ((len:Int)-(len:Int)%(n:Int))=(E:Int):=by
  have h1:=Nat.div_add_mod len n
  rw [← HK.out,Nat.mul_comm,← HE.out] at h1
  have h2:(len:Int)-(len:Int)%(n:Int)=(E:Int):=by omega
  rw [h2]
  have:=HEl.out
  unfold wrap64;omega
 have hEi:(E:Int)≤20000:=by have:=HEl.out;omega
 refine callsIn_of_wp Tryz.func189 rfl h64 ?_ hro
 simp only [Tryz.ntmps189,List.size_toArray,List.length_cons,List.length_nil,Nat.reduceAdd,Nat.reduceSub,Array.replicate_succ,Array.replicate_zero,List.push_toArray,List.append_toArray,List.nil_append,List.cons_append]
 gi_wp2
 refine wpIn_region_quiet_lit hro (by kernel_rfl) (by kernel_rfl) ?_
 repeat (gi_big_quiet_step (fail))
 refine wpQuietIn_nil ?_
 intro _ hw'
 obtain ⟨nq,hw''⟩:=hw'
 subst hw''
 gi_wp2
 rw [yaI]
 clear yaI
 have hJ0:=h_ (hJd _ _ nq h0)
 gi_loopw [4,14] (fun tv fv wr=>∃ (t j:Nat) (pre:List (Pl len)),j≤n∧tv=.int .i64 t∧fv=.int .i64 j∧Hid (t=j*k)∧Hid (pre.map (·.1)=List.range t)∧Hid (J pre wr)∧Hid (ycG Bs Bn W wr)) (fun _ fv _=>n-(intOf fv).toNat)
 case atStart=>exact ⟨0,0,[],Nat.zero_le _,rfl,rfl,h_ (by simp),rfl,hJ0,h_ ⟨rfl,rfl⟩⟩
 case round =>
  obtain ⟨t,j,pre,hj,rfl,rfl,HT,HP,HJ,HB⟩:=hrel
  by_cases hjn:j<n
  ·have hcn:=HB.out.c2.trans hBn
   gi_wp2
   clear hcn
   gi_loopw [4,7] (fun tv gv wr=>∃ (t fr i:Nat) (pre:List (Pl len)),i≤k∧tv=.int .i64 t∧gv=.int .i64 fr∧Hid (t=j*k+i)∧Hid (fr=i*n+j)∧Hid (pre.map (·.1)=List.range t)∧Hid (J pre wr)∧Hid (ycG Bs Bn W wr)) (fun tv _ _=>(j+1)*k-(intOf tv).toNat)
   case atStart=>exact ⟨t,j,0,pre,Nat.zero_le _,rfl,rfl,h_ (by rw [HT.out];rfl),h_ (by rw [Nat.zero_mul,Nat.zero_add]),HP,HJ,HB⟩
   case round =>
    obtain ⟨t,fr,i,pre,hik,rfl,rfl,HT,HFR,HP,HJ,HB⟩:=hrel
    have hcn:=HB.out.c2.trans hBn
    by_cases hi:i<k
    ·have q1:fr<E:=by rw [HFR.out,HE.out];exact ybm hi hjn
     have htE:t<E:=by rw [HT.out,HE.out,Nat.mul_comm k];exact ybm hjn hi
     have htl:t<len:=Nat.lt_of_lt_of_le htE HEl.out
     have hti:(t:Int)≤20000:=by omega
     have hfi:(fr:Int)≤20000:=by omega
     obtain ⟨fn,tmps,assign,body,hy,hR⟩:=hY pre ⟨t,htl⟩ wr HJ.out (by
      have h:=congrArg List.length HP.out
      rw [List.length_map,List.length_range] at h;omega)
     have hmm:t+1≤(j+1)*k:=by rw [HT.out,Nat.succ_mul];omega
     have yxX:uX len n t=fr:=by rw [HT.out,HFR.out,HK.out];exact ybt (by rw [← HK.out];exact hi) hjn
     have hy2:(Instr.yield lr #[.int .i64 (t:Int),.int .i64 (fr:Int)]).run Tryz.prog wr=.ok (.round lr fn tmps assign body) wr:=by
      rw [← yxX];exact hy
     clear hy
     gi_wp2
     refine hR.mono ?_
     rintro e W3 (⟨rfl,hJ3,hk3⟩|⟨rfl,yh0⟩)
     ·have HB3:=h_ (HB.out.trans hk3)
      have hcn3:=HB3.out.c2.trans hBn
      have HJ3:=h_ hJ3
      clear hJ3 hk3 hy2
      gi_wp2
      go_roundw
      case rel=>exact ⟨t+1,fr+n,i+1,pre++[⟨t,htl⟩],by omega,by go_num,by go_num,h_ (by rw [HT.out];omega),h_ (by rw [HFR.out,Nat.succ_mul];omega),h_ (by rw [List.map_append,HP.out,List.range_succ];rfl),HJ3,HB3⟩
      case measure=>simp [intOf];omega
     ·gi_wp2
      refine bodyPost_ret (results_none rfl _ _ _) rfl ?_
      exact ⟨⟨_,rfl⟩,.inr ⟨_,trivial,yh0⟩⟩
    ·obtain rfl:i=k:=by omega
     have q1:¬ fr<E:=by rw [HFR.out,HE.out];omega
     gi_wp2
     go_roundw
     case rel=>exact ⟨t,j+1,pre,by omega,rfl,by go_num,h_ (by rw [HT.out,Nat.succ_mul]),HP,HJ,HB⟩
     case measure=>simp [intOf];omega
  ·obtain rfl:j=n:=by omega
   gi_wp2
   gi_loopw [4] (fun tv wr=>∃ (t:Nat) (pre:List (Pl len)),t≤len∧tv=.int .i64 t∧Hid (E≤t)∧Hid (pre.map (·.1)=List.range t)∧Hid (J pre wr)∧Hid (ycG Bs Bn W wr)) (fun tv _=>len-(intOf tv).toNat)
   case atStart=>exact ⟨t,pre,by rw [HT.out];have:=HEl.out;rw [HE.out,Nat.mul_comm] at this;exact this,rfl,h_ (by rw [HT.out,HE.out,Nat.mul_comm];exact Nat.le_refl _),HP,HJ,HB⟩
   case round =>
    obtain ⟨t,pre,htl',rfl,HTE,HP,HJ,HB⟩:=hrel
    have hcs:=HB.out.c1.trans hBs
    by_cases htl:t<len
    ·have hti:(t:Int)≤20000:=by omega
     obtain ⟨fn,tmps,assign,body,hy,hR⟩:=hY pre ⟨t,htl⟩ wr HJ.out (by
      have h:=congrArg List.length HP.out
      rw [List.length_map,List.length_range] at h;omega)
     have yxX:uX len j t=t:=ybu (by rw [← HK.out,← HE.out];exact HTE.out)
     have hy2:(Instr.yield lr #[.int .i64 (t:Int),.int .i64 (t:Int)]).run Tryz.prog wr=.ok (.round lr fn tmps assign body) wr:=by
      have:=hy
      unfold plE at this
      rw [yxX] at this;exact this
     clear hy
     gi_wp2
     refine hR.mono ?_
     rintro e W3 (⟨rfl,hJ3,hk3⟩|⟨rfl,yh0⟩)
     ·have HB3:=h_ (HB.out.trans hk3)
      have HJ3:=h_ hJ3
      clear hJ3 hk3 hy2
      gi_wp2
      go_roundw
      case rel=>exact ⟨t+1,pre++[⟨t,htl⟩],by omega,by go_num,h_ (by have:=HTE.out;omega),h_ (by rw [List.map_append,HP.out,List.range_succ];rfl),HJ3,HB3⟩
      case measure=>simp [intOf];omega
     ·gi_wp2
      refine bodyPost_ret (results_none rfl _ _ _) rfl ?_
      exact ⟨⟨_,rfl⟩,.inr ⟨_,trivial,yh0⟩⟩
    ·obtain rfl:t=len:=by omega
     gi_wp2
     go_end0
     exact ⟨⟨_,rfl⟩,.inl ⟨pre,HP.out,HJ.out⟩⟩
theorem yhu (F:Fence) (m:Nat) (h64:F.fn 189) (hro:F.round=none) (hm:1≤m) (Bs Bn len n:Nat) (hn1:1≤n) (hn2:n≤8) (hlen:len≤20000) (w:World) (hB1:Bs<w.heap.size) (hB2:Bn<w.heap.size)
  (hBs:w.cell? ⟨Bs,0,none⟩=some (.int .i64 (len:Int))) (hBn:w.cell? ⟨Bn,0,none⟩=some (.int .i64 (n:Int))) :
  SeqStopsK F m Tryz.prog 189 #[.pointer (some ⟨Bs,0,none⟩),.pointer (some ⟨Bn,0,none⟩)] (plE len n) (ycG Bs Bn) (fun ys=>ys.map (·.1)=List.range len) (fun _=>True) len w:=fun l J Jx W hW hJ _ hY h0 =>
 ywK F m h64 hro hm l Bs Bn len n hn1 hn2 hlen J Jx (fun pre W' q hj=>hJ pre W' (W'.drewN q) none hj ⟨rfl,rfl,rfl,Nat.le_refl _,fun _ _ _=>rfl⟩ (fun r e=>by cases e)) hY W
  ((hW.cell (p:=⟨Bs,0,none⟩) hB1).trans hBs) ((hW.cell (p:=⟨Bn,0,none⟩) hB2).trans hBn) h0
theorem yer (n:Nat):madeCells #[Value.int .u8 0] n=(zG (List.replicate n 0)).toArray:=by
 apply Array.ext
 ·simp [madeCells,zG]
 ·intro i h1 h2
  simp [madeCells,zG,Nat.mod_one]
theorem ybr {F:Fence} {n:Nat} (w:World) {ops:Array Oper} {rest:List Oper} {o:Oper} {a:Act} {Q:Exit→Act→World→Prop} (hg:o.guard=none) (l c:Operand) (hop:o.op=Op.makeSlice 39 l c)
  (kl kc:IntKind) (k:Nat) (hl:a.eval l=.int kl (k:Int)) (hc:a.eval c=.int kc (k:Int)) (hk:k≤20000)
  (hK:∀ w',w'.heap[w.heap.size]?=some (.cells (zG (List.replicate k 0)).toArray 5 (0,0))→w.grownBy w' none→wpListIn F n Tryz.prog ops Q rest (a.put o.dst (.slice (some ⟨w.heap.size,0,none⟩) k k)) w') :
  wpListIn F n Tryz.prog ops Q (o::rest) a w:=by
 obtain ⟨i0,hi,hz0,hz1,hz2⟩:=info_parts GE
 refine wpListIn_plain hg fun K hK'=>?_
 have hr:=run_make (P:=Tryz.prog) w 39 5 i0 (.int .u8 0) Tryz.underlying39 hi hz0 kl kc k k (by omega) (Int.le_refl _) (by rw [hz2];omega) (by omega)
 simp only [Int.toNat_natCast] at hr
 rw [hz1,Nat.mul_one] at hr
 unfold Oper.wpIn
 refine ⟨?_,?_⟩
 ·simp [Oper.about,hop]
 ·rw [Oper.semAt_plain F _ _ (by rw [hop];intro c hc';cases hc')]
  simp [execOp,hop,hl,hc,hr,Result.andThen]
  exact hK' _ _ (hK _ (by rw [← yer];exact World.alloc_heap_new w _) (World.grownBy_alloc w _ none))
theorem GN {β:Type} {B i:Nat} {o:β→Obj} (hc:∀ s,(o s).isCells=true):OwnFrom B (fun (s:β) W=>W.heap[i]?=some (o s)) :=
 fun s _ _ _ hs hg hr=>(grownBy_keeps_cells hg (fun r e=>(hr r e).2) hs (hc s)).trans hs
theorem yi5 {W:World} {g t:Nat} {A:Lb} (h:W.heap[g]?=some (.cells (zG A).toArray 5 (0,0))) (y:UInt8):(W.setCell ⟨g,t,none⟩ (.int .u8 (y.toNat:Int))).drew.heap[g]?=some (.cells (zG (A.set t y)).toArray 5 (0,0)):=by
 show (W.setCell ⟨g,t,none⟩ (.int .u8 (y.toNat:Int))).heap[g]?=_
 obtain ⟨h1,h2⟩:=Array.getElem?_eq_some_iff.1 h
 unfold World.setCell
 rw [Array.getElem?_eq_getElem (by simpa using h1),Array.getElem_modify]
 simp [h2,zG,List.map_set]
theorem yay {W:World} {g k t:Nat} (v:Value) (hne:k≠g):(W.setCell ⟨g,t,none⟩ v).drew.heap[k]?=W.heap[k]?:=Below.heap_setCell W ⟨g,t,none⟩ v k hne
theorem yhv {W W':World} (h:KeepsOthers W W'):KeepsOthers W W'.drew:=⟨h.size,h.same⟩
theorem ye2 {w:World} {B g len:Nat} {L:Lb} (h:w.heap[g]?=some (.cells (zG L).toArray 5 (0,0))) (hL:L.length=len) (hB:B≤g) (hlen:len≤20000):w.ownsRow B 5 1 (.slice (some ⟨g,0,none⟩) len len) L.length (zG L):=by
 subst hL
 refine ⟨by simp [zG],.inr ⟨g,L.length,(zG L).toArray,rfl,hB,h,Nat.le_refl _,by unfold maxLen;omega,by simp [zG],?_⟩⟩
 rw [Nat.mul_one,List.take_of_length_le (by simp [zG])]
end
end Go.Proofs.YtgepehlpjpccaaaGreatDoor
