/- Contracts. -/
import Derived.Test.YtgepehlpjpccaaaGreatDoorT9SE
set_option maxHeartbeats 8000000
set_option maxRecDepth 100000
namespace Go.Proofs.YtgepehlpjpccaaaGreatDoor
section
open Go.RowKit Big
open Go.Lib
structure BR (B:Nat) (c:Array Value) (w0 W:World):Prop where
 bx:Bx B c w0 W
 rs:Resa (B+1) w0 W
theorem BR.start (w:World) (c:Array Value):BR w.heap.size c w ((w.alloc (.cells c 59)).alloc (.cells #[.bool false,.slice none 0 0,.slice none 0 0] 59)) :=
 ⟨(Bx.start w c).next (yC _ _),⟨by simp,(yC w _).trans ((yC _ _).mono (by simp)),.bool false,.slice none 0 0,.slice none 0 0,by rw [show w.heap.size+1=(w.alloc (.cells c 59)).heap.size from by simp];exact zB _ _,zI _,yV _ _ _,yV _ _ _⟩⟩
theorem BR.next {B:Nat} {c:Array Value} {w0 W W':World} (h:BR B c w0 W) (hb:Be W W'):BR B c w0 W':=⟨h.bx.next hb,h.rs.next hb⟩
theorem BR.drew {B:Nat} {c:Array Value} {w0 W:World} (h:BR B c w0 W):BR B c w0 W.drew:=⟨h.bx.drew,h.rs.next bR.drew⟩
theorem BR.all {B:Nat} {a b c:Value} {w0 W:World} (h:BR B #[a,b,c] w0 W):BR B #[a,b,c] w0 W∧W.cell? ⟨B,0,none⟩=some a∧W.cell? ⟨B,1,none⟩=some b∧W.cell? ⟨B,2,none⟩=some c :=
 ⟨h,h.bx.all.2⟩
theorem BR.put3 {B:Nat} {c:Array Value} {w0 W:World} (h:BR B c w0 W) (hB:w0.heap.size≤B) (a:Bool) (p q:Oa) (n k m d:Nat):BR B c w0 (((W.setCell ⟨B+1,0,none⟩ (.bool a)).setCell ⟨B+1,1,none⟩ (.slice p n k)).setCell ⟨B+1,2,none⟩ (.slice q m d)) :=
 ⟨⟨by rw [World.size_setCell,World.size_setCell,World.size_setCell];exact h.bx.size,((h.bx.below.setCell (by simp;omega) _).setCell (by simp;omega) _).setCell (by simp;omega) _,((Below.heap_setCell _ _ _ _ (by simp)).trans (Below.heap_setCell _ _ _ _ (by simp))).trans ((Below.heap_setCell _ _ _ _ (by simp)).trans h.bx.x)⟩,h.rs.put3 (by omega) a p q n k m d⟩
theorem BR.below {B:Nat} {c:Array Value} {w0 W:World} (h:BR B c w0 W):Be w0 W:=h.bx.below
theorem zzX {A K:Nat} (h:A<B9^K):A+1<B9^(K+1):=by
 have:B9^(K+1)=B9^K*1000000000:=by rw [Nat.pow_succ,zA]
 omega
theorem zzY {K:Nat}:1<B9^(K+1):=uV (K:=1) (by rw [Nat.pow_one,zA];omega) (by omega)
theorem zzZ:Hid (∀ W,Calls Tryz.prog 67 #[] W (zC 1 W)):=yA fun W=>ybk W
theorem yqn (u1 v1:Value) (d0 A R K:Nat) (f:Rat) (sb:Bool) (w:World) (hK:K+1≤900000) (hA9:A<B9^K) (yat:Hid (∀ W,Be w W→Calls Tryz.prog 71 #[.agg #[.bool true,u1,v1]] W (yaM d0 W))) (yan:Hid (∀ W v,Be w W→yE W v d0→Calls Tryz.prog 122 #[u1,v] W fun e w'=>∃ v r,e=.returned (.tuple #[v,r])∧yE w' v A∧yE w' r R∧Be W w')) (yfb:0<R) (hf:Hid (yM true (A+1) 1=f)) (hsb:Hid (sb=decide (f.num<0))) :
  Calls Tryz.prog 143 #[.agg #[.bool true,u1,v1]] w (uF f w):=by
 have h19:=zzY (K:=K)
 have hAK:=zzX hA9
 have ybb:Hid (∀ W u v,yE W u A→yE W v 1→Calls Tryz.prog 72 #[u,v] W (zC (A+1) W)):=yA fun W u v hu hv=>ycV u v A 1 (K+1) W (by unfold yF;omega) (by omega) h19 hu hv
 have hmk:Hid (∀ W u v,yE W u (A+1)→yE W v 1→Calls Tryz.prog 65 #[.bool true,u,v] W (uJ f sb W)):=yA fun W u v hu hv=>by
  have h:=GR true u v (A+1) 1 (K+1) W hK (by omega) h19 hu hv
  rw [hf.out] at h
  exact h.mono fun e w' h=>h.b hsb.out
 have hbr:=BR.start w #[.bool true,u1,v1]
 have Hbr:=yA hbr
 obtain ⟨-,c0,c1,c2⟩:=hbr.all
 clear hbr hA9 h19 hAK
 go_in
 go_wp2_with fail
 go_region_held3 (fun w'=>BR w.heap.size #[.bool true,u1,v1] w w'∧w'.cell? ⟨w.heap.size,0,none⟩=some (.bool true)∧w'.cell? ⟨w.heap.size,1,none⟩=some u1∧w'.cell? ⟨w.heap.size,2,none⟩=some v1)
  (first|exact BR.all (BR.drew Hbr.out)|exact BR.all Hbr.out|(go_split_ands;exact BR.all (BR.next (by assumption) hb1))|(go_split_ands;exact BR.all (BR.next (by assumption) hb2))|(go_split_ands;exact BR.all (BR.put3 (by assumption) nl _ _ _ _ _ _ _))|go_keep)
  (first|(go_at_call 71;go_split_ands;refine (yat.out _ (BR.below (by assumption))).mono ?_;rintro e w1 ⟨px,nx,cx,rfl,hvx,hb1⟩)|(go_at_call 122;go_split_ands;refine (yan.out _ _ (BR.below (by assumption)) hvx).mono ?_;rintro e w2 ⟨vA,vR,rfl,hvA,hvR,hb2⟩;obtain ⟨pA,nA,cA,rfl⟩:=hvA.slice;obtain ⟨pR,nR,cR,rfl⟩:=hvR.slice;have htw:=BR.next (by assumption) hb2))
 have HA:=yA hvA
 have Htw:=yA htw
 obtain ⟨-,c0,c1,c2⟩:=htw.all
 have hR0:(0:Int)<nR:=by have:=hvR.zero_iff (n:=nR);omega
 clear hb1 hb2 hvx hvA hvR htw
 go_wp2_with fail
 refine (zzZ.out _).mono ?_
 rintro e w3 ⟨v3,rfl,hv3,hb3,-⟩
 obtain ⟨p3,n3,c3,rfl⟩:=hv3.slice
 have ha3:=yA (ybb.out w3 _ _ (HA.out.below hb3) hv3)
 have Htw3:=yA (Htw.out.next hb3)
 clear hv3 hb3
 go_wp2_with fail
 refine ha3.out.mono ?_
 rintro e w4 ⟨v4,rfl,hv4,hb4,-⟩
 obtain ⟨p4,n4,c4,rfl⟩:=hv4.slice
 have HN:=yA hv4
 have HT:=yA (Htw3.out.next hb4)
 obtain ⟨-,c0,c1,c2⟩:=HT.out.all
 clear hv4 hb4
 go_wp2_with fail
 go_region_held3 (fun w'=>BR w.heap.size #[.bool true,u1,v1] w w'∧w'.cell? ⟨w.heap.size,0,none⟩=some (.bool true)∧w'.cell? ⟨w.heap.size,1,none⟩=some u1∧w'.cell? ⟨w.heap.size,2,none⟩=some v1)
  (first|exact BR.all (BR.drew HT.out)|exact BR.all HT.out|(go_split_ands;exact BR.all (BR.next (by assumption) hb5))|(go_split_ands;exact BR.all (BR.next (by assumption) hb6))|(go_split_ands;exact BR.all (BR.put3 (by assumption) nl _ _ _ _ _ _ _))|go_keep)
  (first|(go_at_call 67;go_split_ands;refine (zzZ.out _).mono ?_;rintro e w5 ⟨v5,rfl,hv5,hb5,-⟩;obtain ⟨p5,n5,c5,rfl⟩:=hv5.slice)|(go_at_call 65;go_split_ands;refine (hmk.out _ _ _ (HN.out.dr.below hb5) hv5).mono ?_;rintro e w6 ⟨pr,nr,cr,pq,nq,cq,rfl,hr1,hr2,hb6⟩;have htw:=BR.next (by assumption) hb6;obtain ⟨z0,z1,z2,k0,k1,k2,f0,f1,f2⟩:=htw.rs.slots))
 go_wp2_with fail
 have yD:=yA (htw.rs.fin (by omega) hsb.out hr1 hr2)
 refine bodyPost_ret (v:=.agg #[.bool sb,.slice pr nr cr,.slice pq nq cq]) ?h1 rfl ?h2
 case h1=>simp [results,Tryz.results143,go_sem,k0,k1,k2]
 exact yD.out
theorem yn8 (u1 v1:Value) (d0 A R K:Nat) (f:Rat) (sb:Bool) (w:World) (hK:K+1≤900000) (hA9:A<B9^K) (yat:Hid (∀ W,Be w W→Calls Tryz.prog 71 #[.agg #[.bool true,u1,v1]] W (yaM d0 W))) (yan:Hid (∀ W v,Be w W→yE W v d0→Calls Tryz.prog 122 #[u1,v] W fun e w'=>∃ v r,e=.returned (.tuple #[v,r])∧yE w' v A∧yE w' r R∧Be W w')) (yfb:R=0) (hf:Hid (yM true A 1=f)) (hsb:Hid (sb=decide (f.num<0))) :
  Calls Tryz.prog 143 #[.agg #[.bool true,u1,v1]] w (uF f w):=by
 have h19:=zzY (K:=K)
 have hAK:=zzX hA9
 have hmk:Hid (∀ W u v,yE W u A→yE W v 1→Calls Tryz.prog 65 #[.bool true,u,v] W (uJ f sb W)):=yA fun W u v hu hv=>by
  have h:=GR true u v A 1 (K+1) W hK (by omega) h19 hu hv
  rw [hf.out] at h
  exact h.mono fun e w' h=>h.b hsb.out
 have hbr:=BR.start w #[.bool true,u1,v1]
 have Hbr:=yA hbr
 obtain ⟨-,c0,c1,c2⟩:=hbr.all
 clear hbr hA9 h19 hAK
 go_in
 go_wp2_with fail
 go_region_held3 (fun w'=>BR w.heap.size #[.bool true,u1,v1] w w'∧w'.cell? ⟨w.heap.size,0,none⟩=some (.bool true)∧w'.cell? ⟨w.heap.size,1,none⟩=some u1∧w'.cell? ⟨w.heap.size,2,none⟩=some v1)
  (first|exact BR.all (BR.drew Hbr.out)|exact BR.all Hbr.out|(go_split_ands;exact BR.all (BR.next (by assumption) hb1))|(go_split_ands;exact BR.all (BR.next (by assumption) hb2))|(go_split_ands;exact BR.all (BR.put3 (by assumption) nl _ _ _ _ _ _ _))|go_keep)
  (first|(go_at_call 71;go_split_ands;refine (yat.out _ (BR.below (by assumption))).mono ?_;rintro e w1 ⟨px,nx,cx,rfl,hvx,hb1⟩)|(go_at_call 122;go_split_ands;refine (yan.out _ _ (BR.below (by assumption)) hvx).mono ?_;rintro e w2 ⟨vA,vR,rfl,hvA,hvR,hb2⟩;obtain ⟨pA,nA,cA,rfl⟩:=hvA.slice;obtain ⟨pR,nR,cR,rfl⟩:=hvR.slice;have htw:=BR.next (by assumption) hb2))
 have HN:=yA hvA
 have HT:=yA htw
 obtain ⟨-,c0,c1,c2⟩:=htw.all
 have hR0:nR=0:=hvR.zero_iff.2 yfb
 subst hR0
 clear hb1 hb2 hvx hvA hvR htw
 go_wp2_with fail
 go_region_held3 (fun w'=>BR w.heap.size #[.bool true,u1,v1] w w'∧w'.cell? ⟨w.heap.size,0,none⟩=some (.bool true)∧w'.cell? ⟨w.heap.size,1,none⟩=some u1∧w'.cell? ⟨w.heap.size,2,none⟩=some v1)
  (first|exact BR.all (BR.drew HT.out)|exact BR.all HT.out|(go_split_ands;exact BR.all (BR.next (by assumption) hb5))|(go_split_ands;exact BR.all (BR.next (by assumption) hb6))|(go_split_ands;exact BR.all (BR.put3 (by assumption) nl _ _ _ _ _ _ _))|go_keep)
  (first|(go_at_call 67;go_split_ands;refine (zzZ.out _).mono ?_;rintro e w5 ⟨v5,rfl,hv5,hb5,-⟩;obtain ⟨p5,n5,c5,rfl⟩:=hv5.slice)|(go_at_call 65;go_split_ands;refine (hmk.out _ _ _ (HN.out.dr.below hb5) hv5).mono ?_;rintro e w6 ⟨pr,nr,cr,pq,nq,cq,rfl,hr1,hr2,hb6⟩;have htw:=BR.next (by assumption) hb6;obtain ⟨z0,z1,z2,k0,k1,k2,f0,f1,f2⟩:=htw.rs.slots))
 go_wp2_with fail
 have yD:=yA (htw.rs.fin (by omega) hsb.out hr1 hr2)
 refine bodyPost_ret (v:=.agg #[.bool sb,.slice pr nr cr,.slice pq nq cq]) ?h1 rfl ?h2
 case h1=>simp [results,Tryz.results143,go_sem,k0,k1,k2]
 exact yD.out
theorem yn9 (u1 v1:Value) (d0 A R K:Nat) (f:Rat) (sb:Bool) (w:World) (hK:K+1≤900000) (hA9:A<B9^K) (yat:Hid (∀ W,Be w W→Calls Tryz.prog 71 #[.agg #[.bool false,u1,v1]] W (yaM d0 W))) (yan:Hid (∀ W v,Be w W→yE W v d0→Calls Tryz.prog 122 #[u1,v] W fun e w'=>∃ v r,e=.returned (.tuple #[v,r])∧yE w' v A∧yE w' r R∧Be W w'))  (hf:Hid (yM false A 1=f)) (hsb:Hid (sb=decide (f.num<0))) :
  Calls Tryz.prog 143 #[.agg #[.bool false,u1,v1]] w (uF f w):=by
 have h19:=zzY (K:=K)
 have hAK:=zzX hA9
 have hmk:Hid (∀ W u v,yE W u A→yE W v 1→Calls Tryz.prog 65 #[.bool false,u,v] W (uJ f sb W)):=yA fun W u v hu hv=>by
  have h:=GR false u v A 1 (K+1) W hK (by omega) h19 hu hv
  rw [hf.out] at h
  exact h.mono fun e w' h=>h.b hsb.out
 have hbr:=BR.start w #[.bool false,u1,v1]
 have Hbr:=yA hbr
 obtain ⟨-,c0,c1,c2⟩:=hbr.all
 clear hbr hA9 h19 hAK
 go_in
 go_wp2_with fail
 go_region_held3 (fun w'=>BR w.heap.size #[.bool false,u1,v1] w w'∧w'.cell? ⟨w.heap.size,0,none⟩=some (.bool false)∧w'.cell? ⟨w.heap.size,1,none⟩=some u1∧w'.cell? ⟨w.heap.size,2,none⟩=some v1)
  (first|exact BR.all (BR.drew Hbr.out)|exact BR.all Hbr.out|(go_split_ands;exact BR.all (BR.next (by assumption) hb1))|(go_split_ands;exact BR.all (BR.next (by assumption) hb2))|(go_split_ands;exact BR.all (BR.put3 (by assumption) nl _ _ _ _ _ _ _))|go_keep)
  (first|(go_at_call 71;go_split_ands;refine (yat.out _ (BR.below (by assumption))).mono ?_;rintro e w1 ⟨px,nx,cx,rfl,hvx,hb1⟩)|(go_at_call 122;go_split_ands;refine (yan.out _ _ (BR.below (by assumption)) hvx).mono ?_;rintro e w2 ⟨vA,vR,rfl,hvA,hvR,hb2⟩;obtain ⟨pA,nA,cA,rfl⟩:=hvA.slice;obtain ⟨pR,nR,cR,rfl⟩:=hvR.slice;have htw:=BR.next (by assumption) hb2))
 have HN:=yA hvA
 have HT:=yA htw
 obtain ⟨-,c0,c1,c2⟩:=htw.all
 clear hb1 hb2 hvx hvA hvR htw
 go_wp2_with fail
 go_region_held3 (fun w'=>BR w.heap.size #[.bool false,u1,v1] w w'∧w'.cell? ⟨w.heap.size,0,none⟩=some (.bool false)∧w'.cell? ⟨w.heap.size,1,none⟩=some u1∧w'.cell? ⟨w.heap.size,2,none⟩=some v1)
  (first|exact BR.all (BR.drew HT.out)|exact BR.all HT.out|(go_split_ands;exact BR.all (BR.next (by assumption) hb5))|(go_split_ands;exact BR.all (BR.next (by assumption) hb6))|(go_split_ands;exact BR.all (BR.put3 (by assumption) nl _ _ _ _ _ _ _))|go_keep)
  (first|(go_at_call 67;go_split_ands;refine (zzZ.out _).mono ?_;rintro e w5 ⟨v5,rfl,hv5,hb5,-⟩;obtain ⟨p5,n5,c5,rfl⟩:=hv5.slice)|(go_at_call 65;go_split_ands;refine (hmk.out _ _ _ (HN.out.dr.below hb5) hv5).mono ?_;rintro e w6 ⟨pr,nr,cr,pq,nq,cq,rfl,hr1,hr2,hb6⟩;have htw:=BR.next (by assumption) hb6;obtain ⟨z0,z1,z2,k0,k1,k2,f0,f1,f2⟩:=htw.rs.slots))
 go_wp2_with fail
 have yD:=yA (htw.rs.fin (by omega) hsb.out hr1 hr2)
 refine bodyPost_ret (v:=.agg #[.bool sb,.slice pr nr cr,.slice pq nq cq]) ?h1 rfl ?h2
 case h1=>simp [results,Tryz.results143,go_sem,k0,k1,k2]
 exact yD.out
theorem yoa (x:Value) (q:Rat) (K:Nat) (w:World) (hK:K+1≤900000) (hq:uA K q) (hx:jL w x q):Calls Tryz.prog 143 #[x] w (uF (yeU q) w):=by
 have yfc:=fun W (hW:Be w W)=>yaP x q W (hx.below hW)
 obtain ⟨u1,v1,rfl,hu,hv⟩:=hx
 have yan:Hid (∀ W v,Be w W→yE W v q.den→Calls Tryz.prog 122 #[u1,v] W fun e w'=>∃ v r,e=.returned (.tuple #[v,r])∧yE w' v (q.num.natAbs/q.den)∧yE w' r (q.num.natAbs%q.den)∧Be W w'):=yA fun W v hW hv=>ycW u1 v q.num.natAbs q.den K W (by omega) hq.1 hq.2 q.den_pos (hu.below hW) hv
 have hA9:q.num.natAbs/q.den<B9^K:=Nat.lt_of_le_of_lt (Nat.div_le_self _ _) hq.1
 unfold yeU
 by_cases hs:q.num<0
 ·have hd:decide (q.num<0)=true:=by simpa using hs
  rw [hd] at yfc ⊢
  by_cases h0:q.num.natAbs%q.den=0
  ·have e:jP true q.num.natAbs q.den=q.num.natAbs/q.den:=by unfold jP;rw [h0];rfl
   rw [e]
   exact yn8 u1 v1 q.den _ _ K _ _ w hK hA9 (yA yfc) yan h0 (yA rfl) (yA rfl)
  ·have e:jP true q.num.natAbs q.den=q.num.natAbs/q.den+1:=by
    unfold jP
    have:(q.num.natAbs%q.den==0)=false:=by simpa using h0
    rw [this];rfl
   rw [e]
   exact yqn u1 v1 q.den _ _ K _ _ w hK hA9 (yA yfc) yan (by omega) (yA rfl) (yA rfl)
 ·have hd:decide (q.num<0)=false:=by simpa using hs
  rw [hd] at yfc ⊢
  have e:jP false q.num.natAbs q.den=q.num.natAbs/q.den:=rfl
  rw [e]
  exact yn9 u1 v1 q.den _ _ K _ _ w hK hA9 (yA yfc) yan (yA rfl) (yA rfl)
end
section
open Go.RowKit Go.Lib Big
theorem uA.flo {K:Nat} {q:Rat} (h:uA K q):uA (K+1) (yeU q):=by
 have h1:q.num.natAbs/q.den<B9^K:=Nat.lt_of_le_of_lt (Nat.div_le_self _ _) h.1
 have e:B9^(K+1)=B9^K*1000000000:=by rw [Nat.pow_succ,zA]
 have hp:0<B9^K:=Nat.lt_of_le_of_lt (Nat.zero_le _) h1
 have h2:jP (decide (q.num<0)) q.num.natAbs q.den≤q.num.natAbs/q.den+1:=by
  unfold jP
  split<;>omega
 exact ycT (b:=1) rfl (by omega) (by omega) (by omega)
end
section
open Go.RowKit Big
open Go.Lib
theorem yjE:uA 4 jS:=by
 have hl:∀ z:Int,-1000000000≤z∧z≤1000000000→uA 2 (z:Rat):=fun z h=>⟨by rw [Rat.num_intCast,zA];omega,by rw [Rat.den_intCast,zA];omega⟩
 exact (hl 1 (by omega)).quo (hl 2 (by omega))
theorem uA.rnd {K L:Nat} {a b:Rat} (ha:uA K a) (hb:uA L b):uA (K+L+6+L) (GO a b):=((ha.quo hb).add yjE).flo.mul hb
theorem ymd (x y:Value) (a b:Rat) (K L:Nat) (w:World) (hK:K+L+6+L≤900000) (hab:uA K a) (hbb:uA L b) (hx:jL w x a) (hy:jL w y b):Calls Tryz.prog 95 #[x,y] w (uF (GO a b) w):=by
 obtain ⟨f1,hf1⟩:∃ f,Hid (f=a/b):=⟨_,yA rfl⟩
 obtain ⟨f2,hf2⟩:∃ f,Hid (f=f1+jS):=⟨_,yA rfl⟩
 obtain ⟨f3,hf3⟩:∃ f,Hid (f=yeU f2):=⟨_,yA rfl⟩
 obtain ⟨f4,hf4⟩:∃ f,Hid (f=f3*b):=⟨_,yA rfl⟩
 obtain ⟨f5,hf5⟩:∃ f,Hid (f=jS):=⟨_,yA rfl⟩
 have he:GO a b=f4:=by rw [hf4.out,hf3.out,hf2.out,hf1.out];rfl
 rw [he]
 obtain ⟨s1,hs1⟩:∃ s,Hid (s=decide (f1.num<0)):=⟨_,yA rfl⟩
 obtain ⟨s2,hs2⟩:∃ s,Hid (s=decide (f2.num<0)):=⟨_,yA rfl⟩
 obtain ⟨s3,hs3⟩:∃ s,Hid (s=decide (f3.num<0)):=⟨_,yA rfl⟩
 obtain ⟨s4,hs4⟩:∃ s,Hid (s=decide (f4.num<0)):=⟨_,yA rfl⟩
 obtain ⟨s5,hs5⟩:∃ s,Hid (s=decide (f5.num<0)):=⟨_,yA rfl⟩
 have l1:uA (K+L) f1:=by rw [hf1.out];exact hab.quo hbb
 have l2:uA (K+L+4+1) f2:=by rw [hf2.out];exact l1.add yjE
 have l3:uA (K+L+4+1+1) f3:=by rw [hf3.out];exact l2.flo
 have hq1:Hid (∀ W,Be w W→Calls Tryz.prog 83 #[x,y] W (uJ f1 s1 W)):=yA fun W hW=>by
  rw [hf1.out]
  exact (ylJ x y a b K L W (by omega) hab hbb (hx.below hW) (hy.below hW)).mono fun e w' h=>h.b (by rw [hs1.out,hf1.out])
 have hq2:Hid (∀ W,Calls Tryz.prog 144 #[.int .i64 1,.int .i64 2] W (uJ f5 s5 W)):=yA fun W=>by
  rw [hf5.out]
  exact (yt9 1 2 W (by omega) (by omega)).mono fun e w' h=>uF.b (q:=jS) h (by rw [hs5.out,hf5.out])
 have hq3:Hid (∀ W u v,jL W u f1→jL W v f5→Calls Tryz.prog 32 #[u,v] W (uJ f2 s2 W)):=yA fun W u v hu hv=>by
  rw [hf5.out] at hv
  rw [hf2.out]
  exact (yg8 u v f1 jS (K+L) 4 W (by omega) l1 yjE hu hv).mono fun e w' h=>h.b (by rw [hs2.out,hf2.out])
 have hq4:Hid (∀ W u,jL W u f2→Calls Tryz.prog 143 #[u] W (uJ f3 s3 W)):=yA fun W u hu=>by
  rw [hf3.out]
  exact (yoa u f2 (K+L+4+1) W (by omega) l2 hu).mono fun e w' h=>h.b (by rw [hs3.out,hf3.out])
 have hq5:Hid (∀ W u,Be w W→jL W u f3→Calls Tryz.prog 142 #[u,y] W (uJ f4 s4 W)):=yA fun W u hW hu=>by
  rw [hf4.out]
  exact (yt8 u y f3 b (K+L+4+1+1) L W (by omega) l3 hbb hu (hy.below hW)).mono fun e w' h=>h.b (by rw [hs4.out,hf4.out])
 obtain ⟨u1,v1,rfl,hu1,hv1⟩:=hx
 obtain ⟨u2,v2,rfl,hu2,hv2⟩:=hy
 obtain ⟨s,hs⟩:∃ s,Hid (s=decide (a.num<0)):=⟨_,yA rfl⟩
 obtain ⟨t,ht⟩:∃ t,Hid (t=decide (b.num<0)):=⟨_,yA rfl⟩
 rw [← hs.out,← ht.out] at hq1
 rw [← ht.out] at hq5
 rw [← hs.out,← ht.out]
 have jC:=Twa.start w s u1 v1 t u2 v2
 have Htwo:=yA jC
 obtain ⟨-,c0,c1,c2,c3,c4,c5⟩:=jC.all
 clear jC hv1 hv2 hab hbb hu1 hu2 l1 l2 l3 he
 go_in
 go_wp2_with fail
 go_region_held3 (fun w'=>Twa w.heap.size s u1 v1 t u2 v2 w w'∧w'.cell? ⟨w.heap.size,0,none⟩=some (.bool s)∧w'.cell? ⟨w.heap.size,1,none⟩=some u1∧w'.cell? ⟨w.heap.size,2,none⟩=some v1∧w'.cell? ⟨w.heap.size+1,0,none⟩=some (.bool t)∧w'.cell? ⟨w.heap.size+1,1,none⟩=some u2∧w'.cell? ⟨w.heap.size+1,2,none⟩=some v2)
  (first|exact Twa.all (Twa.drew Htwo.out)|exact Twa.all Htwo.out|(go_split_ands;exact Twa.all (Twa.next (by assumption) hb1))|(go_split_ands;exact Twa.all (Twa.next (by assumption) hb2))|(go_split_ands;exact Twa.all (Twa.next (by assumption) hb3))|(go_split_ands;exact Twa.all (Twa.next (by assumption) hb4))|(go_split_ands;exact Twa.all (Twa.next (by assumption) hb5))|(go_split_ands;exact Twa.all (Twa.put3 (by assumption) nl _ _ _ _ _ _ _))|go_keep)
  (first|(go_at_call 83;go_split_ands;refine (hq1.out _ (Twa.below (by assumption))).mono ?_;rintro e w1 ⟨p1,n1,c1,p2,n2,c2,rfl,ha1,ha2,hb1⟩)|(go_at_call 144;go_split_ands;refine (hq2.out _).mono ?_;rintro e w2 ⟨p3,n3,c3,p4,n4,c4,rfl,ha3,ha4,hb2⟩)|(go_at_call 32;go_split_ands;refine (hq3.out _ _ _ (jL.below ⟨_,_,by rw [hs1.out],ha1,ha2⟩ hb2) ⟨_,_,by rw [hs5.out],ha3,ha4⟩).mono ?_;rintro e w3 ⟨p5,n5,c5,p6,n6,c6,rfl,ha5,ha6,hb3⟩)|(go_at_call 143;go_split_ands;refine (hq4.out _ _ ⟨_,_,by rw [hs2.out],ha5,ha6⟩).mono ?_;rintro e w4 ⟨p7,n7,c7,p8,n8,c8,rfl,ha7,ha8,hb4⟩)|(go_at_call 142;go_split_ands;refine (hq5.out _ _ (Twa.below (by assumption)) ⟨_,_,by rw [hs3.out],ha7,ha8⟩).mono ?_;rintro e w5 ⟨pr,nr,cr,pq,nq,cq,rfl,hr1,hr2,hb5⟩;have htw:=Twa.next (by assumption) hb5;obtain ⟨z0,z1,z2,k0,k1,k2,f0,f1,f2⟩:=Twa.slots htw))
 go_wp2_with fail
 have yD:=yA (htw.fin nl hs4.out hr1 hr2)
 refine bodyPost_ret (v:=.agg #[.bool s4,.slice pr nr cr,.slice pq nq cq]) (by simp [results,Tryz.results95,go_sem,k0,k1,k2]) rfl ?_
 exact yD.out
theorem yqo (s t:ByteArray) (a b:Rat) (w:World) (jC:∀ W,Hid (Calls Tryz.prog 80 #[.string s,.string t] W (GA a b false W))):Calls Tryz.prog 49 #[.string s,.string t] w (yas [] w):=by
 go_in
 go_wp2_with fail
 refine (jC _).out.mono ?_
 rintro e w1 ⟨b1,p,n,c,p2,n2,c2,b2,q,m,d,q2,m2,d2,rfl,hb1,-⟩
 have HB:Hid (∀ o1 o2,Be w ((w1.alloc o1).alloc o2)):=yA fun o1 o2=>(hb1.alloc hb1.size o1).alloc (by have:=hb1.size;simp;omega) o2
 clear hb1
 go_wp2
 go_ret
 exact ⟨rfl,HB.out _ _⟩
theorem yme (s t:ByteArray) (a b:Rat) (w:World) (hb0:GK b=0) (jC:∀ W,Hid (Calls Tryz.prog 80 #[.string s,.string t] W (GA a b true W))):Calls Tryz.prog 49 #[.string s,.string t] w (yas [] w):=by
 have hsg:∀ W z,jL W z b→Hid (Calls Tryz.prog 81 #[z] W (Rp (.int .i64 (0)) W)):=fun W z hz=>yA (by have h:=ygn z b W hz;rw [hb0] at h;exact h)
 go_in
 go_wp2_with fail
 refine (jC _).out.mono ?_
 rintro e w1 ⟨b1,p,n,c,p2,n2,c2,b2,q,m,d,q2,m2,d2,rfl,hb1,hq⟩
 obtain ⟨hx,hz⟩:=hq rfl
 have HB:Hid (∀ o1 o2,Be w ((w1.alloc o1).alloc o2)):=yA fun o1 o2=>(hb1.alloc hb1.size o1).alloc (by have:=hb1.size;simp;omega) o2
 have HX:Hid (∀ o1 o2,jL ((w1.alloc o1).alloc o2) (.agg #[.bool b1,.slice p n c,.slice p2 n2 c2]) a∧jL ((w1.alloc o1).alloc o2) (.agg #[.bool b2,.slice q m d,.slice q2 m2 d2]) b):=yA fun o1 o2=>⟨(hx.below (yC _ _)).below (yC _ _),(hz.below (yC _ _)).below (yC _ _)⟩
 clear hb1 hq hx hz
 go_wp2_with fail
 refine (hsg _ _ (HX.out _ _).2).out.mono ?_
 rintro e w3 ⟨rfl,hb3⟩
 have Hb3:=yA ((HB.out _ _).trans (hb3.mono (HB.out _ _).size))
 clear hb3
 go_wp2
 go_ret
 exact ⟨rfl,Hb3.out⟩
theorem yob (s t:ByteArray) (a b:Rat) (w:World) (hb0:GK b=-1) (jC:∀ W,Hid (Calls Tryz.prog 80 #[.string s,.string t] W (GA a b true W))):Calls Tryz.prog 49 #[.string s,.string t] w (yas [] w):=by
 have hsg:∀ W z,jL W z b→Hid (Calls Tryz.prog 81 #[z] W (Rp (.int .i64 (-1)) W)):=fun W z hz=>yA (by have h:=ygn z b W hz;rw [hb0] at h;exact h)
 go_in
 go_wp2_with fail
 refine (jC _).out.mono ?_
 rintro e w1 ⟨b1,p,n,c,p2,n2,c2,b2,q,m,d,q2,m2,d2,rfl,hb1,hq⟩
 obtain ⟨hx,hz⟩:=hq rfl
 have HB:Hid (∀ o1 o2,Be w ((w1.alloc o1).alloc o2)):=yA fun o1 o2=>(hb1.alloc hb1.size o1).alloc (by have:=hb1.size;simp;omega) o2
 have HX:Hid (∀ o1 o2,jL ((w1.alloc o1).alloc o2) (.agg #[.bool b1,.slice p n c,.slice p2 n2 c2]) a∧jL ((w1.alloc o1).alloc o2) (.agg #[.bool b2,.slice q m d,.slice q2 m2 d2]) b):=yA fun o1 o2=>⟨(hx.below (yC _ _)).below (yC _ _),(hz.below (yC _ _)).below (yC _ _)⟩
 clear hb1 hq hx hz
 go_wp2_with fail
 refine (hsg _ _ (HX.out _ _).2).out.mono ?_
 rintro e w3 ⟨rfl,hb3⟩
 have Hb3:=yA ((HB.out _ _).trans (hb3.mono (HB.out _ _).size))
 clear hb3
 go_wp2
 go_ret
 exact ⟨rfl,Hb3.out⟩
theorem yoc (s t:ByteArray) (a b:Rat) (w:World) (hz0:GK b=1) (hab:uA 5 a) (hbb:uA 5 b) (jC:∀ W,Hid (Calls Tryz.prog 80 #[.string s,.string t] W (GA a b true W))):Calls Tryz.prog 49 #[.string s,.string t] w (yas (txt (GO a b)) w):=by
 obtain ⟨y,hy⟩:∃ y:ByteArray,Hid (y=⟨(txt (GO a b)).toArray⟩):=⟨_,yA rfl⟩
 unfold yas
 rw [← hy.out]
 have hsg:∀ W z',jL W z' b→Hid (Calls Tryz.prog 81 #[z'] W (Rp (.int .i64 1) W)):=fun W z' hz=>yA (by have h:=ygn z' b W hz;rw [hz0] at h;exact h)
 have zM:∀ W x,jL W x (GO a b)→Hid (Calls Tryz.prog 82 #[x] W (Rp (.string y) W)):=fun W x hx=>yA (by rw [hy.out];exact ywI x _ (5+5+6+5) W (by omega) (hab.rnd hbb) hx)
 have hop:∀ W x z,jL W x a→jL W z b→Hid (Calls Tryz.prog 95 #[x,z] W (uF (GO a b) W)):=fun W x z hx hz=>yA (ymd x z a b 5 5 W (by omega) hab hbb hx hz)
 clear hab hbb hz0
 obtain ⟨f,hf⟩:∃ f,Hid (f=GO a b):=⟨_,yA rfl⟩
 rw [← hf.out] at zM hop hy
 go_in
 go_wp2_with fail
 refine (jC _).out.mono ?_
 rintro e w1 ⟨b1,p,n,c,p2,n2,c2,b2,q,m,d,q2,m2,d2,rfl,hb1,hq⟩
 obtain ⟨hx,hz⟩:=hq rfl
 have HB:Hid (∀ o1 o2,Be w ((w1.alloc o1).alloc o2)):=yA fun o1 o2=>(hb1.alloc hb1.size o1).alloc (by have:=hb1.size;simp;omega) o2
 have HX:Hid (∀ o1 o2,jL ((w1.alloc o1).alloc o2) (.agg #[.bool b1,.slice p n c,.slice p2 n2 c2]) a∧jL ((w1.alloc o1).alloc o2) (.agg #[.bool b2,.slice q m d,.slice q2 m2 d2]) b):=yA fun o1 o2=>⟨(hx.below (yC _ _)).below (yC _ _),(hz.below (yC _ _)).below (yC _ _)⟩
 clear hb1 hq hx hz
 have hB5:(((w1.alloc (.cells #[.bool b1,.slice p n c,.slice p2 n2 c2] 59)).alloc (.cells #[.bool b2,.slice q m d,.slice q2 m2 d2] 59))).heap[w1.heap.size]?=some (.cells #[.bool b1,.slice p n c,.slice p2 n2 c2] 59 (0,0)):=by rw [yaT _ _ _ (by simp)];exact zB _ _
 have hB6:(((w1.alloc (.cells #[.bool b1,.slice p n c,.slice p2 n2 c2] 59)).alloc (.cells #[.bool b2,.slice q m d,.slice q2 m2 d2] 59))).heap[w1.heap.size+1]?=some (.cells #[.bool b2,.slice q m d,.slice q2 m2 d2] 59 (0,0)):=by
  rw [show w1.heap.size+1=(w1.alloc (.cells #[.bool b1,.slice p n c,.slice p2 n2 c2] 59)).heap.size from by simp];exact zB _ _
 have HB5:=yA hB5
 have HB6:=yA hB6
 clear hB5 hB6
 go_wp2_with fail
 refine (hsg _ _ (HX.out _ _).2).out.mono ?_
 rintro e w3 ⟨rfl,hb3⟩
 have Hb3:=yA ((HB.out _ _).trans (hb3.mono (HB.out _ _).size))
 have hX3:=yA ((HX.out _ _).1.below hb3)
 have hZ3:=yA ((HX.out _ _).2.below hb3)
 have h5:=(hb3.block w1.heap.size (by simp;omega)).trans HB5.out
 have h6:=(hb3.block (w1.heap.size+1) (by simp)).trans HB6.out
 have y0:=zO h5 0
 have y1:=zO h5 1
 have y2:=zO h5 2
 have y3:=zO h6 0
 have y4:=zO h6 1
 have y5:=zO h6 2
 clear hb3 h5 h6
 go_wp2_with fail
 refine (hop _ _ _ hX3.out hZ3.out).out.mono ?_
 rintro e w4 ⟨x3,rfl,hx3,hb4⟩
 have hp3:=zM w4 x3 hx3
 obtain ⟨p3,n3,c3,p4,n4,c4,rfl,-,-⟩:=hx3.slices
 obtain ⟨sb,hsb⟩:∃ sb,Hid (sb=decide (f.num<0)):=⟨_,yA rfl⟩
 rw [← hsb.out] at hp3 ⊢
 have Hb4:=yA (tr Hb3.out hb4)
 clear hb4 hx3
 go_wp2_with fail
 refine hp3.out.mono ?_
 rintro e w5 ⟨rfl,hb5⟩
 have Hb5:=yA (tr Hb4.out hb5)
 clear hb5 hp3
 go_wp2
 go_ret
 exact ⟨rfl,Hb5.out⟩
theorem yod (s t:ByteArray) (w:World):Calls Tryz.prog 49 #[.string s,.string t] w (yas (uW s.data.toList t.data.toList) w):=by
 rcases ylK s.data.toList t.data.toList with ⟨a,b,ha,hb⟩|h
 ·unfold uW
  rw [ha,hb]
  have ht:=ypT ha hb
  by_cases h1:GK b=1
  ·simp only [h1,if_true]
   exact yoc s t a b w h1 (ycM ha) (ycM hb) ht
  ·simp only [h1,if_false]
   by_cases h0:GK b=0
   ·exact yme s t a b w h0 ht
   ·exact yob s t a b w (by unfold GK at h0 h1 ⊢;split at h0<;>simp_all) ht
 ·have e:uW s.data.toList t.data.toList=[]:=by
   unfold uW
   rcases h with h|h
   ·rw [h]
   ·rw [h];cases num s.data.toList<;>rfl
  rw [e]
  exact yqo s t 0 0 w (ypU h)
end
section
open Go.RowKit
open Go.Lib
theorem ygj (s:Lb):uW [] s=[]:=by unfold uW;rw [ycN]
theorem yvP {k:Int} (h:isT k=true):zK k []=true:=by
 unfold isT at h
 rw [Bool.and_eq_true,decide_eq_true_eq,decide_eq_true_eq] at h
 unfold zK
 rcases (by omega:k=1∨k=2∨k=3∨k=4∨k=5) with rfl|rfl|rfl|rfl|rfl<;>rfl
theorem yvQ {k:Int} {s:Lb} (h:isT k=true):zN k s []=false:=by
 unfold zN;rw [ygj,yvP h];rfl
theorem ytl {k:Int} {s x:Lb} (h:x≠[]):zN k s x=(decide (uW x s=[]) || !zK k (uW x s)):=by
 unfold zN;rw [decide_eq_false h];rfl
def yeI (k:Int) (xs:List Lb) (s:Lb) (n:Nat) (w:World) (e:Ending) (w':World):Prop :=
 Be w w'∧((xs.any (zN k s)=true∧e=.returned (.tuple #[.slice none 0 0,.int .i64 41]))∨(xs.any (zN k s)=false∧∃ q d,e=.returned (.tuple #[.slice q n d,.int .i64 0])∧Ss w' q (ycc xs s)))
theorem yj1 (k:Int) (p:Oa) (c n:Nat) (xs:List Lb) (s:ByteArray) (w:World) (hx:Hid (xs.length=n)) (hn:n≤4096) (hs:Ss w p xs) (z:Int) (hz:z≠0) (HZ:Hid ((if yba s.data.toList=false then 2 else vH k xs)=z)) :
  Calls Tryz.prog 19 #[.int .i64 k,.slice p n c,.string s] w (Rp (.tuple #[.slice none 0 0,.int .i64 z]) w):=by
 have HS:=h_ hs
 have HT:=h_ (fun W=>yb5 k W)
 have HP:=h_ (fun W=>yco s W)
 obtain ⟨bt,HBT⟩:∃ b,Hid (isT k=b):=⟨_,rfl⟩
 obtain ⟨bp,HBP⟩:∃ b,Hid (yba s.data.toList=b):=⟨_,rfl⟩
 rw [HBT.out] at HT
 rw [HBP.out] at HP HZ
 have GU:=h_ (Below.refl w.heap.size w)
 clear hs
 cases bt with
 | false =>
  have hz2:z=2:=by
   rw [← HZ.out]
   cases bp with
   | false=>rfl
   | true=>rw [if_neg (by decide)];unfold vH;rw [if_pos HBT.out]
  subst hz2
  go_in
  go_wp2_with fail
  refine (HT.out _).mono ?_
  rintro e w' ⟨rfl,rfl⟩
  go_wp2
  go_ret2
  exact ⟨rfl,GU.out⟩
 | true =>
  cases bp with
  | false =>
   have e:=HZ.out
   rw [if_pos rfl] at e
   subst e
   go_in
   go_wp2_with fail
   refine (HT.out _).mono ?_
   rintro e w' ⟨rfl,rfl⟩
   go_wp2_with fail
   refine (HP.out _).mono ?_
   rintro e w1 ⟨rfl,hb1⟩
   have HB:=h_ hb1
   clear hb1
   go_wp2
   go_ret2
   exact ⟨rfl,HB.out⟩
  | true =>
   have e:=HZ.out
   rw [if_neg (by decide)] at e
   have HC:Hid (∀ W,Be w W→Calls Tryz.prog 48 #[.int .i64 k,.slice p n c] W (Rp (.int .i64 z) W)):=h_ (fun W hW=>by
    have h:=ycR k p c n xs W hx hn (HS.out.below hW)
    rwa [e] at h)
   have gz:(z != 0)=true:=by rw [bne_iff_ne];exact hz
   clear e hz
   go_in
   go_wp2_with fail
   refine (HT.out _).mono ?_
   rintro e w' ⟨rfl,rfl⟩
   go_wp2_with fail
   refine (HP.out _).mono ?_
   rintro e w1 ⟨rfl,hb1⟩
   have HB:=h_ hb1
   clear hb1
   go_wp2_with fail
   refine (HC.out _ HB.out).mono ?_
   rintro e w2 ⟨rfl,hb2⟩
   have jQ:=th HB hb2
   clear hb2
   go_wp2
   go_ret2
   exact ⟨rfl,jQ.out⟩
theorem yfU (k:Int) (p:Oa) (c n:Nat) (xs:List Lb) (s:ByteArray) (w:World) (hx:Hid (xs.length=n)) (hn:n≤4096) (hs:Ss w p xs) (HPO:Hid (yba s.data.toList=true)) (HCK:Hid (vH k xs=0)) :
  Calls Tryz.prog 19 #[.int .i64 k,.slice p n c,.string s] w (yeI k xs s.data.toList n w):=by
 have HS:=h_ hs
 have HIT:Hid (isT k=true):=h_ (by
  have h:=HCK.out
  unfold vH at h
  by_cases h1:isT k=false
  ·rw [if_pos h1] at h;cases h
  ·simpa using h1)
 have HT:=h_ (fun W=>yb5 k W)
 rw [HIT.out] at HT
 have HP:=h_ (fun W=>yco s W)
 rw [HPO.out] at HP
 have HC:Hid (∀ W,Be w W→Calls Tryz.prog 48 #[.int .i64 k,.slice p n c] W (Rp (.int .i64 0) W)):=h_ (fun W hW=>by
  have h:=ycR k p c n xs W hx hn (HS.out.below hW)
  rwa [HCK.out] at h)
 obtain ⟨st,HST⟩:=ez (s.data.toList)
 rw [HST.out]
 obtain ⟨ys,HYS⟩:=ez (ycc xs st)
 have HYL:Hid (ys.length=n):=h_ (by rw [← HYS.out,yeR,hx.out])
 have hni:(n:Int)≤4096:=by omega
 clear hs
 go_in
 go_wp2_with fail
 refine (HT.out _).mono ?_
 rintro e w' ⟨rfl,rfl⟩
 go_wp2_with fail
 refine (HP.out _).mono ?_
 rintro e w1 ⟨rfl,hb1⟩
 have HB:=h_ hb1
 clear hb1
 go_wp2_with fail
 refine (HC.out _ HB.out).mono ?_
 rintro e w2 ⟨rfl,hb2⟩
 have jQ:=th HB hb2
 clear hb2
 go_wp2
 go_loopw [9,10] (fun ov iv wr=>∃ (i cv:Nat) (pv:Oa),i≤n∧ov=.slice pv i cv∧iv=.int .i64 i∧Hid (wr.ownsRow w.heap.size 9 1 (.slice pv i cv) i (yeT (ys.take i)))∧Hid (Be w wr)∧Hid (∀ j,j<i→zN k st (xs.getD j [])=false)) (fun _ iv _=>n-(intOf iv).toNat)
 case atStart=>exact ⟨0,0,none,Nat.zero_le _,rfl,rfl,h_ (World.ownsRow_nil w2 w.heap.size 9 1),jQ,h_ (fun j hj=>by omega)⟩
 case round =>
  obtain ⟨i,cv,pv,hi,rfl,rfl,HO,HBW,HA⟩:=hrel
  have ii:(i:Int)≤(n:Int):=by omega
  by_cases hlt:i<n
  ·have ilt:(i:Int)<(n:Int):=by omega
   have hil:i<xs.length:=by rw [hx.out];exact hlt
   obtain ⟨b1,o1,x,e1,hb1,hc1,hxx⟩:=(HS.out.below HBW.out).at (k:=i) hil
   subst e1
   obtain ⟨u,HU⟩:=ez (uW x st)
   have HYT:Hid (ys.take (i+1)=ys.take i++[u]):=h_ (by
    have h1:i<ys.length:=by rw [HYL.out];exact hlt
    have h2:ys.getD i []=u:=by rw [← HYS.out,yjY hil,hxx.out,HU.out]
    rw [yps h1,h2])
   obtain ⟨X,HX⟩:∃ X:ByteArray,Hid (⟨x.toArray⟩=X):=⟨_,rfl⟩
   rw [HX.out] at hc1
   have HXE:Hid (x=[]→X.toList=[]):=h_ (fun h=>by rw [← HX.out,h];simp)
   have HXN:Hid (x≠[]→¬ X.toList=[]):=h_ (fun h e=>h (by rw [← HX.out] at e;simpa using e))
   have ynG:Hid (zN k st (xs.getD i [])=true→xs.any (zN k st)=true):=h_ (fun h=>List.any_eq_true.2 ⟨_,by rw [gD hil];exact List.getElem_mem hil,h⟩)
   clear hb1 hil
   by_cases hxe:x=[]
   ·have g1:=HXE.out hxe
    have hu0:u=[]:=by rw [← HU.out,hxe];exact ygj st
    have HA2:Hid (∀ j,j<i+1→zN k st (xs.getD j [])=false):=h_ (fun j hj=>by
     by_cases e:j=i
     ·rw [e,hxx.out,hxe];exact yvQ HIT.out
     ·exact HA.out j (by omega))
    obtain ⟨UU,HUU⟩:∃ UU:ByteArray,Hid (UU=⟨u.toArray⟩):=⟨_,h_ rfl⟩
    have HUE:Hid ((⟨#[]⟩:ByteArray)=UU):=h_ (by rw [HUU.out,hu0])
    have HBB:Hid (Be wr wr):=h_ bR
    clear hxe hu0
    have HO5:Hid (wr.ownsRow w.heap.size 9 1 (.slice pv i cv) i (yeT (ys.take i))):=h_ (jW HO.out HBB.out)
    obtain ⟨gU,HgU⟩:∃ g,Hid (wr.heap.size=g):=⟨_,rfl⟩
    obtain ⟨U1,HU1⟩:∃ U1,Hid (wr.alloc (.cells #[.string UU] 9)=U1):=⟨_,h_ rfl⟩
    have hbU:Be wr U1:=by rw [← HU1.out];exact bR.alloc nl _
    have HOU:Hid (U1.ownsRow w.heap.size 9 1 (.slice pv i cv) i (yeT (ys.take i))):=h_ (jW HO5.out hbU)
    have HUC:Hid (U1.cell? ⟨gU,0,none⟩=some (.string ⟨u.toArray⟩)):=h_ (by
     have h:U1.heap[gU]?=some (.cells #[.string UU] 9 (0,0)):=by rw [← HU1.out,← HgU.out];exact World.alloc_heap_new wr _
     simp [World.cell?,h,HUU.out])
    have HBU:Hid (Be w U1):=h_ ((tr HBW.out HBB.out).trans (hbU.mono (Nat.le_trans HBW.out.size HBB.out.size)))
    have HUS:Hid (w.heap.size≤U1.heap.size):=h_ HBU.out.size
    have HIL:Hid (i≤100000):=h_ (by omega)
    obtain ⟨TK,HTK⟩:=ez (ys.take i)
    rw [HTK.out] at HOU
    clear hbU
    go_wp2_with (first|(rw [HUE.out,HU1.out,HgU.out];at_builtin;refine yak rfl (.tmp 51) (.tmp 53) rfl w.heap.size pv cv i TK rfl HOU.out gU u rfl HUC.out HIL.out HUS.out ?_)|(at_builtin;rw [HUE.out,HU1.out,HgU.out];refine yak rfl (.tmp 51) (.tmp 53) rfl w.heap.size pv cv i TK rfl HOU.out gU u rfl HUC.out HIL.out HUS.out ?_))
    intro gv cv' w9 yfe hg9
    have HO9:Hid (w9.ownsRow w.heap.size 9 1 (.slice (some ⟨gv,0,none⟩) (i+1) cv') (i+1) (yeT (ys.take (i+1)))):=h_ (by rw [HYT.out,HTK.out];exact yfe)
    have HB9:Hid (Be w w9):=h_ (yhp HBU.out HOU.out hg9)
    clear yfe hg9
    go_wp2
    go_roundw
    case rel=>exact ⟨i+1,cv',some ⟨gv,0,none⟩,by omega,by first|rfl|go_num,by go_num,HO9,HB9,HA2⟩
    case measure=>simp [intOf];omega
   ·have g1:=HXN.out hxe
    have g1b:(X.toList==[])=false:=by rw [beq_eq_false_iff_ne];exact g1
    have g1c:X.toList.isEmpty=false:=by
     cases h:X.toList with
     | nil=>exact absurd h g1
     | cons=>rfl
    have HBD:Hid (zN k st (xs.getD i [])=(decide (u=[]) || !zK k u)):=h_ (by rw [hxx.out,ytl hxe,HU.out])
    obtain ⟨UU,HUU⟩:∃ UU:ByteArray,Hid (UU=⟨u.toArray⟩):=⟨_,h_ rfl⟩
    have HRD:Hid (∀ W,Calls Tryz.prog 49 #[.string X,.string s] W (Rp (.string UU) W)):=h_ (fun W=>by
     have h:=yod X s W
     unfold yas at h
     have e:uW X.data.toList s.data.toList=u:=by rw [← HX.out,HST.out];exact HU.out
     rwa [e,← HUU.out] at h)
    obtain ⟨f,HF⟩:=ez (zK k u)
    have HFT:Hid (∀ W,Calls Tryz.prog 50 #[.int .i64 k,.string UU] W (Rp (.bool f) W)):=h_ (fun W=>by
     have h:=yhk k u W
     rwa [← HUU.out,HF.out] at h)
    by_cases hue:u=[]
    ·have g2:UU.toList=[]:=by rw [HUU.out,hue];simp
     have yhV:Hid (xs.any (zN k st)=true):=h_ (ynG.out (by rw [HBD.out,decide_eq_true hue];rfl))
     clear hxe hue
     go_wp2_with fail
     refine (HRD.out _).mono ?_
     rintro e w5 ⟨rfl,hb5⟩
     have GB:Hid (yeI k xs st n w (.returned (.tuple #[.slice none 0 0,.int .i64 41])) w5):=h_ ⟨tr HBW.out hb5,.inl ⟨yhV.out,rfl⟩⟩
     clear hb5
     go_wp2
     go_ret2
     exact GB.out
    ·have g2:¬ UU.toList=[]:=fun e=>hue (by rw [HUU.out] at e;simpa using e)
     have g2b:(UU.toList==[])=false:=by rw [beq_eq_false_iff_ne];exact g2
     have g2c:UU.toList.isEmpty=false:=by
      cases h:UU.toList with
      | nil=>exact absurd h g2
      | cons=>rfl
     cases f with
     | false =>
      have yhV:Hid (xs.any (zN k st)=true):=h_ (ynG.out (by rw [HBD.out,HF.out];simp))
      clear hxe hue
      go_wp2_with fail
      refine (HRD.out _).mono ?_
      rintro e w5 ⟨rfl,hb5⟩
      have HB5:=th HBW hb5
      clear hb5
      go_wp2_with fail
      refine (HFT.out _).mono ?_
      rintro e w6 ⟨rfl,hb6⟩
      have GB:Hid (yeI k xs st n w (.returned (.tuple #[.slice none 0 0,.int .i64 41])) w6):=h_ ⟨tr HB5.out hb6,.inl ⟨yhV.out,rfl⟩⟩
      clear hb6
      go_wp2
      go_ret2
      exact GB.out
     | true =>
      have HA2:Hid (∀ j,j<i+1→zN k st (xs.getD j [])=false):=h_ (fun j hj=>by
       by_cases e:j=i
       ·rw [e,HBD.out,decide_eq_false hue,HF.out];rfl
       ·exact HA.out j (by omega))
      clear hxe hue
      go_wp2_with fail
      refine (HRD.out _).mono ?_
      rintro e w5 ⟨rfl,hb5⟩
      have HB5:=h_ hb5
      clear hb5
      go_wp2_with fail
      refine (HFT.out _).mono ?_
      rintro e w6 ⟨rfl,hb6⟩
      have HBB:Hid (Be wr w6):=th HB5 hb6
      clear hb6
      have HO5:Hid (w6.ownsRow w.heap.size 9 1 (.slice pv i cv) i (yeT (ys.take i))):=h_ (jW HO.out HBB.out)
      obtain ⟨gU,HgU⟩:∃ g,Hid (w6.heap.size=g):=⟨_,rfl⟩
      obtain ⟨U1,HU1⟩:∃ U1,Hid (w6.alloc (.cells #[.string UU] 9)=U1):=⟨_,h_ rfl⟩
      have hbU:Be w6 U1:=by rw [← HU1.out];exact bR.alloc nl _
      have HOU:Hid (U1.ownsRow w.heap.size 9 1 (.slice pv i cv) i (yeT (ys.take i))):=h_ (jW HO5.out hbU)
      have HUC:Hid (U1.cell? ⟨gU,0,none⟩=some (.string ⟨u.toArray⟩)):=h_ (by
       have h:U1.heap[gU]?=some (.cells #[.string UU] 9 (0,0)):=by rw [← HU1.out,← HgU.out];exact World.alloc_heap_new w6 _
       simp [World.cell?,h,HUU.out])
      have HBU:Hid (Be w U1):=h_ ((tr HBW.out HBB.out).trans (hbU.mono (Nat.le_trans HBW.out.size HBB.out.size)))
      have HUS:Hid (w.heap.size≤U1.heap.size):=h_ HBU.out.size
      have HIL:Hid (i≤100000):=h_ (by omega)
      obtain ⟨TK,HTK⟩:=ez (ys.take i)
      rw [HTK.out] at HOU
      clear hbU
      go_wp2_with (first|(rw [HU1.out,HgU.out];at_builtin;refine yak rfl (.tmp 51) (.tmp 53) rfl w.heap.size pv cv i TK rfl HOU.out gU u rfl HUC.out HIL.out HUS.out ?_)|(at_builtin;rw [HU1.out,HgU.out];refine yak rfl (.tmp 51) (.tmp 53) rfl w.heap.size pv cv i TK rfl HOU.out gU u rfl HUC.out HIL.out HUS.out ?_))
      intro gv cv' w9 yfe hg9
      have HO9:Hid (w9.ownsRow w.heap.size 9 1 (.slice (some ⟨gv,0,none⟩) (i+1) cv') (i+1) (yeT (ys.take (i+1)))):=h_ (by rw [HYT.out,HTK.out];exact yfe)
      have HB9:Hid (Be w w9):=h_ (yhp HBU.out HOU.out hg9)
      clear yfe hg9
      go_wp2
      go_roundw
      case rel=>exact ⟨i+1,cv',some ⟨gv,0,none⟩,by omega,by first|rfl|go_num,by go_num,HO9,HB9,HA2⟩
      case measure=>simp [intOf];omega
  ·obtain rfl:i=n:=by omega
   have ilt:¬ (i:Int)<(i:Int):=by omega
   have ysh:Hid (xs.any (zN k st)=false):=h_ (by
    rw [List.any_eq_false]
    intro x hx2
    obtain ⟨j,hj,rfl⟩:=List.getElem_of_mem hx2
    have:=HA.out j (by rw [← hx.out];exact hj)
    rw [gD hj] at this
    simpa using this)
   have GB:Hid (yeI k xs st i w (.returned (.tuple #[.slice pv i cv,.int .i64 0])) wr):=h_ ⟨HBW.out,.inr ⟨ysh.out,_,_,rfl,by
    have h1:ys.take i=ys:=by rw [List.take_of_length_le (by rw [HYL.out];exact Nat.le_refl _)]
    have h2:=HO.out
    rw [h1] at h2
    rw [HYS.out]
    exact yoS h2 HYL.out⟩⟩
   go_wp2
   go_ret2
   exact GB.out
theorem yk8 (k:Int) (p q:Oa) (c d n m:Nat) (ss:List Sg) (xs:List Lb) (w:World) (he:Env w) (hx:Hid (ss.length=n)) (hs:RdG w p ss) (hy:Hid (xs.length=m)) (hm:m≤100) (hq:Ss w q xs) (HZ:ydb k ss xs=0) :
  Calls Tryz.prog 22 #[.int .i64 k,.slice p n c,.slice q m d] w fun e w'=>∃ v,e=.returned (.tuple #[v,.int .i64 0])∧PutG w (jU (ybv k ss xs)) w' v:=by
 obtain ⟨hpo,hcx,han,hcv⟩:=yaw HZ
 have HPO:=h_ hpo
 have HCX:=h_ hcx
 have HCV:=h_ hcv
 have HE:=h_ he
 have HS:=h_ hs
 have HQ:=h_ hq
 have HV:=h_ (ybL k p c n ss w he.tab hx hs)
 rw [HPO.out] at HV
 obtain ⟨rb,HBR⟩:=ez (uM ss)
 have HRA:Hid (∀ W,Be w W→Calls Tryz.prog 35 #[.slice p n c] W (Qp (.bool rb) W)):=h_ (fun W hW=>by
  have h:=yep p c n ss W hx (HS.out.below hW)
  rwa [HBR.out] at h)
 have hni:(n:Int)≤4:=by have:=(uH HPO.out).2.1;rw [hx.out] at this;omega
 obtain ⟨P,HPE⟩:=ez (yal k (uP ss xs))
 have HPL:Hid (P.length≤8313):=h_ (by rw [← HPE.out];exact yeH HCV.out (by rw [ycz,hy.out];exact hm))
 cases rb
 case' true =>
  have yjk:0<ss.length:=(ybR HPO.out HBR.out).2
  have hn0:(0:Int)<(n:Int):=by have:=hx.out;omega
  obtain ⟨b1,o1,x0,y0,s0,e1,hbl,hc1,hc2,hc3,hx1⟩:=HS.out.at (k:=0) yjk
  subst e1
  rw [Nat.zero_mul,Nat.add_zero] at hc3
  have yjl:zV ss=s0:=by unfold zV;rw [hx1.out]
  obtain ⟨Z,HZ⟩:∃ Z:ByteArray,Hid (⟨s0.toArray⟩=Z):=⟨_,rfl⟩
  rw [HZ.out] at hc3
  have HZS:Hid (Z.data.toList=zV ss):=h_ (by rw [← HZ.out,yjl])
  have HPC:Hid (yba Z.data.toList=true):=h_ (by rw [HZS.out];exact (ybR HPO.out HBR.out).1)
  have HC3:=h_ hc3
  have HBL:=h_ hbl
  clear hc1 hc2 hc3 hbl yjk yjl
  obtain ⟨ys,HYS⟩:=ez (ycc xs (zV ss))
  have HYL:Hid (ys.length=m):=h_ (by rw [← HYS.out,yeR,hy.out])
  have HRN:Hid (∀ W,Be w W→Calls Tryz.prog 18 #[.int .i64 k,.slice q m d,.string Z] W fun e w'=>∃ q2,e=.returned (.tuple #[.slice q2 m m,.int .i64 0])∧Ss w' q2 ys∧Be W w'):=h_ (fun W hW=>by
   refine (yhB k q d m xs Z W hy (by omega) (HQ.out.below hW) (HE.out.below hW) HPC HCX).mono ?_
   rintro e w' ⟨hb2,⟨yrH,-⟩|⟨-,q2,rfl,hs2⟩⟩
   ·rw [HZS.out,(han HBR.out)] at yrH;cases yrH
   ·rw [HZS.out,HYS.out] at hs2;exact ⟨q2,rfl,hs2,hb2⟩)
  have HPT:Hid (∀ W q2,Be w W→Ss W q2 ys→Calls Tryz.prog 34 #[.int .i64 k,.slice q2 m m] W fun e w'=>∃ v,e=.returned (.tuple #[v,.int .i64 0])∧PutG W P w' v):=h_ (fun W q2 hW hS=>by
   have hvx:uP ss xs=ys:=by unfold uP;rw [HBR.out];exact HYS.out
   rw [← HPE.out,hvx]
   exact ygY k q2 m m ys W HYL (by omega) hS (HE.out.below hW) (h_ (by have:=HCV.out;rwa [hvx] at this)))
  clear he hs hq hpo hcx han hcv HZ
  go_in
  go_wp2_with fail
  refine (HV.out).mono ?_
  rintro e w1 ⟨rfl,hb1⟩
  have yX:=h_ hb1
  have hc3:=(hb1.cell (p:=⟨b1,o1+2,none⟩) HBL.out).trans HC3.out
  clear hb1
  go_wp2_with fail
  refine (HRA.out _ yX.out).mono ?_
  rintro e w' ⟨rfl,rfl⟩
  go_wp2_with fail
  refine (HRN.out _ yX.out).mono ?_
  rintro e w2 ⟨q2,rfl,hs2,hb2⟩
  have HBF:=th yX hb2
  have yrI:=h_ (HPT.out w2 q2 HBF.out hs2)
  clear hb2 hc3 hs2
  go_wp2_with fail
 case' false =>
  have HPT:Hid (∀ W,Be w W→Calls Tryz.prog 34 #[.int .i64 k,.slice q m d] W fun e w'=>∃ v,e=.returned (.tuple #[v,.int .i64 0])∧PutG W P w' v):=h_ (fun W hW=>by
   have hvx:uP ss xs=xs:=by unfold uP;rw [HBR.out];rfl
   rw [← HPE.out,hvx]
   exact ygY k q d m xs W hy (by omega) (HQ.out.below hW) (HE.out.below hW) (h_ (by have:=HCV.out;rwa [hvx] at this)))
  clear he hs hq hpo hcx han hcv HZ
  go_in
  go_wp2_with fail
  refine (HV.out).mono ?_
  rintro e w1 ⟨rfl,hb1⟩
  have yX:=h_ hb1
  clear hb1
  go_wp2_with fail
  refine (HRA.out _ yX.out).mono ?_
  rintro e w' ⟨rfl,rfl⟩
  have HBF:=yX
  go_wp2_with fail
  have yrI:=h_ (HPT.out _ yX.out)
 all_goals
  refine (yrI.out).mono ?_
  rintro e w3 ⟨v3,rfl,hg3⟩
  have HO3:Hid (w3.ownsRow w.heap.size 5 1 v3 P.length (zG P)):=h_ (ycD hg3.own HBF.out.size)
  have HB3:Hid (Be w w3):=h_ (tr HBF.out hg3.below)
  clear hg3
  go_wp2
  go_loopw [10,11,12] (fun bv ev iv wr=>∃ (i:Nat) (v:Value),i≤n∧v=bv∧ev=.int .i64 0∧iv=.int .i64 i∧Hid (wr.ownsRow w.heap.size 5 1 v (yaC ss i P).length (zG (yaC ss i P)))∧Hid (Be w wr)) (fun _ _ iv _=>n-(intOf iv).toNat)
  case atStart=>exact ⟨0,v3,Nat.zero_le _,rfl,rfl,rfl,HO3,HB3⟩
  case round =>
   obtain ⟨i,v,hi,rfl,rfl,rfl,HO,HB⟩:=hrel
   have ii:(i:Int)≤(n:Int):=by omega
   by_cases hlt:i<n
   ·have ilt:(i:Int)<(n:Int):=by omega
    have hil:i<ss.length:=by rw [hx.out];exact hlt
    obtain ⟨b2,o2,x,y,s,e2,hb2,hd1,hd2,hd3,hx2⟩:=(HS.out.below HB.out).at (k:=i) hil
    have HTH:Hid (Calls Tryz.prog 54 #[.agg #[.int .i64 x,.int .i64 y,.string ⟨s.toArray⟩],v] wr (uI w.heap.size (yaC ss (i+1) P) wr)):=h_ (by
     have h:=ym3 (x,y,s) v (yaC ss i P) w.heap.size wr HB.out.size (by have:=ycE HPO.out i hil;rwa [hx2.out] at this) (by have h1:=ybH (l:=P) (ycE HPO.out) (by have:=HPL.out;omega) (uH HPO.out).2.1 i (by omega);have:=HPL.out;have:=(uH HPO.out).2.1;omega) HO.out
     rwa [ydO hil,hx2.out])
    first|(cases e2)|(rw [e2])
    obtain ⟨SZ,HSZ⟩:∃ SZ:ByteArray,Hid (⟨s.toArray⟩=SZ):=⟨_,rfl⟩
    rw [HSZ.out] at hd3 HTH
    clear hb2 hil
    go_wp2_with fail
    refine (HTH.out).mono ?_
    rintro e w5 ⟨hb5,v5,rfl,ho5⟩
    have HB5:=th HB hb5
    have HO5:=h_ ho5
    clear hb5 ho5 hd1 hd2 hd3
    go_wp2
    go_roundw
    case rel=>exact ⟨i+1,v5,by omega,rfl,rfl,by go_num,HO5,HB5⟩
    case measure=>simp [intOf];omega
   ·obtain rfl:i=n:=by omega
    have ilt:¬ (i:Int)<(i:Int):=by omega
    obtain ⟨L,HL⟩:=ez (yaC ss i P)
    rw [HL.out] at HO
    have HLL:Hid (L.length≤9000):=h_ (by
     have h1:=ybH (l:=P) (ycE HPO.out) (by have:=HPL.out;omega) (uH HPO.out).2.1 ss.length nl
     rw [hx.out,HL.out] at h1
     have:=HPL.out;have h4:=(uH HPO.out).2.1;rw [hx.out] at h4;omega)
    obtain ⟨pv,cv,rfl,hbs,hcv⟩:=yS HO.out
    obtain ⟨m0,HM0⟩:=ez (L.length)
    obtain ⟨X,HX⟩:=ez (Crc.crc L)
    have HSM:Hid (Calls Tryz.prog 55 #[.slice pv m0 cv] wr (Rp (.agg #[.int .u8 ((X%256:Nat):Int),.int .u8 ((X/256%256:Nat):Int),.int .u8 ((X/65536%256:Nat):Int),.int .u8 ((X/16777216%256:Nat):Int)]) wr)):=h_ (by
     have h:=yeZ pv cv L wr (by have:=HLL.out;omega) hbs
     unfold yrA at h
     rwa [HX.out,HM0.out] at h)
    obtain ⟨c0,HC0⟩:=ez (X%256)
    obtain ⟨c1,HC1⟩:=ez (X/256%256)
    obtain ⟨c2,HC2⟩:=ez (X/65536%256)
    obtain ⟨c4,HC4⟩:=ez (X/16777216%256)
    rw [HC0.out,HC1.out,HC2.out,HC4.out] at HSM
    rw [HM0.out] at HO ⊢
    clear hbs hcv
    go_wp2_with fail
    refine (HSM.out).mono ?_
    rintro e w6 ⟨rfl,hb6⟩
    have HB6:=th HB hb6
    obtain ⟨W7,HW7⟩:∃ W7,Hid (w6.alloc (.cells #[.int .u8 (c0:Int),.int .u8 (c1:Int),.int .u8 (c2:Int),.int .u8 (c4:Int)] 79)=W7):=⟨_,h_ rfl⟩
    obtain ⟨G,HG⟩:=ez (w6.heap.size)
    have HSB:Hid (Bs W7 (some ⟨G,0,none⟩) (sumB X)):=h_ (by
     refine ym4 (t:=79) ?_
     rw [HC0.out,HC1.out,HC2.out,HC4.out,← HW7.out,← HG.out]
     exact World.alloc_heap_new w6 _)
    have hb7:Be w6 W7:=by rw [← HW7.out];exact bR.alloc nl _
    have HO7:Hid (W7.ownsRow w.heap.size 5 1 (.slice pv m0 cv) m0 (zG L)):=h_ (jW (jW HO.out hb6) hb7)
    have HB7:Hid (Be w W7):=th HB6 hb7
    have HSZ7:Hid (w.heap.size≤W7.heap.size):=h_ HB7.out.size
    have HLB:Hid (m0+4≤140737488355328):=h_ (by have:=HLL.out;have:=HM0.out;omega)
    clear hb6 hb7
    go_wp2_with (first|(rw [HW7.out,HG.out];at_builtin;refine yG rfl (.tmp 64) (.tmp 65) rfl w.heap.size (.slice pv m0 cv) m0 L rfl HM0.out.symm HO7.out (some ⟨G,0,none⟩) 4 4 (sumB X) rfl rfl HSB.out HLB.out HSZ7.out ?_)|(at_builtin;rw [HW7.out,HG.out];refine yG rfl (.tmp 64) (.tmp 65) rfl w.heap.size (.slice pv m0 cv) m0 L rfl HM0.out.symm HO7.out (some ⟨G,0,none⟩) 4 4 (sumB X) rfl rfl HSB.out HLB.out HSZ7.out ?_))
    intro v9 w9 hg9
    have GB:Hid (PutG w (jU L) w9 v9):=h_ ⟨by unfold jU;rw [HX.out];exact hg9.own,HB7.out.grown hg9.grown HB7.out.size (fun _ e=>yaz HO7.out e)⟩
    clear hg9
    go_wp2
    go_ret2
    exact ⟨v9,rfl,by rw [ybv,HPE.out,hx.out,HL.out];exact GB.out⟩
theorem yvR (k:Int) (p q:Oa) (c d n m:Nat) (ss:List Sg) (xs:List Lb) (w:World) (he:Env w) (hx:Hid (ss.length=n)) (hs:RdG w p ss) (hy:Hid (xs.length=m)) (hm:m≤100) (hq:Ss w q xs) (z:Int) (hz:z≠0) (HZ:ydb k ss xs=z) :
  Calls Tryz.prog 22 #[.int .i64 k,.slice p n c,.slice q m d] w (Rp (.tuple #[.slice none 0 0,.int .i64 z]) w):=by
 unfold ydb at HZ
 by_cases h1:uK k ss=false
 ·rw [if_pos h1] at HZ
  rw [← HZ]
  exact yhH k p q c d n m ss w he hx hs h1
 rw [if_neg h1] at HZ
 have h1:uK k ss=true:=by simpa using h1
 cases hr:uM ss with
 | true =>
  rw [hr,Bool.true_and] at HZ
  exact yl9 k p q c d n m ss xs w he hx hs hy hm hq (h_ h1) (h_ hr) z hz (h_ HZ)
 | false =>
  by_cases hc:vH k xs≠0
  ·rw [if_pos hc] at HZ
   exact yma k p q c d n m ss xs w he hx hs hy hm hq (h_ h1) (h_ hr) z hz (h_ HZ)
  ·rw [if_neg hc,hr,Bool.false_and,if_neg (by decide)] at HZ;exact absurd HZ.symm hz
theorem ytm {k:Int} {ss:List Sg} {xs:List Lb} (h:ydb k ss xs=0) (hm:xs.length≤100):(ybv k ss xs).length≤9000:=by
 obtain ⟨h1,-,-,h4⟩:=yaw h
 have hp:=yeH h4 (by rw [ycz];exact hm)
 have h2:=ybH (l:=yal k (uP ss xs)) (ycE h1) (by omega) (uH h1).2.1 ss.length nl
 have h3:=(uH h1).2.1
 unfold ybv
 omega
theorem ytn (k:Int) (p q:Oa) (c d n m:Nat) (ss:List Sg) (xs:List Lb) (w:World) (hx:Hid (ss.length=n)) (hs:RdG w p ss) (hy:Hid (xs.length=m)) (hm:m≤100) (hq:Ss w q xs) (z:Int) (hz:z≠0) (HZ:ydb k ss xs=z) :
  Calls Tryz.prog 23 #[.int .i64 k,.slice p n c,.slice q m d] w (Rp (.tuple #[.slice none 0 0,.int .i64 z]) w):=by
 unfold ydb at HZ
 have HS:=h_ hs
 have HQ:=h_ hq
 have HV:=h_ (yf6 k p c n ss w hx hs)
 have gz:(z != 0)=true:=by rw [bne_iff_ne];exact hz
 have gz2:(z==0)=false:=by rw [beq_eq_false_iff_ne];exact hz
 by_cases h1:uK k ss=false
 ·rw [if_pos h1] at HZ
  rw [h1] at HV
  subst HZ
  clear hs hq h1 hz
  go_in
  go_wp2_with fail
  refine (HV.out).mono ?_
  rintro e w1 ⟨rfl,hb1⟩
  have yX:=h_ hb1
  clear hb1
  go_wp2
  go_ret2
  exact ⟨rfl,yX.out⟩
 rw [if_neg h1] at HZ
 have HPO:Hid (uK k ss=true):=h_ (by simpa using h1)
 rw [HPO.out] at HV
 have hni:(n:Int)≤4:=by have:=(uH HPO.out).2.1;rw [hx.out] at this;omega
 have HSP:Hid (∀ W,Be w W→Calls Tryz.prog 37 #[.slice p n c] W (Qp (.tuple #[.string (if uM ss then ⟨(zV ss).toArray⟩ else ⟨#[]⟩),.bool (uM ss)]) W)):=h_ (fun W hW=>yi3 p c n ss W hx (HS.out.below hW))
 cases hr:uM ss with
 | true =>
  rw [hr,Bool.true_and] at HZ
  rw [hr,if_pos rfl] at HSP
  obtain ⟨Z,HZZ⟩:∃ Z:ByteArray,Hid (⟨(zV ss).toArray⟩=Z):=⟨_,rfl⟩
  rw [HZZ.out] at HSP
  have HZS:Hid (Z.data.toList=zV ss):=h_ (by rw [← HZZ.out])
  have HPC:Hid (yba Z.data.toList=true):=h_ (by rw [HZS.out];exact (ybR HPO.out hr).1)
  have HRN:Hid (∀ W,Be w W→Calls Tryz.prog 19 #[.int .i64 k,.slice q m d,.string Z] W (Rp (.tuple #[.slice none 0 0,.int .i64 z]) W)):=h_ (fun W hW=>by
   have h2:=HZ
   by_cases hc:vH k xs=0
   ·rw [if_neg (by rw [hc];decide)] at h2
    cases hb:xs.any (zN k (zV ss)) with
    | false=>rw [hb] at h2;exact absurd h2.symm hz
    | true =>
     rw [hb,if_pos rfl] at h2
     refine (yfU k q d m xs Z W hy (by omega) (HQ.out.below hW) HPC (h_ hc)).mono ?_
     rintro e w' ⟨hb2,⟨-,rfl⟩|⟨hno,-⟩⟩
     ·rw [h2];exact ⟨rfl,hb2⟩
     ·rw [HZS.out,hb] at hno;cases hno
   ·rw [if_pos hc] at h2
    exact yj1 k q d m xs Z W hy (by omega) (HQ.out.below hW) z hz (h_ (by rw [if_neg (by rw [HPC.out];decide)];exact h2)))
  clear hs hq h1 hz HZ hr
  go_in
  go_wp2_with fail
  refine (HV.out).mono ?_
  rintro e w1 ⟨rfl,hb1⟩
  have yX:=h_ hb1
  clear hb1
  go_wp2_with fail
  refine (HSP.out _ yX.out).mono ?_
  rintro e w' ⟨rfl,rfl⟩
  go_wp2_with fail
  refine (HRN.out _ yX.out).mono ?_
  rintro e w2 ⟨rfl,hb2⟩
  have jQ:=th yX hb2
  clear hb2
  go_wp2
  go_ret2
  exact ⟨rfl,jQ.out⟩
 | false =>
  have hc:vH k xs≠0:=by
   intro hc
   rw [if_neg (by rw [hc];decide),hr,Bool.false_and,if_neg (by decide)] at HZ
   exact hz HZ.symm
  rw [if_pos hc] at HZ
  rw [hr,if_neg (by decide)] at HSP
  have HPT:Hid (∀ W,Be w W→Calls Tryz.prog 56 #[.int .i64 k,.slice q m d] W (Rp (.tuple #[.slice none 0 0,.int .i64 z]) W)):=h_ (fun W hW=>yt7 k q d m xs W hy (by omega) (HQ.out.below hW) z (h_ HZ) hz)
  clear hs hq h1 hz HZ hc hr
  go_in
  go_wp2_with fail
  refine (HV.out).mono ?_
  rintro e w1 ⟨rfl,hb1⟩
  have yX:=h_ hb1
  clear hb1
  go_wp2_with fail
  refine (HSP.out _ yX.out).mono ?_
  rintro e w' ⟨rfl,rfl⟩
  go_wp2_with fail
  refine (HPT.out _ yX.out).mono ?_
  rintro e w2 ⟨rfl,hb2⟩
  have jQ:=th yX hb2
  clear hb2
  go_wp2
  go_loopw [12,13,14] (fun bv ev iv wr=>bv=.slice none 0 0∧ev=.int .i64 z∧iv=.int .i64 0∧wr=w2) (fun _ _ _ _=>0)
  case atStart=>exact ⟨rfl,rfl,rfl,rfl⟩
  case round =>
   obtain ⟨rfl,rfl,rfl,rfl⟩:=hrel
   by_cases h0:n=0
   ·subst h0
    go_wp2
    go_ret2
    exact ⟨rfl,jQ.out⟩
   ·have hn0:(0:Int)<(n:Int):=by omega
    go_wp2
    go_ret2
    exact ⟨rfl,jQ.out⟩
theorem yqp (k:Int) (p q:Oa) (c d n m:Nat) (ss:List Sg) (xs:List Lb) (w:World) (hx:Hid (ss.length=n)) (hs:RdG w p ss) (hy:Hid (xs.length=m)) (hm:m≤100) (hq:Ss w q xs) (HZ:ydb k ss xs=0) :
  Calls Tryz.prog 23 #[.int .i64 k,.slice p n c,.slice q m d] w fun e w'=>∃ v,e=.returned (.tuple #[v,.int .i64 0])∧PutG w (jU (ybv k ss xs)) w' v:=by
 obtain ⟨hpo,hcx,han,hcv⟩:=yaw HZ
 have HPO:=h_ hpo
 have HCV:=h_ hcv
 have HCX:=h_ hcx
 have HS:=h_ hs
 have HQ:=h_ hq
 have HV:=h_ (yf6 k p c n ss w hx hs)
 rw [hpo] at HV
 have hni:(n:Int)≤4:=by have:=(uH HPO.out).2.1;rw [hx.out] at this;omega
 have HSP:Hid (∀ W,Be w W→Calls Tryz.prog 37 #[.slice p n c] W (Qp (.tuple #[.string (if uM ss then ⟨(zV ss).toArray⟩ else ⟨#[]⟩),.bool (uM ss)]) W)):=h_ (fun W hW=>yi3 p c n ss W hx (HS.out.below hW))
 obtain ⟨ys,HYS⟩:=ez (uP ss xs)
 have HYL:Hid (ys.length=m):=h_ (by rw [← HYS.out,ycz,hy.out])
 rw [HYS.out] at HCV
 obtain ⟨P,HPE⟩:=ez (yal k ys)
 have HPL:Hid (P.length≤8313):=h_ (by rw [← HPE.out];exact yeH HCV.out (by rw [HYL.out];exact hm))
 have HPT:Hid (∀ W q2 d2,Be w W→Ss W q2 ys→Calls Tryz.prog 56 #[.int .i64 k,.slice q2 m d2] W fun e w'=>∃ v,e=.returned (.tuple #[v,.int .i64 0])∧PutG W P w' v):=h_ (fun W q2 d2 hW hS=>by
  rw [← HPE.out]
  exact yq4 k q2 d2 m ys W HYL (by omega) hS HCV)
 cases hr:uM ss
 case' true =>
  rw [hr,if_pos rfl] at HSP
  obtain ⟨Z,HZZ⟩:∃ Z:ByteArray,Hid (⟨(zV ss).toArray⟩=Z):=⟨_,rfl⟩
  rw [HZZ.out] at HSP
  have HZS:Hid (Z.data.toList=zV ss):=h_ (by rw [← HZZ.out])
  have HPC:Hid (yba Z.data.toList=true):=h_ (by rw [HZS.out];exact (ybR HPO.out hr).1)
  have han2:=han hr
  have hvx:ycc xs (zV ss)=ys:=by rw [← HYS.out];unfold uP;rw [hr];rfl
  have HRN:Hid (∀ W,Be w W→Calls Tryz.prog 19 #[.int .i64 k,.slice q m d,.string Z] W fun e w'=>∃ q2 d2,e=.returned (.tuple #[.slice q2 m d2,.int .i64 0])∧Ss w' q2 ys∧Be W w'):=h_ (fun W hW=>by
   refine (yfU k q d m xs Z W hy (by omega) (HQ.out.below hW) HPC HCX).mono ?_
   rintro e w' ⟨hb2,⟨yrH,-⟩|⟨-,q2,d2,rfl,hs2⟩⟩
   ·rw [HZS.out,han2] at yrH;cases yrH
   ·rw [HZS.out,hvx] at hs2;exact ⟨q2,d2,rfl,hs2,hb2⟩)
  clear hs hq hpo hcx han hcv han2 hvx hr HZ
  go_in
  go_wp2_with fail
  refine (HV.out).mono ?_
  rintro e w1 ⟨rfl,hb1⟩
  have yX:=h_ hb1
  clear hb1
  go_wp2_with fail
  refine (HSP.out _ yX.out).mono ?_
  rintro e w' ⟨rfl,rfl⟩
  go_wp2_with fail
  refine (HRN.out _ yX.out).mono ?_
  rintro e w2 ⟨q2,d2,rfl,hs2,hb2⟩
  have HBF:Hid (Be w w2):=th yX hb2
  have yrI:=h_ (HPT.out w2 q2 d2 HBF.out hs2)
  clear hb2 hs2
  go_wp2_with fail
 case' false =>
  have hvx:xs=ys:=by rw [← HYS.out];unfold uP;rw [hr];rfl
  rw [hr,if_neg (by decide)] at HSP
  have HQ2:Hid (Ss w q ys):=h_ (by rw [← hvx];exact hq)
  clear hs hq hpo hcx han hcv hvx hr HZ
  go_in
  go_wp2_with fail
  refine (HV.out).mono ?_
  rintro e w2 ⟨rfl,hb1⟩
  have HBF:=h_ hb1
  have yrI:=h_ (HPT.out w2 q d HBF.out (HQ2.out.below hb1))
  clear hb1
  go_wp2_with fail
  refine (HSP.out _ HBF.out).mono ?_
  rintro e w' ⟨rfl,rfl⟩
  go_wp2_with fail
 all_goals
  refine (yrI.out).mono ?_
  rintro e w3 ⟨v3,rfl,hg3⟩
  have HO3:Hid (w3.ownsRow w.heap.size 5 1 v3 P.length (zG P)):=h_ (ycD hg3.own HBF.out.size)
  have HB3:Hid (Be w w3):=h_ (tr HBF.out hg3.below)
  clear hg3
  go_wp2
  go_loopw [12,13,14] (fun bv ev iv wr=>∃ (i:Nat) (v:Value),i≤n∧v=bv∧ev=.int .i64 0∧iv=.int .i64 i∧Hid (wr.ownsRow w.heap.size 5 1 v (yaC ss i P).length (zG (yaC ss i P)))∧Hid (Be w wr)) (fun _ _ iv _=>n-(intOf iv).toNat)
  case atStart=>exact ⟨0,v3,Nat.zero_le _,rfl,rfl,rfl,HO3,HB3⟩
  case round =>
   obtain ⟨i,v,hi,rfl,rfl,rfl,HO,HB⟩:=hrel
   have ii:(i:Int)≤(n:Int):=by omega
   by_cases hlt:i<n
   ·have ilt:(i:Int)<(n:Int):=by omega
    have hil:i<ss.length:=by rw [hx.out];exact hlt
    obtain ⟨b2,o2,x,y,s,e2,hb2,hd1,hd2,hd3,hx2⟩:=(HS.out.below HB.out).at (k:=i) hil
    have HTH:Hid (Calls Tryz.prog 57 #[.agg #[.int .i64 x,.int .i64 y,.string ⟨s.toArray⟩],v] wr (uI w.heap.size (yaC ss (i+1) P) wr)):=h_ (by
     have h:=ymi (x,y,s) v (yaC ss i P) w.heap.size wr HB.out.size (by have:=ycE HPO.out i hil;rwa [hx2.out] at this) (by have h1:=ybH (l:=P) (ycE HPO.out) (by have:=HPL.out;omega) (uH HPO.out).2.1 i (by omega);have:=HPL.out;have:=(uH HPO.out).2.1;omega) HO.out
     rwa [ydO hil,hx2.out])
    first|(cases e2)|(rw [e2])
    obtain ⟨SZ,HSZ⟩:∃ SZ:ByteArray,Hid (⟨s.toArray⟩=SZ):=⟨_,rfl⟩
    rw [HSZ.out] at hd3 HTH
    clear hb2 hil
    go_wp2_with fail
    refine (HTH.out).mono ?_
    rintro e w5 ⟨hb5,v5,rfl,ho5⟩
    have HB5:=th HB hb5
    have HO5:=h_ ho5
    clear hb5 ho5 hd1 hd2 hd3
    go_wp2
    go_roundw
    case rel=>exact ⟨i+1,v5,by omega,rfl,rfl,by go_num,HO5,HB5⟩
    case measure=>simp [intOf];omega
   ·obtain rfl:i=n:=by omega
    have ilt:¬ (i:Int)<(i:Int):=by omega
    obtain ⟨L,HL⟩:=ez (yaC ss i P)
    rw [HL.out] at HO
    have HLL:Hid (L.length≤9000):=h_ (by
     have h1:=ybH (l:=P) (ycE HPO.out) (by have:=HPL.out;omega) (uH HPO.out).2.1 ss.length nl
     rw [hx.out,HL.out] at h1
     have:=HPL.out;have h4:=(uH HPO.out).2.1;rw [hx.out] at h4;omega)
    obtain ⟨pv,cv,rfl,hbs,hcv⟩:=yS HO.out
    have HSM:=h_ (yok pv cv L wr (by have:=HLL.out;omega) hbs)
    obtain ⟨m0,HM0⟩:=ez (L.length)
    rw [HM0.out] at HSM ⊢
    clear hbs hcv
    go_wp2_with fail
    refine (HSM.out).mono ?_
    rintro e w6 ⟨v6,rfl,hg6⟩
    have GB:Hid (PutG w (jU L) w6 v6):=h_ ⟨ycD hg6.own HB.out.size,tr HB.out hg6.below⟩
    clear hg6
    go_wp2
    go_ret2
    exact ⟨v6,rfl,by rw [ybv,HYS.out,HPE.out,hx.out,HL.out];exact GB.out⟩
end
end Go.Proofs.YtgepehlpjpccaaaGreatDoor
