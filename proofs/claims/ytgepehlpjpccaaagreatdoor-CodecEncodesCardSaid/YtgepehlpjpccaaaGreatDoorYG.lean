/- Contracts. -/
import Derived.Test.YtgepehlpjpccaaaGreatDoorVSc
import Derived.RangeFuncFrom
set_option maxHeartbeats 8000000
set_option maxRecDepth 100000
namespace Go.Proofs.YtgepehlpjpccaaaGreatDoor
open Go.RowKit Big
variable {B : Nat} {s : Bool} {u1 v1 : Value} {t : Bool} {u2 v2 : Value} {w0 W W' : World}
end Go.Proofs.YtgepehlpjpccaaaGreatDoor
namespace Big
open Go.Proofs.YtgepehlpjpccaaaGreatDoor
theorem ylX (s:Bool) (a b:Nat):yM (!s) a b=- yM s a b:=by
 unfold yM
 cases s<;>simp<;>grind
end Big
namespace Go.Proofs.YtgepehlpjpccaaaGreatDoor
open Go.RowKit Big
section
variable {B : Nat} {s : Bool} {u1 v1 : Value} {w0 W W' : World}
end
theorem ym0 (x:Value) (s:Bool) (a b:Nat) (w:World) (hx:vE w x s a b):Calls Tryz.prog 178 #[x] w (uZ (!s) a b w):=by
 obtain ⟨u1,v1,rfl,hu1,hv1,hs1⟩:=hx
 obtain ⟨p1,n1,k1,rfl⟩:=hu1.slice
 obtain ⟨p2,n2,k2,rfl⟩:=hv1.slice
 have zX:=One.start w s (.slice p1 n1 k1) (.slice p2 n2 k2)
 obtain ⟨c0,c1,c2⟩:=zX.cells
 have Hone:=yA zX
 have HU:=yA hu1
 have HV:=yA hv1
 clear zX hu1 hv1 hs1
 go_in
 go_wp2_with fail
 refine (vW _ _ _ a b _ (HU.out.below Hone.out.below) (HV.out.below Hone.out.below)).mono ?_
 rintro e w3 ⟨rfl,hb3⟩
 have htw:=Hone.out.next hb3
 obtain ⟨z0,z1,z2,l0,l1,l2,f0,f1,f2⟩:=htw.slots
 have Htw:=yA htw
 clear htw
 go_wp2_with fail
 have q1:=Htw.out.nat3 nl ((HU.out.below Hone.out.below).below hb3) (!s&&!(a==0)) p1 p2 n1 k1 n2 k2
 have q2:=Htw.out.nat3 nl ((HV.out.below Hone.out.below).below hb3) (!s&&!(a==0)) p1 p2 n1 k1 n2 k2
 have q3:=(Htw.out.put3 nl (!s&&!(a==0)) p1 p2 n1 k1 n2 k2).below
 refine bodyPost_ret (v:=.agg #[.bool (!s&&!(a==0)),.slice p1 n1 k1,.slice p2 n2 k2]) (by simp [results,Tryz.results178,go_sem,l0,l1,l2]) rfl ?_
 exact ⟨_,rfl,⟨_,_,rfl,q1,q2,by intro h;simp at h;omega⟩,q3⟩
def yw1 (s:Bool) (a b:Nat) (t:Bool) (c d K:Nat) (w:World) (e:Ending) (w':World):Prop :=
 ∃ x r n m,e=.returned x∧vE w' x r n m∧Be w w'∧0<m∧yM r n m=yM s a b-yM t c d∧n<yB^(2*K+1)∧m<yB^(2*K+1)
theorem yw2 (x y:Value) (s t:Bool) (a b c d K:Nat) (w:World) (hK:2*K+1≤1073741824) (ha:a<yB^K) (hb:b<yB^K) (hc:c<yB^K) (hd:d<yB^K) (hb0:0<b) (hd0:0<d) (hx:vE w x s a b) (hy:vE w y t c d) :
  Calls Tryz.prog 134 #[x,y] w (yw1 s a b t c d K w):=by
 have hx0:=yA hx
 have hy0:=yA hy
 obtain ⟨u1,v1,rfl,hu1,hv1,hs1⟩:=hx
 obtain ⟨u2,v2,rfl,hu2,hv2,hs2⟩:=hy
 obtain ⟨p1,n1,k1,rfl⟩:=hu1.slice
 obtain ⟨p2,n2,k2,rfl⟩:=hv1.slice
 obtain ⟨p3,n3,k3,rfl⟩:=hu2.slice
 obtain ⟨p4,n4,k4,rfl⟩:=hv2.slice
 have jC:=Two.start w s (.slice p1 n1 k1) (.slice p2 n2 k2) t (.slice p3 n3 k3) (.slice p4 n4 k4)
 have Htwo:=yA jC
 obtain ⟨-,c0,c1,c2,c3,c4,c5⟩:=jC.all
 have yao:Hid (∀ W,Be w W→Calls Tryz.prog 178 #[.agg #[.bool t,.slice p3 n3 k3,.slice p4 n4 k4]] W (uZ (!t) c d W)):=yA fun W h=>ym0 _ t c d W (hy0.out.below h)
 have ybb:Hid (∀ W z,Be w W→vE W z ((!t)&&!(c==0)) c d→Calls Tryz.prog 89 #[.agg #[.bool s,.slice p1 n1 k1,.slice p2 n2 k2],z] W (ybV s a b ((!t)&&!(c==0)) c d K W)) :=
  yA fun W z h hz=>ypN _ _ s _ a b c d K W hK ha hb hc hd hb0 hd0 (hx0.out.below h) hz
 clear hu1 hv1 hu2 hv2 hs1 hs2 jC
 go_in
 go_wp2_with fail
 go_region_held3 (fun w'=>Two w.heap.size s (.slice p1 n1 k1) (.slice p2 n2 k2) t (.slice p3 n3 k3) (.slice p4 n4 k4) w w'∧w'.cell? ⟨w.heap.size,0,none⟩=some (.bool s)∧w'.cell? ⟨w.heap.size,1,none⟩=some (.slice p1 n1 k1)∧w'.cell? ⟨w.heap.size,2,none⟩=some (.slice p2 n2 k2)∧w'.cell? ⟨w.heap.size+1,0,none⟩=some (.bool t)∧w'.cell? ⟨w.heap.size+1,1,none⟩=some (.slice p3 n3 k3)∧w'.cell? ⟨w.heap.size+1,2,none⟩=some (.slice p4 n4 k4))
  (first|exact Two.all (Two.drew Htwo.out)|exact Two.all Htwo.out|(go_split_ands;exact Two.all (Two.next (by assumption) hb1))|(go_split_ands;exact Two.all (Two.next (by assumption) hb3))|(go_split_ands;exact Two.all (Two.put3 (by assumption) nl _ _ _ _ _ _ _))|go_keep)
  (first|(go_at_call 178;go_split_ands;refine (yao.out _ (Two.below (by assumption))).mono ?_;rintro e w1 ⟨xn,rfl,hxn,hb1⟩)|(go_at_call 89;go_split_ands;refine (ybb.out _ _ (Two.below (by assumption)) hxn).mono ?_;rintro e w3 ⟨xr,r,nn,mm,rfl,hxr,hb3,ynM,zQ,hn1,hm1⟩;have htw:=Two.next (by assumption) hb3;obtain ⟨ur,vr,rfl,hur,hvr,hsr⟩:=hxr;obtain ⟨pr,nr,cr,rfl⟩:=hur.slice;obtain ⟨pv,nv,cv,rfl⟩:=hvr.slice;obtain ⟨z0,z1,z2,l0,l1,l2,f0,f1,f2⟩:=Two.slots htw))
 go_wp2_with fail
 have q1:=htw.nat3 nl hur r pr pv nr cr nv cv
 have q2:=htw.nat3 nl hvr r pr pv nr cr nv cv
 have q3:=(htw.put3 nl r pr pv nr cr nv cv).below
 refine bodyPost_ret (v:=.agg #[.bool r,.slice pr nr cr,.slice pv nv cv]) (by simp [results,Tryz.results134,go_sem,l0,l1,l2]) rfl ?_
 refine ⟨_,r,nn,mm,rfl,⟨_,_,rfl,q1,q2,hsr⟩,q3,ynM,?_,hn1,hm1⟩
 rw [zQ,jX,ylX,Rat.sub_eq_add_neg]
end Go.Proofs.YtgepehlpjpccaaaGreatDoor
namespace Go.Proofs.YtgepehlpjpccaaaGreatDoor
open Go.RowKit Big
section
variable {B : Nat} {w0 W W' : World}
end
end Go.Proofs.YtgepehlpjpccaaaGreatDoor
namespace Go.Proofs.YtgepehlpjpccaaaGreatDoor
open Go.RowKit Go.Lib Big
end Go.Proofs.YtgepehlpjpccaaaGreatDoor
namespace Go.Proofs.YtgepehlpjpccaaaGreatDoor
open Go.RowKit Go.Lib Big
end Go.Proofs.YtgepehlpjpccaaaGreatDoor
namespace Go.Proofs.YtgepehlpjpccaaaGreatDoor
open Go.RowKit Go.Lib Big
end Go.Proofs.YtgepehlpjpccaaaGreatDoor
namespace Go.Proofs.YtgepehlpjpccaaaGreatDoor
open Go.RowKit Go.Lib Big
end Go.Proofs.YtgepehlpjpccaaaGreatDoor
namespace Go.Proofs.YtgepehlpjpccaaaGreatDoor
open Go.RowKit Go.Lib Big
end Go.Proofs.YtgepehlpjpccaaaGreatDoor
namespace Go.Proofs.YtgepehlpjpccaaaGreatDoor
open Go.Lib Big
/-! Digits -/
theorem yex (u:Nat):yY (decDigits u)=true:=by
 unfold yY
 rw [(yaO u).1]
 simp [ym7 u]
theorem ylY (u:Nat) (x:Lb):Lib.hasPrefix (decDigits u++x) [45]=false:=by
 cases h:decDigits u with
 | nil=>exact absurd h (ym7 u)
 | cons b t =>
  have hb:yJ b=true:=by
   have:=(yaO u).1
   rw [h,List.all_cons,Bool.and_eq_true] at this
   exact this.1
  have:((45:UInt8)==b)=false:=by rw [beq_eq_false_iff_ne];rintro rfl;revert hb;decide
  simp [Lib.hasPrefix,List.isPrefixOf,this]
theorem yed {n d:Nat} (hd:0<d):uT (decDigits n++(if d=1 then [] else 47::decDigits d))=some (n,d):=by
 have k1:yJ 46=false:=by decide
 have k2:yJ 47=false:=by decide
 have a1:=ya6 (yaO n).1 k1
 have a2:=ya6 (yaO n).1 k2
 have b1:=ya6 (yaO d).1 k1
 unfold uT
 by_cases h:d=1
 ·rw [if_pos h,List.append_nil,ycs a1,ycs a2]
  simp only [Bool.false_eq_true,if_false]
  rw [if_pos (yex n),(yaO n).2,h]
 ·rw [if_neg h,ycs (by simp [a1,b1]),yjf a2]
  simp only [Bool.false_eq_true,if_false,if_true]
  rw [yex n,yex d,(yaO n).2,(yaO d).2]
  have:(d==0)=false:=by rw [beq_eq_false_iff_ne];omega
  simp [this]
theorem ym1 {s:Bool} {n d:Nat} (hd:0<d):yaa (wrote s n d)=some (s,n,d):=by
 unfold yaa wrote
 cases s
 ·simp only [Bool.false_eq_true,if_false,List.nil_append]
  rw [ylY]
  unfold Lib.trimPrefix
  rw [ylY]
  simp only [Bool.false_eq_true,if_false]
  rw [yed hd];rfl
 ·simp only [if_true]
  have h:Lib.hasPrefix ([45]++decDigits n++(if d=1 then [] else 47::decDigits d)) [45]=true:=by simp [Lib.hasPrefix,List.isPrefixOf]
  unfold Lib.trimPrefix
  rw [h]
  simp only [if_true]
  have:([45]++decDigits n++(if d=1 then [] else 47::decDigits d)).drop [(45:UInt8)].length=decDigits n++(if d=1 then [] else 47::decDigits d):=by simp
  rw [this,yed hd];rfl
theorem yrs (s:Bool) (n d:Nat):(wrote s n d).length≤2+nDigits n+nDigits d:=by
 unfold wrote
 rw [List.length_append,List.length_append,decDigits_length]
 split<;>split<;>simp [decDigits_length]<;>omega
theorem yp8 {q:Rat} (h:txt q≠[]):num (txt q)=some q:=by
 have hs:=ysI.1 h
 have e:=ye5 q
 unfold ykH at hs
 rw [if_pos hs] at e
 have hself:=vS q
 have hr:yah (txt q)=some (decide (q.num<0),q.num.natAbs,q.den):=by
  unfold yah
  rw [e]
  have hl:=yrs (decide (q.num<0)) q.num.natAbs q.den
  rw [if_neg (by omega),ym1 q.den_pos]
  have hsg:(decide (q.num<0)&&!(q.num.natAbs==0))=decide (q.num<0):=by
   by_cases h:q.num<0
   ·have:(q.num.natAbs==0)=false:=by rw [beq_eq_false_iff_ne];omega
    simp [h,this]
   ·simp [h]
  simp only [hsg]
  rw [if_pos]
  exact e
 unfold num
 rw [hr,Option.map_some]
 simp only [hself]
theorem yuT:num [48]=some 0:=by
 have h:txt 0=[48]:=by
  rw [ye5]
  have:nDigits (0:Rat).num.natAbs=1:=nDigits_small (by decide)
  have h2:nDigits (0:Rat).den=1:=nDigits_small (by decide)
  rw [if_pos (by omega)]
  unfold wrote
  rw [show decDigits (0:Rat).num.natAbs=[48] from decDigits_one (by decide)]
  rfl
 have:=yp8 (q:=0) (by rw [h];decide)
 rwa [h] at this
/-! Compare -/
def yeW (x y:Lb):Int × Bool :=
 match num x,num y with
 | some a,some b=>(ybO (a-b),true)
 | _,_=>(0,false)
end Go.Proofs.YtgepehlpjpccaaaGreatDoor
namespace Go.Proofs.YtgepehlpjpccaaaGreatDoor
open Go.Lib Big
/-! Convert -/
end Go.Proofs.YtgepehlpjpccaaaGreatDoor
namespace Go.Proofs.YtgepehlpjpccaaaGreatDoor
open Go.Lib Big
end Go.Proofs.YtgepehlpjpccaaaGreatDoor
namespace Go.Proofs.YtgepehlpjpccaaaGreatDoor
open Go.RowKit Go.Lib Big
theorem yyy (x y:Value) (p q:Rat) (K:Nat) (w:World) (hK:2*K+1≤1073741824) (hx:jF w x p K) (hy:jF w y q K):Calls Tryz.prog 134 #[x,y] w (GF (p-q) (2*K+1) w):=by
 obtain ⟨s,a,b,h1,rfl,h3,h4,h5⟩:=hx
 obtain ⟨t,c,d,k1,rfl,k3,k4,k5⟩:=hy
 refine (yw2 x y s t a b c d K w hK h4 h5 k4 k5 h3 k3 h1 k1).mono ?_
 rintro e w' ⟨z,r,n,m,rfl,hz,hb,hm,hv,hn,hm2⟩
 exact ⟨z,rfl,⟨r,n,m,hz,hv,hm,hn,hm2⟩,hb⟩
end Go.Proofs.YtgepehlpjpccaaaGreatDoor
namespace Go.Proofs.YtgepehlpjpccaaaGreatDoor
open Go.RowKit Go.Lib Big
def yaU (c:Int × Bool) (w:World) (e:Ending) (w':World):Prop:=e=.returned (.tuple #[.int .i64 c.1,.bool c.2])∧Be w w'
theorem ykB (x y:ByteArray) (w:World) (hx:Hid (Calls Tryz.prog 130 #[.string x] w (yaQ none w))):Calls Tryz.prog 85 #[.string x,.string y] w (yaU (0,false) w):=by
 go_in
 go_wp2_with fail
 refine hx.out.mono ?_
 rintro e w2 ⟨hb2,b,p,n,c,q,m,d,rfl,-⟩
 have hbw:=yA (hb2.trans ((bea w2 (.cells #[.bool b,.slice p n c,.slice q m d] 98)).mono hb2.size))
 clear hb2
 go_wp2
 go_ret2
 exact ⟨rfl,hbw.out⟩
theorem ykC (x y:ByteArray) (r:Rat) (w:World) (hx:Hid (Calls Tryz.prog 130 #[.string x] w (yaQ (some r) w))) (hy:∀ W,Be w W→Hid (Calls Tryz.prog 130 #[.string y] W (yaQ none W))):Calls Tryz.prog 85 #[.string x,.string y] w (yaU (0,false) w):=by
 go_in
 go_wp2_with fail
 refine hx.out.mono ?_
 rintro e w2 ⟨hb2,b,p,n,c,q,m,d,rfl,-⟩
 have hbw:=yA (hb2.trans ((bea w2 (.cells #[.bool b,.slice p n c,.slice q m d] 98)).mono hb2.size))
 have hy2:=hy _ hbw.out
 clear hb2 hy
 go_wp2_with fail
 refine hy2.out.mono ?_
 rintro e w3 ⟨hb3,b',p',n',c',q',m',d',rfl,-⟩
 have yjB:=yA (tr hbw.out hb3)
 have yhZ:=yA (yjB.out.trans ((bea w3 (.cells #[.bool b',.slice p' n' c',.slice q' m' d'] 98)).mono yjB.out.size))
 clear hb3
 go_wp2
 go_ret2
 exact ⟨rfl,yhZ.out⟩
theorem ypk (x y:ByteArray) (p q:Rat) (w:World) (hx:Hid (Calls Tryz.prog 130 #[.string x] w (yaQ (some p) w))) (hy:∀ W,Be w W→Hid (Calls Tryz.prog 130 #[.string y] W (yaQ (some q) W))):Calls Tryz.prog 85 #[.string x,.string y] w (yaU (ybO (p-q),true) w):=by
 have hop:Hid (∀ W u v,jF W u p 20→jF W v q 20→Calls Tryz.prog 134 #[u,v] W (GF (p-q) 41 W)):=yA fun W u v hu hv=>yyy u v p q 20 W (by omega) hu hv
 have hsg:Hid (∀ W z,jF W z (p-q) 41→Calls Tryz.prog 135 #[z] W (Rp (.int .i64 (ybO (p-q))) W)):=yA fun W z hz=>ypQ z (p-q) 41 W hz
 generalize ybO (p-q)=c at hsg ⊢
 go_in
 go_wp2_with fail
 refine hx.out.mono ?_
 rintro e w2 ⟨hb2,b1,p1,n1,c1,q1,m1,d1,rfl,hr1⟩
 have hbw:=yA (hb2.trans ((bea w2 (.cells #[.bool b1,.slice p1 n1 c1,.slice q1 m1 d1] 98)).mono hb2.size))
 have hR1:=yA ((hr1 _ rfl).below (bea w2 (.cells #[.bool b1,.slice p1 n1 c1,.slice q1 m1 d1] 98)))
 have hb1:=yA (zB w2 (.cells #[.bool b1,.slice p1 n1 c1,.slice q1 m1 d1] 98))
 have hy2:=hy _ hbw.out
 clear hb2 hy hr1
 go_wp2_with fail
 refine hy2.out.mono ?_
 rintro e w3 ⟨hb3,b',p',n',c',q',m',d',rfl,hr3⟩
 have yjB:=yA (tr hbw.out hb3)
 have yhZ:=yA (yjB.out.trans ((bea w3 (.cells #[.bool b',.slice p' n' c',.slice q' m' d'] 98)).mono yjB.out.size))
 have hA:=yA (bea w3 (.cells #[.bool b',.slice p' n' c',.slice q' m' d'] 98))
 have hR3:=yA ((hr3 _ rfl).below hA.out)
 have hR2:=yA ((hR1.out.below hb3).below hA.out)
 have yaV:=(tr hb3 hA.out).block w2.heap.size (by simp)
 have hbx:=yaV.trans hb1.out
 have e0:=zO hbx 0
 have e1:=zO hbx 1
 have e2:=zO hbx 2
 have yr4:=yA (hop.out _ _ _ hR2.out hR3.out)
 clear hb3 hy2 hr3 yaV hbx
 go_wp2_with fail
 refine yr4.out.mono ?_
 rintro e w5 ⟨z,rfl,hz,hb5⟩
 have ynX:=yA (tr yhZ.out hb5)
 have ht5:=yA (hsg.out _ _ hz)
 clear hb5 hz yr4
 go_wp2_with fail
 refine ht5.out.mono ?_
 rintro e w6 ⟨rfl,hb6⟩
 have yjy:=yA (tr ynX.out hb6)
 clear hb6
 go_wp2
 go_ret2
 exact ⟨rfl,yjy.out⟩
theorem yrt (x y:ByteArray) (w:World) (htab:Tab w):Calls Tryz.prog 85 #[.string x,.string y] w (yaU (yeW x.data.toList y.data.toList) w):=by
 have hx:=yeO x w htab
 have hy:=fun W (hb:Be w W)=>yeO y W (htab.below hb)
 unfold yeW
 cases hnx:num x.data.toList with
 | none=>rw [hnx] at hx;exact ykB x y w (yA hx)
 | some p =>
  rw [hnx] at hx
  cases hny:num y.data.toList with
  | none=>rw [hny] at hy;exact ykC x y p w (yA hx) fun W hb=>yA (hy W hb)
  | some q=>rw [hny] at hy;exact ypk x y p q w (yA hx) fun W hb=>yA (hy W hb)
/-! isPositive -/
end Go.Proofs.YtgepehlpjpccaaaGreatDoor
namespace Go.Proofs.YtgepehlpjpccaaaGreatDoor
def yfE (l:Lb) (n j:Nat):Nat→Lb
 | 0=>[]
 | m+1=>yfE l n j m++[l.getD (m*n+j) 0]
def ycw (l:Lb) (n k:Nat):Nat→Lb
 | 0=>[]
 | m+1=>ycw l n k m++yfE l n m k
def yaj (l:Lb) (n:Nat):Lb:=ycw l n (l.length/n) n++l.drop (l.length/n*n)
theorem yaL (l:Lb) (n j:Nat):∀ m,(yfE l n j m).length=m
 | 0=>rfl
 | m+1=>by rw [yfE,List.length_append,yaL l n j m];rfl
theorem jD (l:Lb) (n k:Nat):∀ m,(ycw l n k m).length=m*k
 | 0=>by simp [ycw]
 | m+1=>by rw [ycw,List.length_append,jD l n k m,yaL,Nat.succ_mul]
theorem ylZ (l:Lb) (n j:Nat):∀ m i,i<m→(yfE l n j m).getD i 0=l.getD (i*n+j) 0
 | m+1,i,h=>by
  rw [yfE,List.getD_eq_getElem?_getD]
  by_cases hi:i<m
  ·rw [List.getElem?_append_left (by rw [yaL];exact hi),← List.getD_eq_getElem?_getD,ylZ l n j m i hi]
  ·obtain rfl:i=m:=by omega
   rw [List.getElem?_append_right (by rw [yaL];omega),yaL];simp
theorem yfC (l:Lb) (n k:Nat):∀ m j i,j<m→i<k→(ycw l n k m).getD (j*k+i) 0=l.getD (i*n+j) 0
 | m+1,j,i,hj,hi=>by
  rw [ycw,List.getD_eq_getElem?_getD]
  by_cases h:j<m
  ·have hlt:j*k+i<m*k:=by
    have h1:(j+1)*k≤m*k:=Nat.mul_le_mul_right _ h
    rw [Nat.succ_mul] at h1;omega
   rw [List.getElem?_append_left (by rw [jD];exact hlt),← List.getD_eq_getElem?_getD,yfC l n k m j i h hi]
  ·obtain rfl:j=m:=by omega
   rw [List.getElem?_append_right (by rw [jD];omega),jD,show j*k+i-j*k=i by omega,← List.getD_eq_getElem?_getD,ylZ l n j k i hi]
theorem vN (l:Lb) {n:Nat}:(yaj l n).length=l.length:=by
 unfold yaj
 rw [List.length_append,jD,List.length_drop,Nat.mul_comm n]
 have:=Nat.div_mul_le_self l.length n
 omega
theorem ybm {n k i j:Nat} (hi:i<k) (hj:j<n):i*n+j<k*n:=by
 have h1:(i+1)*n≤k*n:=Nat.mul_le_mul_right _ hi
 rw [Nat.succ_mul] at h1;omega
theorem yjb (l:Lb) {n i j:Nat} (hi:i<l.length/n) (hj:j<n):(yaj l n).getD (j*(l.length/n)+i) 0=l.getD (i*n+j) 0:=by
 unfold yaj
 rw [List.getD_eq_getElem?_getD,List.getElem?_append_left (by rw [jD];exact ybm hj hi),← List.getD_eq_getElem?_getD]
 exact yfC l n _ n j i hj hi
theorem yhA (l:Lb) {n t:Nat} (h:l.length/n*n≤t):(yaj l n).getD t 0=l.getD t 0:=by
 unfold yaj
 rw [List.getD_eq_getElem?_getD,List.getElem?_append_right (by rw [jD,Nat.mul_comm n];exact h),jD,List.getElem?_drop,Nat.mul_comm n,show l.length/n*n+(t-l.length/n*n)=t by omega,← List.getD_eq_getElem?_getD]
theorem yhg {a b:Lb} (h:a.length=b.length) (hg:∀ t,t<a.length→a.getD t 0=b.getD t 0):a=b:=by
 refine List.ext_getElem h fun t h1 h2=>?_
 have:=hg t h1
 simpa [List.getD_eq_getElem?_getD,h1,h2] using this
theorem ya1 {n k t:Nat} (h:t<k*n) (hn:0<n):∃ i j,i<k∧j<n∧t=i*n+j :=
 ⟨t/n,t%n,(Nat.div_lt_iff_lt_mul hn).2 h,Nat.mod_lt _ hn,by rw [Nat.mul_comm];exact (Nat.div_add_mod t n).symm⟩
end Go.Proofs.YtgepehlpjpccaaaGreatDoor
namespace Go.Proofs.YtgepehlpjpccaaaGreatDoor
open Go.RowKit
open Go.Lib
def nb (l:Lb):Nat:=l.foldl (fun x c=>x*256+c.toNat) 0
theorem yp9 (l:Lb) (c:UInt8):nb (l++[c])=nb l*256+c.toNat:=by unfold nb;rw [List.foldl_append];rfl
theorem yw3 (l:Lb):∀ x,l.foldl (fun x (c:UInt8)=>x*256+c.toNat) x<(x+1)*256^l.length:=by
 induction l with
 | nil=>intro x;simp
 | cons c l ih =>
  intro x
  have h:=ih (x*256+c.toNat)
  have h2:=c.toNat_lt
  rw [List.foldl_cons,List.length_cons,Nat.pow_succ]
  refine Nat.lt_of_lt_of_le h ?_
  rw [Nat.mul_comm (256^l.length) 256,← Nat.mul_assoc]
  exact Nat.mul_le_mul_right _ (by omega)
theorem ye8 (l:Lb):nb l<256^l.length:=by
 have:=yw3 l 0
 unfold nb;omega
theorem ygP {l:Lb} (h:l.length≤8):nb l<18446744073709551616 :=
 Nat.lt_of_lt_of_le (ye8 l) (Nat.le_trans (Nat.pow_le_pow_right (by omega) h) (by decide))
theorem ysV {S d:Nat} (hS:S*256+255<18446744073709551616) (hd:(d:Int)≤255):bits .or .u64 (IntKind.u64.wrap ((S:Int)*256)) (d:Int)=((S*256+d:Nat):Int):=by
 have h1:IntKind.u64.wrap ((S:Int)*256)=((S*256:Nat):Int):=by rw [IntKind.wrap_u64];omega
 rw [h1,u64_or_nat _ _ (by omega) (by omega),nat_join 8 (S*256) d (by omega) (by omega)]
theorem yqa {l:Lb} {k:Nat} (hk:k<l.length) (hl:l.length≤8):nb (l.take k)*256+255<18446744073709551616:=by
 have h1:=ye8 (l.take k)
 rw [List.length_take,Nat.min_eq_left (by omega)] at h1
 have h2:256^k≤256^7:=Nat.pow_le_pow_right (by omega) (by omega)
 have h3:(256:Nat)^7=72057594037927936:=by decide
 omega
theorem uN (p:Oa) (c:Nat) (l:Lb) (w:World) (hn:l.length≤8) (hb:Bs w p l) :
  Calls Tryz.prog 197 #[.slice p l.length c] w (Qp (.int .u64 (nb l:Int)) w):=by
 have HB:=h_ hb
 clear hb
 obtain ⟨n,HN⟩:=ey (l.length)
 rw [← HN.out] at hn ⊢
 have hni:(n:Int)≤8:=by omega
 go_in
 go_wp2
 go_loop [3,8] (fun s i=>∃ k S:Nat,k≤n∧i=.int .i64 k∧s=.int .u64 (S:Int)∧Hid (S=nb (l.take k))) (fun _ i=>n-(intOf i).toNat)
 case atStart=>exact ⟨0,0,Nat.zero_le _,rfl,rfl,rfl⟩
 case round =>
  obtain ⟨k,S,hk,rfl,rfl,HS⟩:=hrel
  by_cases hlt:k<n
  ·obtain ⟨b1,o1,d,rfl,hb1,hc1,hd,hd2⟩:=HB.out.at (k:=k) (by rw [← HN.out];exact hlt)
   go_wp2_with fail
   go_round
   case rel=>exact ⟨k+1,S*256+d,by omega,by go_num,by rw [ysV (by rw [HS.out];exact yqa (by rw [← HN.out];exact hlt) (by rw [← HN.out];exact hn)) hd2],h_ (by rw [HS.out,← hd.out,ydF (by rw [← HN.out];exact hlt),yp9])⟩
   case measure=>simp [intOf];omega
  ·obtain rfl:k=n:=by omega
   go_wp2
   go_ret
   refine ⟨?_,rfl⟩
   show Ending.returned (.int .u64 (S:Int))=_
   rw [HS.out,HN.out,List.take_length]
theorem yru (p:Oa) (c:Nat) (l:Lb) (w:World) (hn:l.length≤8) (hb:Bs w p l) :
  Calls Tryz.prog 120 #[.slice p l.length c] w (Qp (.int .u64 (nb l:Int)) w):=by
 have HB:=h_ hb
 clear hb
 obtain ⟨n,HN⟩:=ey (l.length)
 rw [← HN.out] at hn ⊢
 have hni:(n:Int)≤8:=by omega
 go_in
 go_wp2
 go_loop [3,4] (fun s i=>∃ k S:Nat,k≤n∧i=.int .i64 k∧s=.int .u64 (S:Int)∧Hid (S=nb (l.take k))) (fun _ i=>n-(intOf i).toNat)
 case atStart=>exact ⟨0,0,Nat.zero_le _,rfl,rfl,rfl⟩
 case round =>
  obtain ⟨k,S,hk,rfl,rfl,HS⟩:=hrel
  by_cases hlt:k<n
  ·obtain ⟨b1,o1,d,rfl,hb1,hc1,hd,hd2⟩:=HB.out.at (k:=k) (by rw [← HN.out];exact hlt)
   go_wp2_with fail
   go_round
   case rel=>exact ⟨k+1,S*256+d,by omega,by go_num,by rw [ysV (by rw [HS.out];exact yqa (by rw [← HN.out];exact hlt) (by rw [← HN.out];exact hn)) hd2],h_ (by rw [HS.out,← hd.out,ydF (by rw [← HN.out];exact hlt),yp9])⟩
   case measure=>simp [intOf];omega
  ·obtain rfl:k=n:=by omega
   go_wp2
   go_ret
   refine ⟨?_,rfl⟩
   show Ending.returned (.int .u64 (S:Int))=_
   rw [HS.out,HN.out,List.take_length]
theorem yaB {w:World} {b off n:Nat} {l:Lb} (h:Bs w (some ⟨b,off,none⟩) l) (k m:Nat) (hk:k+m≤l.length) (hn:n=off+k):Bs w (some ⟨b,n,none⟩) ((l.drop k).take m):=by
 subst hn
 rcases h with h0|⟨b1,o1,h1,h2,h3⟩
 ·exact .inl (by simp;omega)
 ·cases h1
  refine .inr ⟨b,off+k,rfl,h2,fun j hj=>?_⟩
  have hj2:j<m:=by simp at hj;omega
  rw [Nat.add_assoc,h3 (k+j) (by omega)]
  simp [List.getD_eq_getElem?_getD,hj2]
theorem GZ {w:World} {b off n:Nat} {l:Lb} (h:Bs w (some ⟨b,off,none⟩) l) (k:Nat) (hk:k≤l.length) (hn:n=off+k):Bs w (some ⟨b,n,none⟩) (l.drop k):=by
 have:=yaB h k (l.length-k) (by omega) hn
 rwa [List.take_of_length_le (by simp)] at this
end Go.Proofs.YtgepehlpjpccaaaGreatDoor
namespace Go.Proofs.YtgepehlpjpccaaaGreatDoor
open Go.RowKit
open Go.Lib
def zR (L:Lb) (w:World) (e:Ending) (w':World):Prop:=Be w w'∧∃ v,e=.returned (.tuple #[v,.int .i64 0])∧w'.ownsRow w.heap.size 5 1 v L.length (zG L)
theorem yuU (n:Int) (w:World) (h:n<1∨8<n):Calls Tryz.prog 84 #[.int .i64 n] w (Qp (.bool false) w):=by
 by_cases h1:n<1
 ·have h1':decide (1≤n)=false:=by simp;omega
  clear h
  go_in
  go_wp2
  go_ret
  exact ⟨rfl,rfl⟩
 ·have h2:decide (n≤8)=false:=by simp;omega
  clear h
  go_in
  go_wp2
  go_ret
  exact ⟨rfl,rfl⟩
theorem yqb (n:Nat) (w:World) (h1:1≤n) (h2:n≤8):Calls Tryz.prog 84 #[.int .i64 (n:Int)] w (Qp (.bool true) w):=by
 have h1':decide (1≤(n:Int))=true:=by simp;omega
 have h2':decide ((n:Int)≤8)=true:=by simp;omega
 clear h1 h2
 go_in
 go_wp2
 go_ret
 exact ⟨rfl,rfl⟩
theorem ycv (p:Oa) (k c n:Nat) (w:World) (h1:1≤n) (h2:n≤8) (hk:k≤1048576):Calls Tryz.prog 147 #[.slice p k c,.int .i64 (n:Int)] w (Qp (.int .i64 0) w):=by
 have H:=h_ (yqb n w h1 h2)
 have hk':(k:Int)≤1048576:=by omega
 clear h1 h2 hk
 go_in
 go_wp2_with fail
 refine (H.out).mono ?_
 rintro e w' ⟨rfl,rfl⟩
 go_wp2
 go_ret
 exact ⟨rfl,rfl⟩
end Go.Proofs.YtgepehlpjpccaaaGreatDoor
namespace Go.Proofs.YtgepehlpjpccaaaGreatDoor
open Go.RowKit
open Go.Lib
def yba (s:Lb):Bool:=(yeW s [48]).2&&decide ((0:Int)<(yeW s [48]).1)
def gsB (n:Int):Bool:=decide (1≤n)&&decide (n≤8)
def yde (x:Sg):Bool:=if x.1=1 then decide (x.2.1=0)&&yba x.2.2 else if x.1=2∨x.1=3∨x.1=5 then gsB x.2.1&&decide (x.2.2=[]) else if x.1=4 then decide (x.2.1=0)&&decide (x.2.2=[]) else false
theorem yw4 (n:Int) (w:World):Calls Tryz.prog 84 #[.int .i64 n] w (Qp (.bool (gsB n)) w):=by
 unfold gsB
 by_cases h:n<1∨8<n
 ·have e:(decide (1≤n)&&decide (n≤8))=false:=by
   rw [Bool.and_eq_false_iff,decide_eq_false_iff_not,decide_eq_false_iff_not];omega
  rw [e];exact yuU n w h
 ·have e:(decide (1≤n)&&decide (n≤8))=true:=by
   rw [Bool.and_eq_true,decide_eq_true_eq,decide_eq_true_eq];omega
  obtain ⟨m,rfl⟩:∃ m:Nat,n=m:=⟨n.toNat,by omega⟩
  rw [e];exact yqb m w (by omega) (by omega)
theorem yfD (x:ByteArray) (w:World) (htab:Tab w):Calls Tryz.prog 43 #[.string x] w (Rp (.bool (yba x.data.toList)) w):=by
 have HC:=h_ (yrt x ⟨#[48]⟩ w htab)
 obtain ⟨v,HV⟩:=ez (yba x.data.toList)
 obtain ⟨⟨z,b⟩,HZ⟩:∃ t:Int × Bool,Hid (yeW x.data.toList [48]=t):=⟨_,rfl⟩
 have HC2:Hid (Calls Tryz.prog 85 #[.string x,.string ⟨#[48]⟩] w (yaU (z,b) w)):=h_ (by rw [← HZ.out];exact HC.out)
 have HVZ:Hid ((b&&decide ((0:Int)<z))=v):=h_ (by rw [← HV.out];unfold yba;rw [HZ.out])
 rw [HV.out]
 clear htab HC
 cases b with
 | false =>
  obtain rfl:v=false:=by rw [← HVZ.out];rfl
  go_in
  go_wp2_with fail
  refine (HC2.out).mono ?_
  rintro e w1 ⟨rfl,hb1⟩
  have HB:=h_ hb1
  clear hb1
  go_wp2
  go_ret
  exact ⟨rfl,HB.out⟩
 | true =>
  by_cases hz:(0:Int)<z
  ·obtain rfl:v=true:=by rw [← HVZ.out,decide_eq_true hz];rfl
   go_in
   go_wp2_with fail
   refine (HC2.out).mono ?_
   rintro e w1 ⟨rfl,hb1⟩
   have HB:=h_ hb1
   clear hb1
   go_wp2
   go_ret
   exact ⟨rfl,HB.out⟩
  ·obtain rfl:v=false:=by rw [← HVZ.out,decide_eq_false hz];rfl
   have hzd:decide ((0:Int)<z)=false:=decide_eq_false hz
   clear hz
   go_in
   go_wp2_with fail
   refine (HC2.out).mono ?_
   rintro e w1 ⟨rfl,hb1⟩
   have HB:=h_ hb1
   clear hb1
   go_wp2
   go_ret
   exact ⟨rfl,HB.out⟩
theorem yuV (n:Int) (X:ByteArray) (w:World) (bp:Bool) (hp:∀ W,Be w W→Calls Tryz.prog 43 #[.string X] W fun e w2=>e=.returned (.bool bp)∧Be W w2):Calls Tryz.prog 40 #[.agg #[.int .i64 1,.int .i64 n,.string X]] w (Rp (.bool (decide (n=0)&&bp)) w):=by
 obtain ⟨W1,vI⟩:∃ W1,Hid (w.alloc (.cells #[.int .i64 1,.int .i64 n,.string X] 45)=W1):=⟨_,h_ rfl⟩
 have yX:Hid (Be w W1):=h_ (by rw [← vI.out];exact bR.alloc nl _)
 have HPS:=h_ (hp W1 yX.out)
 clear hp
 by_cases hn:n=0
 ·subst hn
  go_in
  go_wp2_with fail
  try rw [vI.out]
  refine (HPS.out).mono ?_
  rintro e w1 ⟨rfl,hb1⟩
  have HB:=th yX hb1
  clear hb1
  go_wp2
  go_ret
  exact ⟨by simp,HB.out⟩
 ·have hne:(n==0)=false:=by rw [beq_eq_false_iff_ne];exact hn
  rw [decide_eq_false hn,Bool.false_and]
  go_in
  go_wp2
  go_ret
  exact ⟨rfl,by first|exact yX.out|(rw [vI.out];exact yX.out)⟩
theorem yhh (kk:Int) (n:Int) (X:ByteArray) (w:World) (bs:Bool) (hb:X.toList.isEmpty=bs) (hkk:kk=2∨kk=3∨kk=5):Calls Tryz.prog 40 #[.agg #[.int .i64 kk,.int .i64 n,.string X]] w (Rp (.bool (gsB n&&bs)) w):=by
 obtain ⟨W1,vI⟩:∃ W1,Hid (w.alloc (.cells #[.int .i64 kk,.int .i64 n,.string X] 45)=W1):=⟨_,h_ rfl⟩
 rcases hkk with rfl|rfl|rfl
 all_goals
  have yX:Hid (Be w W1):=h_ (by rw [← vI.out];exact bR.alloc nl _)
  have HGS:=h_ (fun W=>yw4 n W)
  obtain ⟨bg,HBG⟩:∃ b,Hid (gsB n=b):=⟨_,rfl⟩
  rw [HBG.out] at HGS ⊢
  cases bg with
  | false =>
   clear hb
   go_in
   go_wp2_with fail
   refine (HGS.out _).mono ?_
   rintro e w' ⟨rfl,rfl⟩
   go_wp2
   go_ret
   exact ⟨rfl,by first|exact yX.out|(rw [vI.out];exact yX.out)⟩
  | true =>
   cases bs with
   | true =>
    have g1:X.toList=[]:=List.isEmpty_iff.1 hb
    clear hb
    go_in
    go_wp2_with fail
    refine (HGS.out _).mono ?_
    rintro e w' ⟨rfl,rfl⟩
    go_wp2
    go_ret
    exact ⟨rfl,by first|exact yX.out|(rw [vI.out];exact yX.out)⟩
   | false =>
    have g2:¬ X.toList=[]:=fun h=>by rw [h] at hb;cases hb
    have g3:(X.toList==[])=false:=by rw [beq_eq_false_iff_ne];exact g2
    go_in
    go_wp2_with fail
    refine (HGS.out _).mono ?_
    rintro e w' ⟨rfl,rfl⟩
    go_wp2
    go_ret
    exact ⟨rfl,by first|exact yX.out|(rw [vI.out];exact yX.out)⟩
theorem yuW (n:Int) (X:ByteArray) (w:World) (bs:Bool) (hb:X.toList.isEmpty=bs):Calls Tryz.prog 40 #[.agg #[.int .i64 4,.int .i64 n,.string X]] w (Rp (.bool (decide (n=0)&&bs)) w):=by
 obtain ⟨W1,vI⟩:∃ W1,Hid (w.alloc (.cells #[.int .i64 4,.int .i64 n,.string X] 45)=W1):=⟨_,h_ rfl⟩
 have yX:Hid (Be w W1):=h_ (by rw [← vI.out];exact bR.alloc nl _)
 by_cases hn:n=0
 ·subst hn
  rw [decide_eq_true rfl,Bool.true_and]
  cases bs with
  | true =>
   have g1:X.toList=[]:=List.isEmpty_iff.1 hb
   clear hb
   go_in
   go_wp2
   go_ret
   exact ⟨rfl,by first|exact yX.out|(rw [vI.out];exact yX.out)⟩
  | false =>
   have g2:¬ X.toList=[]:=fun h=>by rw [h] at hb;cases hb
   have g3:(X.toList==[])=false:=by rw [beq_eq_false_iff_ne];exact g2
   go_in
   go_wp2
   go_ret
   exact ⟨rfl,by first|exact yX.out|(rw [vI.out];exact yX.out)⟩
 ·have hne:(n==0)=false:=by rw [beq_eq_false_iff_ne];exact hn
  rw [decide_eq_false hn,Bool.false_and]
  clear hb
  go_in
  go_wp2
  go_ret
  exact ⟨rfl,by first|exact yX.out|(rw [vI.out];exact yX.out)⟩
theorem yuX (k n:Int) (X:ByteArray) (w:World) (h:k≠1∧k≠2∧k≠3∧k≠4∧k≠5):Calls Tryz.prog 40 #[.agg #[.int .i64 k,.int .i64 n,.string X]] w (Rp (.bool (false)) w):=by
 obtain ⟨W1,vI⟩:∃ W1,Hid (w.alloc (.cells #[.int .i64 k,.int .i64 n,.string X] 45)=W1):=⟨_,h_ rfl⟩
 have yX:Hid (Be w W1):=h_ (by rw [← vI.out];exact bR.alloc nl _)
 obtain ⟨h1,h2,h3,h4,h5⟩:=h
 have e1:(k==1)=false:=by rw [beq_eq_false_iff_ne];exact h1
 have e2:(k==2)=false:=by rw [beq_eq_false_iff_ne];exact h2
 have e3:(k==3)=false:=by rw [beq_eq_false_iff_ne];exact h3
 have e4:(k==4)=false:=by rw [beq_eq_false_iff_ne];exact h4
 have e5:(k==5)=false:=by rw [beq_eq_false_iff_ne];exact h5
 go_in
 go_wp2
 go_ret
 exact ⟨rfl,by first|exact yX.out|(rw [vI.out];exact yX.out)⟩
theorem ypl (k n:Int) (s:Lb) (w:World) (htab:Tab w):Calls Tryz.prog 40 #[.agg #[.int .i64 k,.int .i64 n,.string ⟨s.toArray⟩]] w (Rp (.bool (yde (k,n,s))) w):=by
 have hs:(⟨s.toArray⟩:ByteArray).toList.isEmpty=decide (s=[]):=by
  cases s with
  | nil=>simp
  | cons a r=>simp
 have E1:∀ j:Int,j≠1→¬ (j,n,s).1=1:=fun _ h=>h
 unfold yde
 by_cases h1:k=1
 ·subst h1
  rw [if_pos rfl]
  exact yuV n _ w (yba s) (fun W hW=>yfD ⟨s.toArray⟩ W (htab.below hW))
 by_cases h2:k=2
 ·subst h2;rw [if_neg (E1 2 (by decide)),if_pos (by show (2:Int)=2∨(2:Int)=3∨(2:Int)=5;decide)];exact yhh 2 n _ w _ hs (.inl rfl)
 by_cases h3:k=3
 ·subst h3;rw [if_neg (E1 3 (by decide)),if_pos (by show (3:Int)=2∨(3:Int)=3∨(3:Int)=5;decide)];exact yhh 3 n _ w _ hs (.inr (.inl rfl))
 by_cases h5:k=5
 ·subst h5;rw [if_neg (E1 5 (by decide)),if_pos (by show (5:Int)=2∨(5:Int)=3∨(5:Int)=5;decide)];exact yhh 5 n _ w _ hs (.inr (.inr rfl))
 by_cases h4:k=4
 ·subst h4;rw [if_neg (E1 4 (by decide)),if_neg (by show ¬ ((4:Int)=2∨(4:Int)=3∨(4:Int)=5);decide),if_pos (by show (4:Int)=4;rfl)];exact yuW n _ w _ hs
 rw [if_neg h1,if_neg (by show ¬ (k=2∨k=3∨k=5);omega),if_neg h4]
 exact yuX k n _ w ⟨h1,h2,h3,h4,h5⟩
end Go.Proofs.YtgepehlpjpccaaaGreatDoor
namespace Go.Proofs.YtgepehlpjpccaaaGreatDoor
open Go.RowKit
open Go.Lib
def ybx (l:List Sg) (i:Nat):Bool:=yde (l.getD i (0,0,[]))&&(decide (i=0) || !decide ((l.getD i (0,0,[])).1=1))
def uK (k:Int) (l:List Sg):Bool:=isT k&&decide (l.length≤4)&&(List.range l.length).all (ybx l)
theorem ysW {k:Int} {l:List Sg} {i:Nat} (hi:i<l.length) (h:ybx l i=false):uK k l=false:=by
 unfold uK
 have:(List.range l.length).all (ybx l)=false:=by
  rw [List.all_eq_false]
  exact ⟨i,List.mem_range.2 hi,by rw [h];simp⟩
 rw [this,Bool.and_false]
theorem yqc {k:Int} {l:List Sg} (hk:isT k=true) (hl:l.length≤4) (h:∀ i,i<l.length→ybx l i=true):uK k l=true:=by
 unfold uK
 rw [hk,decide_eq_true hl,Bool.true_and,Bool.true_and,List.all_eq_true]
 exact fun i hi=>h i (List.mem_range.1 hi)
theorem uH {k:Int} {l:List Sg} (h:uK k l=true):isT k=true∧l.length≤4∧∀ i,i<l.length→ybx l i=true:=by
 unfold uK at h
 rw [Bool.and_eq_true,Bool.and_eq_true,decide_eq_true_eq,List.all_eq_true] at h
 exact ⟨h.1.1,h.1.2,fun i hi=>h.2 i (List.mem_range.2 hi)⟩
theorem ybL (k:Int) (p:Oa) (c n:Nat) (l:List Sg) (w:World) (htab:Tab w) (hx:Hid (l.length=n)) (hs:RdG w p l) :
  Calls Tryz.prog 15 #[.int .i64 k,.slice p n c] w (Rp (.bool (uK k l)) w):=by
 have HS:=h_ hs
 have yxz:=h_ htab
 obtain ⟨v,HV⟩:=ez (uK k l)
 have HT:=h_ (fun W=>yeh k W)
 obtain ⟨bt,HBT⟩:=ez (isT k)
 rw [HBT.out] at HT
 rw [HV.out]
 have GU:=h_ (Below.refl w.heap.size w)
 clear hs htab
 cases bt with
 | false =>
  obtain rfl:v=false:=by rw [← HV.out];unfold uK;rw [HBT.out];rfl
  go_in
  go_wp2_with fail
  refine (HT.out _).mono ?_
  rintro e w' ⟨rfl,rfl⟩
  go_wp2
  go_ret
  exact ⟨rfl,GU.out⟩
 | true =>
 by_cases h4:4<n
 ·have h4i:(4:Int)<(n:Int):=by omega
  obtain rfl:v=false:=by
   rw [← HV.out];unfold uK;rw [decide_eq_false (by rw [hx.out];omega),Bool.and_false];rfl
  go_in
  go_wp2_with fail
  refine (HT.out _).mono ?_
  rintro e w' ⟨rfl,rfl⟩
  go_wp2
  go_ret
  exact ⟨rfl,GU.out⟩
 have h4i:¬ (4:Int)<(n:Int):=by omega
 have hni:(n:Int)≤4:=by omega
 have HNO:Hid (∀ i,i<n→ybx l i=false→v=false):=h_ (fun i hi h=>by rw [← HV.out];exact ysW (by rw [hx.out];exact hi) h)
 have yfI:Hid ((∀ i,i<n→ybx l i=true)→v=true):=h_ (fun h=>by rw [← HV.out];exact yqc HBT.out (by rw [hx.out];omega) (fun i hi=>h i (by rw [← hx.out];exact hi)))
 go_in
 go_wp2_with fail
 refine (HT.out _).mono ?_
 rintro e w' ⟨rfl,rfl⟩
 go_wp2
 go_loopw [17] (fun iv wr=>∃ i:Nat,i≤n∧iv=.int .i64 i∧Hid (∀ j,j<i→ybx l j=true)∧Hid (Be w wr)) (fun iv _=>n-(intOf iv).toNat)
 case atStart=>exact ⟨0,Nat.zero_le _,rfl,h_ (fun j hj=>by omega),GU⟩
 case round =>
  obtain ⟨i,hi,rfl,HA,HB⟩:=hrel
  have ii:(i:Int)≤(n:Int):=by omega
  by_cases hlt:i<n
  ·have ilt:(i:Int)<(n:Int):=by omega
   obtain ⟨b1,o1,x,y,z,e1,hb1,hc1,hc2,hc3,hx1⟩:=(HS.out.below HB.out).at (k:=i) (by rw [hx.out];exact hlt)
   subst e1
   obtain ⟨Z,HZ⟩:∃ Z:ByteArray,Hid (⟨z.toArray⟩=Z):=⟨_,rfl⟩
   rw [HZ.out] at hc3
   obtain ⟨W1,vI⟩:∃ W1,Hid (wr.alloc (.cells #[.int .i64 x,.int .i64 y,.string Z] 45)=W1):=⟨_,h_ rfl⟩
   have yX:Hid (Be wr W1):=h_ (by rw [← vI.out];exact bR.alloc nl _)
   have yh3:Hid (Be w W1):=h_ (tr HB.out yX.out)
   obtain ⟨u,HU⟩:=ez (yde (x,y,z))
   have HVS:Hid (Calls Tryz.prog 40 #[.agg #[.int .i64 x,.int .i64 y,.string Z]] W1 (Rp (.bool u) W1)):=h_ (by
    have h:=ypl x y z W1 (yxz.out.below yh3.out)
    rwa [HZ.out,HU.out] at h)
   have yaV:Hid (W1.heap[wr.heap.size]?=some (.cells #[.int .i64 x,.int .i64 y,.string Z] 45 (0,0))):=h_ (by rw [← vI.out];exact World.alloc_heap_new wr _)
   have hq0:W1.cell? ⟨wr.heap.size,0,none⟩=some (.int .i64 x):=by simp [World.cell?,yaV.out]
   have hq1:W1.cell? ⟨wr.heap.size,1,none⟩=some (.int .i64 y):=by simp [World.cell?,yaV.out]
   have hq2:W1.cell? ⟨wr.heap.size,2,none⟩=some (.string Z):=by simp [World.cell?,yaV.out]
   have HPL:Hid (ybx l i=(u&&(decide (i=0) || !decide (x=1)))):=h_ (by unfold ybx;rw [hx1.out,HU.out])
   cases u with
   | false =>
    obtain rfl:v=false:=HNO.out i hlt (by rw [HPL.out];rfl)
    go_wp2_with fail
    rw [vI.out]
    go_wp2_with fail
    refine (HVS.out).mono ?_
    rintro e w3 ⟨rfl,hb3⟩
    have HB3:Hid (Be w w3):=th yh3 hb3
    clear hb3
    go_wp2
    go_ret
    exact ⟨rfl,HB3.out⟩
   | true =>
    by_cases h1:x=1
    ·by_cases h0:i=0
     ·have hst:Hid (∀ j,j<i+1→ybx l j=true):=h_ (fun j hj=>by
       by_cases e:j=i
       ·rw [e,HPL.out,decide_eq_true h0];rfl
       ·exact HA.out j (by omega))
      subst h1
      have hi0:¬ (0:Int)<(i:Int):=by omega
      have hi0d:decide ((0:Int)<(i:Int))=false:=decide_eq_false hi0
      clear h0
      go_wp2_with fail
      rw [vI.out]
      go_wp2_with fail
      refine (HVS.out).mono ?_
      rintro e w3 ⟨rfl,hb3⟩
      have hg0:=(hb3.cell (p:=⟨wr.heap.size,0,none⟩) (by have:=Array.getElem?_eq_some_iff.1 yaV.out;exact this.1)).trans hq0
      have HB3:Hid (Be w w3):=th yh3 hb3
      clear hb3
      go_wp2
      go_roundw
      case rel=>exact ⟨i+1,by omega,by go_num,hst,HB3⟩
      case measure=>simp [intOf];omega
     ·obtain rfl:v=false:=HNO.out i hlt (by rw [HPL.out,decide_eq_false h0,decide_eq_true h1];rfl)
      subst h1
      have hi0:(0:Int)<(i:Int):=by omega
      go_wp2_with fail
      rw [vI.out]
      go_wp2_with fail
      refine (HVS.out).mono ?_
      rintro e w3 ⟨rfl,hb3⟩
      have hg0:=(hb3.cell (p:=⟨wr.heap.size,0,none⟩) (by have:=Array.getElem?_eq_some_iff.1 yaV.out;exact this.1)).trans hq0
      have HB3:Hid (Be w w3):=th yh3 hb3
      clear hb3
      go_wp2
      go_ret
      exact ⟨rfl,HB3.out⟩
    ·have hst:Hid (∀ j,j<i+1→ybx l j=true):=h_ (fun j hj=>by
      by_cases e:j=i
      ·rw [e,HPL.out,decide_eq_false h1];simp
      ·exact HA.out j (by omega))
     have hx1b:(x==1)=false:=by rw [beq_eq_false_iff_ne];exact h1
     clear h1
     go_wp2_with fail
     rw [vI.out]
     go_wp2_with fail
     refine (HVS.out).mono ?_
     rintro e w3 ⟨rfl,hb3⟩
     have hg0:=(hb3.cell (p:=⟨wr.heap.size,0,none⟩) (by have:=Array.getElem?_eq_some_iff.1 yaV.out;exact this.1)).trans hq0
     have HB3:Hid (Be w w3):=th yh3 hb3
     clear hb3
     go_wp2
     go_roundw
     case rel=>exact ⟨i+1,by omega,by go_num,hst,HB3⟩
     case measure=>simp [intOf];omega
  ·obtain rfl:i=n:=by omega
   have ilt:¬ (i:Int)<(i:Int):=by omega
   obtain rfl:v=true:=yfI.out HA.out
   go_wp2
   go_ret
   exact ⟨rfl,HB.out⟩
end Go.Proofs.YtgepehlpjpccaaaGreatDoor
namespace Go.Proofs.YtgepehlpjpccaaaGreatDoor
open Go.RowKit
open Go.Lib
def ycc (xs:List Lb) (s:Lb):List Lb:=xs.map fun x=>uW x s
def zN (k:Int) (s x:Lb):Bool:=(!decide (x=[])&&decide (uW x s=[])) || !zK k (uW x s)
theorem yjY {xs:List Lb} {s:Lb} {i:Nat} (h:i<xs.length):(ycc xs s).getD i []=uW (xs.getD i []) s:=by
 unfold ycc
 rw [List.getD_eq_getElem?_getD,List.getElem?_map,List.getD_eq_getElem?_getD,List.getElem?_eq_getElem h];rfl
theorem yeR (xs:List Lb) (s:Lb):(ycc xs s).length=xs.length:=List.length_map _
structure RnI (w:World) (V n i:Nat) (ys:List Lb) (W:World):Prop where
 below:Be w W
 hV:w.heap.size≤V
 vals:ybN W V n i ys
theorem RnI.lt {w W:World} {V n i:Nat} {ys:List Lb} (h:RnI w V n i ys W):V<W.heap.size:=by
 obtain ⟨cs,h1,-⟩:=h.vals
 exact (Array.getElem?_eq_some_iff.1 h1).1
theorem RnI.call {w W W':World} {V n i:Nat} {ys:List Lb} (h:RnI w V n i ys W) (hb:Be W W'):RnI w V n i ys W' :=
 ⟨tr h.below hb,h.hV,h.vals.keep (hb.block V h.lt)⟩
theorem RnI.put {w W:World} {V n i:Nat} {ys:List Lb} (h:RnI w V n i ys W) (hi:i<n):RnI w V n (i+1) ys (W.setCell ⟨V,i,none⟩ (.string ⟨(ys.getD i []).toArray⟩)) :=
 ⟨h.below.setCell (p:=⟨V,i,none⟩) h.hV _,h.hV,h.vals.put hi⟩
theorem RnI.cell {w W:World} {V n i j:Nat} {ys:List Lb} (h:RnI w V n i ys W) (hj:j<i) (hi:i≤n):W.cell? ⟨V,j,none⟩=some (.string ⟨(ys.getD j []).toArray⟩):=by
 obtain ⟨cs,h1,h2,h3⟩:=h.vals
 have h4:=h3 j (by omega)
 rw [if_pos hj] at h4
 simp [World.cell?,h1,h4]
theorem ym2 (k:Int) (p:Oa) (c n:Nat) (xs:List Lb) (s:ByteArray) (w:World) (hx:Hid (xs.length=n)) (hn:n≤4096) (hs:Ss w p xs) (he:Env w) (z:Int) (hz:z≠0) (HZ:Hid ((if yba s.data.toList=false then 2 else vH k xs)=z)) :
  Calls Tryz.prog 18 #[.int .i64 k,.slice p n c,.string s] w (Rp (.tuple #[.slice none 0 0,.int .i64 z]) w):=by
 have HS:=h_ hs
 have HE:=h_ he
 have HP:=h_ (yfD s w he.tab)
 obtain ⟨bp,HBP⟩:∃ b,Hid (yba s.data.toList=b):=⟨_,rfl⟩
 rw [HBP.out] at HP HZ
 clear hs he
 cases bp with
 | false =>
  have e:=HZ.out
  rw [if_pos rfl] at e
  subst e
  go_in
  go_wp2_with fail
  refine (HP.out).mono ?_
  rintro e w1 ⟨rfl,hb1⟩
  have HB:=h_ hb1
  clear hb1
  go_wp2
  go_ret2
  exact ⟨rfl,HB.out⟩
 | true =>
  have e:=HZ.out
  rw [if_neg (by decide)] at e
  have HC:Hid (∀ W,Be w W→Calls Tryz.prog 44 #[.int .i64 k,.slice p n c] W (Rp (.int .i64 z) W)):=h_ (fun W hW=>by
   have h:=ycQ k p c n xs W hx hn (HS.out.below hW) (HE.out.below hW)
   rwa [e] at h)
  have gz:(z != 0)=true:=by rw [bne_iff_ne];exact hz
  clear e hz
  go_in
  go_wp2_with fail
  refine (HP.out).mono ?_
  rintro e w1 ⟨rfl,hb1⟩
  have HB:=h_ hb1
  clear hb1
  go_wp2_with fail
  refine (HC.out _ HB.out).mono ?_
  rintro e w2 ⟨rfl,hb2⟩
  have jQ:=th HB hb2
  clear hb2
  go_wp2
  go_ret2
  exact ⟨rfl,jQ.out⟩
def yeB (k:Int) (xs:List Lb) (s:Lb) (n:Nat) (w:World) (e:Ending) (w':World):Prop :=
 Be w w'∧((xs.any (zN k s)=true∧e=.returned (.tuple #[.slice none 0 0,.int .i64 41]))∨(xs.any (zN k s)=false∧∃ q,e=.returned (.tuple #[.slice q n n,.int .i64 0])∧Ss w' q (ycc xs s)))
theorem yhB (k:Int) (p:Oa) (c n:Nat) (xs:List Lb) (s:ByteArray) (w:World) (hx:Hid (xs.length=n)) (hn:n≤4096) (hs:Ss w p xs) (he:Env w) (HPO:Hid (yba s.data.toList=true)) (HCK:Hid (vH k xs=0)) :
  Calls Tryz.prog 18 #[.int .i64 k,.slice p n c,.string s] w (yeB k xs s.data.toList n w):=by
 have HS:=h_ hs
 have HE:=h_ he
 have HP:=h_ (yfD s w he.tab)
 rw [HPO.out] at HP
 have HC:Hid (∀ W,Be w W→Calls Tryz.prog 44 #[.int .i64 k,.slice p n c] W (Rp (.int .i64 0) W)):=h_ (fun W hW=>by
  have h:=ycQ k p c n xs W hx hn (HS.out.below hW) (HE.out.below hW)
  rwa [HCK.out] at h)
 obtain ⟨st,HST⟩:=ez (s.data.toList)
 rw [HST.out]
 obtain ⟨ys,HYS⟩:=ez (ycc xs st)
 have HYL:Hid (ys.length=n):=h_ (by rw [← HYS.out,yeR,hx.out])
 obtain ⟨Z,HZ,HMK⟩:=yi2 n (by omega)
 have HZ2:=h_ HZ
 have HMK2:=h_ HMK
 have hni:(n:Int)≤4096:=by omega
 clear hs he HZ HMK
 go_in
 go_wp2_with fail
 refine (HP.out).mono ?_
 rintro e w1 ⟨rfl,hb1⟩
 have HB:=h_ hb1
 clear hb1
 go_wp2_with fail
 refine (HC.out _ HB.out).mono ?_
 rintro e w2 ⟨rfl,hb2⟩
 have jQ:=th HB hb2
 have hmk:=HMK2.out w2
 clear hb2
 go_wp2_with fail
 obtain ⟨V,HV⟩:=ez (w2.heap.size)
 obtain ⟨W3,HW3⟩:∃ W3,Hid (w2.alloc (.cells Z 9)=W3):=⟨_,h_ rfl⟩
 rw [HW3.out,HV.out]
 have HI0:Hid (RnI w V n 0 ys W3):=h_ (by
  refine ⟨?_,by rw [← HV.out];exact jQ.out.size,Z,by rw [← HW3.out,← HV.out];exact World.alloc_heap_new w2 _,HZ2.out.1,fun j hj=>by rw [if_neg (by omega)];exact HZ2.out.2 j hj⟩
  rw [← HW3.out]
  exact jQ.out.alloc jQ.out.size _)
 clear hmk
 go_loopw [26] (fun iv wr=>∃ i:Nat,i≤n∧iv=.int .i64 i∧Hid (RnI w V n i ys wr)∧Hid (∀ j,j<i→zN k st (xs.getD j [])=false)) (fun iv _=>n-(intOf iv).toNat)
 case atStart=>exact ⟨0,Nat.zero_le _,rfl,HI0,h_ (fun j hj=>by omega)⟩
 case round =>
  obtain ⟨i,hi,rfl,HI,HA⟩:=hrel
  have ii:(i:Int)≤(n:Int):=by omega
  by_cases hlt:i<n
  ·have ilt:(i:Int)<(n:Int):=by omega
   have hil:i<xs.length:=by rw [hx.out];exact hlt
   obtain ⟨b1,o1,x,e1,hb1,hc1,hxx⟩:=(HS.out.below HI.out.below).at (k:=i) hil
   subst e1
   obtain ⟨u,HU⟩:=ez (uW x st)
   have HYI:Hid (ys.getD i []=u):=h_ (by rw [← HYS.out,yjY hil,hxx.out,HU.out])
   obtain ⟨X,HX⟩:∃ X:ByteArray,Hid (⟨x.toArray⟩=X):=⟨_,rfl⟩
   obtain ⟨U,HUU⟩:∃ U:ByteArray,Hid (⟨u.toArray⟩=U):=⟨_,rfl⟩
   rw [HX.out] at hc1
   have HRD:Hid (Calls Tryz.prog 45 #[.string X,.string s] wr (Rp (.string U) wr)):=h_ (by
    have h:=yo5 X s wr (HE.out.below HI.out.below).tab
    unfold yas at h
    have e:uW X.data.toList s.data.toList=u:=by rw [← HX.out,HST.out];exact HU.out
    rwa [e,HUU.out] at h)
   obtain ⟨f,HF⟩:=ez (zK k u)
   have HFT:Hid (∀ W,Be w W→Calls Tryz.prog 46 #[.int .i64 k,.string U] W (Rp (.bool f) W)):=h_ (fun W hW=>by
    have h:=yel k u W (HE.out.below hW)
    rwa [HUU.out,HF.out] at h)
   have hXe:x=[]→X.toList=[]:=fun h=>by rw [← HX.out,h];simp
   have hUe:u=[]→U.toList=[]:=fun h=>by rw [← HUU.out,h];simp
   have hXn:x≠[]→¬ X.toList=[]:=fun h e=>h (by rw [← HX.out] at e;simpa using e)
   have hUn:u≠[]→¬ U.toList=[]:=fun h e=>h (by rw [← HUU.out] at e;simpa using e)
   have HXE:=h_ hXe
   have HUE:=h_ hUe
   have HXN:=h_ hXn
   have HUN:=h_ hUn
   have HBD:Hid (zN k st (xs.getD i [])=((!decide (x=[])&&decide (u=[])) || !f)):=h_ (by unfold zN;rw [hxx.out,HU.out,HF.out])
   have ynG:Hid (zN k st (xs.getD i [])=true→xs.any (zN k st)=true):=h_ (fun h=>List.any_eq_true.2 ⟨_,by rw [gD hil];exact List.getElem_mem hil,h⟩)
   have hclos:∀ w5,Be wr w5→(w5.cell? ⟨V,i,none⟩=some (.string ⟨#[]⟩)∧w5.frozen? ⟨V,i,none⟩=false)∧RnI w V n (i+1) ys (w5.setCell ⟨V,i,none⟩ (.string U)):=fun w5 hb5=>by
    have h5:=HI.out.call hb5
    have h6:=h5.put hlt
    rw [HYI.out,HUU.out] at h6
    exact ⟨h5.vals.old hlt,h6⟩
   have HCL:=h_ hclos
   have hUI:∀ W,RnI w V n (i+1) ys W→W.cell? ⟨V,i,none⟩=some (.string U):=fun W hW=>by
    have h:=hW.cell (Nat.lt_succ_self i) hlt
    rwa [HYI.out,HUU.out] at h
   have HUI:=h_ hUI
   clear hb1 hXe hUe hXn hUn hclos hUI hil
   by_cases hxe:x=[]
   ·have g1:=HXE.out hxe
    cases f with
    | true =>
     have HA2:Hid (∀ j,j<i+1→zN k st (xs.getD j [])=false):=h_ (fun j hj=>by
      by_cases e:j=i
      ·rw [e,HBD.out,decide_eq_true hxe];rfl
      ·exact HA.out j (by omega))
     clear hxe
     go_wp2_with fail
     refine (HRD.out).mono ?_
     rintro e w5 ⟨rfl,hb5⟩
     obtain ⟨⟨gc,gf⟩,hn6⟩:=HCL.out w5 hb5
     obtain ⟨W6,HW6⟩:=ez (w5.setCell ⟨V,i,none⟩ (.string U))
     rw [HW6.out] at hn6
     have HN6:=h_ hn6
     have hu6:=HUI.out _ hn6
     clear hb5 hn6
     go_wp2_with fail
     rw [HW6.out]
     go_wp2_with fail
     refine (HFT.out _ HN6.out.below).mono ?_
     rintro e w7 ⟨rfl,hb7⟩
     have HN7:=h_ (HN6.out.call hb7)
     clear hb7 hu6 gc gf
     go_wp2
     go_roundw
     case rel=>exact ⟨i+1,by omega,by go_num,HN7,HA2⟩
     case measure=>simp [intOf];omega
    | false =>
     have yhV:Hid (xs.any (zN k st)=true):=h_ (ynG.out (by rw [HBD.out];simp))
     clear hxe
     go_wp2_with fail
     refine (HRD.out).mono ?_
     rintro e w5 ⟨rfl,hb5⟩
     obtain ⟨⟨gc,gf⟩,hn6⟩:=HCL.out w5 hb5
     obtain ⟨W6,HW6⟩:=ez (w5.setCell ⟨V,i,none⟩ (.string U))
     rw [HW6.out] at hn6
     have HN6:=h_ hn6
     have hu6:=HUI.out _ hn6
     clear hb5 hn6
     go_wp2_with fail
     rw [HW6.out]
     go_wp2_with fail
     refine (HFT.out _ HN6.out.below).mono ?_
     rintro e w7 ⟨rfl,hb7⟩
     have HN7:=h_ (HN6.out.call hb7)
     have GB:Hid (yeB k xs st n w (.returned (.tuple #[.slice none 0 0,.int .i64 41])) w7):=h_ ⟨HN7.out.below,.inl ⟨yhV.out,rfl⟩⟩
     clear hb7 hu6 gc gf
     go_wp2
     go_ret2
     exact GB.out
   ·have g1:=HXN.out hxe
    have g1b:(X.toList==[])=false:=by rw [beq_eq_false_iff_ne];exact g1
    have g1c:X.toList.isEmpty=false:=by
     cases h:X.toList with
     | nil=>exact absurd h g1
     | cons=>rfl
    by_cases hue:u=[]
    ·have g2:=HUE.out hue
     have yhV:Hid (xs.any (zN k st)=true):=h_ (ynG.out (by rw [HBD.out,decide_eq_false hxe,decide_eq_true hue];rfl))
     clear hxe hue
     go_wp2_with fail
     refine (HRD.out).mono ?_
     rintro e w5 ⟨rfl,hb5⟩
     obtain ⟨⟨gc,gf⟩,hn6⟩:=HCL.out w5 hb5
     obtain ⟨W6,HW6⟩:=ez (w5.setCell ⟨V,i,none⟩ (.string U))
     rw [HW6.out] at hn6
     have HN6:=h_ hn6
     have hu6:=HUI.out _ hn6
     have GB:Hid (yeB k xs st n w (.returned (.tuple #[.slice none 0 0,.int .i64 41])) W6):=h_ ⟨HN6.out.below,.inl ⟨yhV.out,rfl⟩⟩
     clear hb5 hn6
     go_wp2_with fail
     rw [HW6.out]
     go_wp2
     go_ret2
     exact GB.out
    ·have g2:=HUN.out hue
     have g2b:(U.toList==[])=false:=by rw [beq_eq_false_iff_ne];exact g2
     have g2c:U.toList.isEmpty=false:=by
      cases h:U.toList with
      | nil=>exact absurd h g2
      | cons=>rfl
     cases f with
     | true =>
      have HA2:Hid (∀ j,j<i+1→zN k st (xs.getD j [])=false):=h_ (fun j hj=>by
       by_cases e:j=i
       ·rw [e,HBD.out,decide_eq_false hue];simp
       ·exact HA.out j (by omega))
      clear hxe hue
      go_wp2_with fail
      refine (HRD.out).mono ?_
      rintro e w5 ⟨rfl,hb5⟩
      obtain ⟨⟨gc,gf⟩,hn6⟩:=HCL.out w5 hb5
      obtain ⟨W6,HW6⟩:=ez (w5.setCell ⟨V,i,none⟩ (.string U))
      rw [HW6.out] at hn6
      have HN6:=h_ hn6
      have hu6:=HUI.out _ hn6
      clear hb5 hn6
      go_wp2_with fail
      rw [HW6.out]
      go_wp2_with fail
      refine (HFT.out _ HN6.out.below).mono ?_
      rintro e w7 ⟨rfl,hb7⟩
      have HN7:=h_ (HN6.out.call hb7)
      clear hb7 hu6 gc gf
      go_wp2
      go_roundw
      case rel=>exact ⟨i+1,by omega,by go_num,HN7,HA2⟩
      case measure=>simp [intOf];omega
     | false =>
      have yhV:Hid (xs.any (zN k st)=true):=h_ (ynG.out (by rw [HBD.out];simp))
      clear hxe hue
      go_wp2_with fail
      refine (HRD.out).mono ?_
      rintro e w5 ⟨rfl,hb5⟩
      obtain ⟨⟨gc,gf⟩,hn6⟩:=HCL.out w5 hb5
      obtain ⟨W6,HW6⟩:=ez (w5.setCell ⟨V,i,none⟩ (.string U))
      rw [HW6.out] at hn6
      have HN6:=h_ hn6
      have hu6:=HUI.out _ hn6
      clear hb5 hn6
      go_wp2_with fail
      rw [HW6.out]
      go_wp2_with fail
      refine (HFT.out _ HN6.out.below).mono ?_
      rintro e w7 ⟨rfl,hb7⟩
      have HN7:=h_ (HN6.out.call hb7)
      have GB:Hid (yeB k xs st n w (.returned (.tuple #[.slice none 0 0,.int .i64 41])) w7):=h_ ⟨HN7.out.below,.inl ⟨yhV.out,rfl⟩⟩
      clear hb7 hu6 gc gf
      go_wp2
      go_ret2
      exact GB.out
  ·obtain rfl:i=n:=by omega
   have ilt:¬ (i:Int)<(i:Int):=by omega
   have ysh:Hid (xs.any (zN k st)=false):=h_ (by
    rw [List.any_eq_false]
    intro x hx2
    obtain ⟨j,hj,rfl⟩:=List.getElem_of_mem hx2
    have:=HA.out j (by rw [← hx.out];exact hj)
    rw [gD hj] at this
    simpa using this)
   have GB:Hid (yeB k xs st i w (.returned (.tuple #[.slice (some ⟨V,0,none⟩) i i,.int .i64 0])) wr):=h_ ⟨HI.out.below,.inr ⟨ysh.out,_,rfl,by rw [HYS.out];exact HI.out.vals.reads HYL.out⟩⟩
   go_wp2
   go_ret2
   exact GB.out
end Go.Proofs.YtgepehlpjpccaaaGreatDoor
