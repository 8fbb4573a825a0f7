/- Contracts. -/
import Derived.Test.YtfjnipkpfbkegaaGreatDoorPart09
set_option maxHeartbeats 3200000
set_option maxRecDepth 100000
namespace Go.Proofs.YtfjnipkpfbkegaaGreatDoor
section
open Go.Lib Big
structure UnitT where
 f:List UInt8
 o:List UInt8
 ps:List Int
 deriving DecidableEq
def vZ:UnitT:=⟨[],[],[0,0,0,0,0,0,0]⟩
def zP (n:Int):Bool:=decide (-12≤n)&&decide (n≤12)
def uP (ps:List Int):Bool:=ps.all zP
def yiD (x:List UInt8):Bool:=match num x with
 | some q=>decide (0<q)
 | none=>false
def ydH (u:UnitT):Bool:=yiD u.f&&((num u.o).isSome&&uP u.ps)
def mkT (q:Rat) (ps:List Int):UnitT × Int:=if uB q=[]∨uP ps=false then (vZ,4) else (⟨uB q,[48],ps⟩,0)
def yiE (x:List UInt8):Rat:=(num x).getD 0
theorem yrV {q:Rat} {ps:List Int} (h1:uB q≠[]) (h2:uP ps=true):mkT q ps=(⟨uB q,[48],ps⟩,0):=by
 unfold mkT
 rw [if_neg]
 rintro (h|h)
 ·exact h1 h
 ·rw [h2] at h;cases h
def GI (b:UInt8):Bool:=(97≤b.toNat&&b.toNat≤122) || (65≤b.toNat&&b.toNat≤90)
def yF (l:List UInt8):Nat:=(l.takeWhile yG).length
def zG (l:List UInt8):Nat:=(l.takeWhile GI).length
structure FacT where
 v:Rat
 ps:List Int
 e:Int
def jG:List Int:=[0,0,0,0,0,0,0]
def yas (w:List UInt8):Option (List UInt8 × List Int × Bool) :=
 if w==[109] then some ([49],[1,0,0,0,0,0,0],true)
 else if w==[103] then some ([49,47,49,48,48,48],[0,1,0,0,0,0,0],true)
 else if w==[115] then some ([49],[0,0,1,0,0,0,0],true)
 else if w==[75] then some ([49],[0,0,0,1,0,0,0],true)
 else if w==[109,111,108] then some ([49],[0,0,0,0,1,0,0],true)
 else if w==[65] then some ([49],[0,0,0,0,0,1,0],true)
 else if w==[99,100] then some ([49],[0,0,0,0,0,0,1],true)
 else if w==[109,105,110] then some ([54,48],[0,0,1,0,0,0,0],false)
 else if w==[104] then some ([51,54,48,48],[0,0,1,0,0,0,0],false)
 else if w==[100] then some ([56,54,52,48,48],[0,0,1,0,0,0,0],false)
 else if w==[116] then some ([49,48,48,48],[0,1,0,0,0,0,0],true)
 else if w==[76] then some ([49,47,49,48,48,48],[3,0,0,0,0,0,0],true)
 else if w==[72,122] then some ([49],[0,0,-1,0,0,0,0],true)
 else if w==[78] then some ([49],[1,1,-2,0,0,0,0],true)
 else if w==[80,97] then some ([49],[-1,1,-2,0,0,0,0],true)
 else if w==[74] then some ([49],[2,1,-2,0,0,0,0],true)
 else if w==[87] then some ([49],[2,1,-3,0,0,0,0],true)
 else if w==[98,97,114] then some ([49,48,48,48,48,48],[-1,1,-2,0,0,0,0],true)
 else none
def jD (c:UInt8):List UInt8 :=
 if c==110 then [49,47,49,48,48,48,48,48,48,48,48,48]
 else if c==117 then [49,47,49,48,48,48,48,48,48]
 else if c==109 then [49,47,49,48,48,48]
 else if c==99 then [49,47,49,48,48]
 else if c==100 then [49,47,49,48]
 else if c==104 then [49,48,48]
 else if c==107 then [49,48,48,48]
 else if c==77 then [49,48,48,48,48,48,48]
 else if c==71 then [49,48,48,48,48,48,48,48,48,48]
 else []
def yO (l:List UInt8):Rat:=match jL l with
 | some (s,n,d)=>zD s n d
 | none=>0
def uX (w:List UInt8):Option (Rat × List Int) :=
 match yas w with
 | some (v,ps,_)=>some (yO v,ps)
 | none=>match w with
  | []=>none
  | c::t=>match yas t with
   | some (v,ps,true)=>if jD c=[] then none else some (yO (jD c)*yO v,ps)
   | _=>none
def vG (ds:List UInt8):Int:=ds.foldl (fun (e:Int) c=>if e≤12 then e*10+((c.toNat:Int)-48) else e) 0
def uA (l:List UInt8):Int × Nat :=
 match l with
 | 45::t=>if yF t=0 then (0,0) else (-vG (t.take (yF t)),1+yF t)
 | _=>if yF l=0 then (0,0) else (vG (l.take (yF l)),yF l)
def uJ (l:List UInt8):List UInt8 × Int :=
 if 1000<l.length then ([],4) else
 match jL l with
 | some (s,n,d)=>if uB (zD s n d)=[] then ([],4) else (uB (zD s n d),0)
 | none=>([],1)
def vH (l:List UInt8):Nat :=
 match l.drop (yF l) with
 | c::t=>if (c==46 || c==47)&&decide (0<yF t) then yF l+1+yF t else yF l
 | []=>yF l
def GF (l:List UInt8):Option (FacT × Nat) :=
 if (uJ (l.take (vH l))).2=0∧(uJ (l.take (vH l))).1≠[48] then some (⟨yO (uJ (l.take (vH l))).1,jG,1⟩,vH l) else none
def GG (l:List UInt8):Option (FacT × Nat) :=
 match uX (l.take (zG l)) with
 | none=>none
 | some (v,ps)=>match l.drop (zG l) with
  | 94::t=>if (uA t).2=0 then none else some (⟨v,ps,(uA t).1⟩,zG l+1+(uA t).2)
  | _=>some (⟨v,ps,1⟩,zG l)
def jK (l:List UInt8):Option (FacT × Nat):=if 0<yF l then GF l else GG l
def zL (l:List UInt8) (dir:Int) (acc:List FacT):Nat→Option (List FacT)
 | 0=>none
 | fuel+1=>match jK l with
  | none=>none
  | some (f,n)=>if n=l.length then some (acc++[{ f with e:=f.e*dir }]) else
   match l.drop n with
   | 32::t=>zL t 1 (acc++[{ f with e:=f.e*dir }]) fuel
   | 47::t=>zL t (-1) (acc++[{ f with e:=f.e*dir }]) fuel
   | _=>none
def yac (v:Rat) (ps:List Int):List FacT→UnitT × Int
 | []=>mkT v ps
 | f::l=>if zP f.e then yac (v*f.v^f.e) (List.zipWith (fun p r=>p+r*f.e) ps f.ps) l else (vZ,4)
def yhe:List Int:=[0,0,0,1,0,0,0]
def yad (l:List UInt8):UnitT × Int :=
 if 1000<l.length then (vZ,4)
 else if l==[100,101,103,67] then (⟨[49],[53,52,54,51,47,50,48],yhe⟩,0)
 else if l==[100,101,103,70] then (⟨[53,47,57],[52,53,57,54,55,47,49,56,48],yhe⟩,0)
 else match zL l 1 [] (l.length+1) with
  | none=>(vZ,10)
  | some fs=>if 12<fs.length then (vZ,4) else yac 1 jG fs
theorem zC {l:List UInt8} {n d:Nat} (h:jL l=some (false,n,d)):yO l=(n:Rat)/(d:Rat):=by
 unfold yO;rw [h];rfl
theorem yjO:zL [107,109,47,104] 1 [] 5=some [⟨yO [49,48,48,48]*yO [49],[1,0,0,0,0,0,0],1⟩,⟨yO [51,54,48,48],[0,0,1,0,0,0,0],-1⟩]:=by
 rfl
theorem yjb:uB ((5:Rat)/18)=[53,47,49,56]:=by
 have e:(5:Rat)/18=mkRat 5 18:=by rw [Rat.mkRat_eq_div];rfl
 have hn:((5:Rat)/18).num=5:=by rw [e,Rat.num_mkRat];decide
 have hd:((5:Rat)/18).den=18:=by rw [e,Rat.den_mkRat];decide
 rw [ycf,hn,hd]
 have h1:nDigits (5:Int).natAbs=1:=nDigits_small (by decide)
 have h2:nDigits 18=2:=by rw [nDigits_big (by decide),nDigits_small (by decide)]
 rw [if_pos (by omega)]
 unfold wrote
 rw [show decDigits (5:Int).natAbs=[53] from decDigits_one (by decide),show decDigits 18=[49,56] from decDigits_two (by decide) (by decide)]
 rfl
theorem kmh:yad [107,109,47,104]=(⟨[53,47,49,56],[48],[1,0,-1,0,0,0,0]⟩,0):=by
 have h:yad [107,109,47,104]=yac 1 jG [⟨yO [49,48,48,48]*yO [49],[1,0,0,0,0,0,0],1⟩,⟨yO [51,54,48,48],[0,0,1,0,0,0,0],-1⟩]:=by
  unfold yad
  rw [if_neg (by decide),if_neg (by decide),if_neg (by decide)]
  rw [show ([107,109,47,104]:List UInt8).length+1=5 from rfl,yjO]
  rfl
 have r1:yO [49,48,48,48]=(1000:Nat)/(1:Nat):=zC rfl
 have r2:yO [49]=(1:Nat)/(1:Nat):=zC rfl
 have r3:yO [51,54,48,48]=(3600:Nat)/(1:Nat):=zC rfl
 rw [h,r1,r2,r3]
 have e:(1:Rat)*((((1000:Nat):Rat)/((1:Nat):Rat))*(((1:Nat):Rat)/((1:Nat):Rat)))^(1:Int)*(((3600:Nat):Rat)/((1:Nat):Rat))^(-1:Int)=5/18:=by
  rw [Rat.zpow_one,Rat.zpow_neg,Rat.zpow_one]
  simp
  grind
 have h2:yac 1 jG [⟨(((1000:Nat):Rat)/((1:Nat):Rat))*(((1:Nat):Rat)/((1:Nat):Rat)),[1,0,0,0,0,0,0],1⟩,⟨((3600:Nat):Rat)/((1:Nat):Rat),[0,0,1,0,0,0,0],-1⟩]=mkT (1*((((1000:Nat):Rat)/((1:Nat):Rat))*(((1:Nat):Rat)/((1:Nat):Rat)))^(1:Int)*(((3600:Nat):Rat)/((1:Nat):Rat))^(-1:Int)) [1,0,-1,0,0,0,0]:=rfl
 rw [h2,e,yrV (by rw [yjb];decide) (by decide),yjb]
end
section
open Go.RowKit Go.Lib Big
def zM (w:World) (x:Value) (q:Rat) (K:Nat):Prop:=∃ s a b,uF w x s a b∧zD s a b=q∧0<b∧a<yC^K∧b<yC^K
theorem zM.below {w w':World} {x:Value} {q:Rat} {K:Nat} (h:zM w x q K) (hb:Below w.heap.size w w'):zM w' x q K:=by
 obtain ⟨s,a,b,h1,h2⟩:=h
 exact ⟨s,a,b,h1.below hb,h2⟩
theorem zM.more {w:World} {x:Value} {q:Rat} {K M:Nat} (h:zM w x q K) (hM:K≤M):zM w x q M:=by
 obtain ⟨s,a,b,h1,h2,h3,h4,h5⟩:=h
 have:=Nat.pow_le_pow_right yU hM
 exact ⟨s,a,b,h1,h2,h3,by omega,by omega⟩
theorem zM.agg {w:World} {x:Value} {q:Rat} {K:Nat} (h:zM w x q K):∃ b p n c r m d,x=.agg #[.bool b,.slice p n c,.slice r m d]:=by
 obtain ⟨s,a,b,⟨u,v,rfl,hu,hv,-⟩,-⟩:=h
 obtain ⟨p,n,c,rfl⟩:=hu.slice
 obtain ⟨r,m,d,rfl⟩:=hv.slice
 exact ⟨_,_,_,_,_,_,_,rfl⟩
theorem yfq {w:World} {x:Value} {s:Bool} {a b:Nat} (h:uF w x s a b):s=true→0<a:=by
 obtain ⟨u,v,-,-,-,h⟩:=h;exact h
def jX (q:Rat) (K:Nat) (w:World) (e:Ending) (w':World):Prop:=∃ x,e=.returned x∧zM w' x q K∧Below w.heap.size w w'
theorem yrW (x y:Value) (p q:Rat) (K:Nat) (w:World) (hK:2*K+1≤1073741824) (hx:zM w x p K) (hy:zM w y q K):Calls Tryz.prog 44 #[x,y] w (jX (p+q) (2*K+1) w):=by
 obtain ⟨s,a,b,h1,rfl,h3,h4,h5⟩:=hx
 obtain ⟨t,c,d,k1,rfl,k3,k4,k5⟩:=hy
 refine (yqQ x y s t a b c d K w hK h4 h5 k4 k5 h3 k3 h1 k1).mono ?_
 rintro e w' ⟨z,r,n,m,rfl,hz,hb,hm,hv,hn,hm2⟩
 exact ⟨z,rfl,⟨r,n,m,hz,hv,hm,hn,hm2⟩,hb⟩
theorem yeH {a b K:Nat} (ha:a<yC^K) (hb:b<yC^K):a*b<yC^(2*K):=by
 rw [yeF]
 exact Nat.mul_lt_mul'' ha hb
theorem yrX (x y:Value) (p q:Rat) (K:Nat) (w:World) (hK:K≤1073741824) (hx:zM w x p K) (hy:zM w y q K):Calls Tryz.prog 32 #[x,y] w (jX (p*q) (2*K) w):=by
 obtain ⟨s,a,b,h1,rfl,h3,h4,h5⟩:=hx
 obtain ⟨t,c,d,k1,rfl,k3,k4,k5⟩:=hy
 refine (ymd x y s t a b c d K w hK h4 h5 k4 k5 h1 k1).mono ?_
 rintro e w' ⟨z,rfl,hz,hb⟩
 exact ⟨z,rfl,⟨_,_,_,hz,by rw [vO,ycm h3 k3],Nat.mul_pos h3 k3,yeH h4 k4,yeH h5 k5⟩,hb⟩
theorem ybx {s:Bool} {a b:Nat} (hb:0<b):zD s a b=0↔a=0:=by
 have h1:=uN hb
 constructor
 ·intro h
  unfold zD at h
  apply Nat.eq_zero_of_not_pos
  intro ha
  have h2:=uN ha
  cases s
  ·simp only [Bool.false_eq_true,if_false] at h;grind
  ·simp only [if_true] at h;grind
 ·rintro rfl
  unfold zD
  cases s<;>simp<;>grind
theorem yrY (x y:Value) (p q:Rat) (K:Nat) (w:World) (hK:K≤1073741824) (hq:q≠0) (hx:zM w x p K) (hy:zM w y q K):Calls Tryz.prog 58 #[x,y] w (jX (p/q) (2*K) w):=by
 obtain ⟨s,a,b,h1,rfl,h3,h4,h5⟩:=hx
 obtain ⟨t,c,d,k1,rfl,k3,k4,k5⟩:=hy
 have hc:0<c:=by
  apply Nat.pos_of_ne_zero;intro h0;exact hq ((ybx k3).2 h0)
 refine (yqP x y s t a b c d K w hK h4 h5 k4 k5 h1 k1).mono ?_
 rintro e w' ⟨z,rfl,hz,hb⟩
 exact ⟨z,rfl,⟨_,_,_,hz,by rw [vO,yi5 h3 k3 hc],Nat.mul_pos h3 hc,yeH h4 k5,yeH h5 k4⟩,hb⟩
theorem yco (x:Value) (q:Rat) (K:Nat) (w:World) (hK:K≤1000000) (hx:zM w x q K) (htab:Tab w):Calls Tryz.prog 60 #[x] w fun e w'=>e=.returned (.string ⟨(uB q).toArray⟩)∧Below w.heap.size w w':=by
 obtain ⟨s,a,b,h1,rfl,h3,h4,h5⟩:=hx
 rw [← yeo h3 (yfq h1)]
 exact ygT x s a b K w hK h4 h5 h3 h1 htab
theorem ypB {l:List UInt8} {s:Bool} {n d:Nat} (h:GH l=some (s,n,d)):n<yC^20∧d<yC^20∧0<d:=by
 unfold GH at h
 split at h
 ·cases h
 ·rename_i hl
  split at h
  ·rename_i s0 n0 d0 hr
   split at h
   ·cases h;exact yfj hr (by omega)
   ·cases h
  ·cases h
def ydi (o:Option Rat) (w:World) (e:Ending) (w':World):Prop :=
 Below w.heap.size w w'∧∃ b p n c q m d,e=.returned (.tuple #[.agg #[.bool b,.slice p n c,.slice q m d],.bool o.isSome])∧∀ r,o=some r→zM w' (.agg #[.bool b,.slice p n c,.slice q m d]) r 20
theorem yfl (s:ByteArray) (w:World) (htab:Tab w):Calls Tryz.prog 41 #[.string s] w (ydi (num s.data.toList) w):=by
 refine (yhu s w htab).mono fun e w' h=>⟨h.1,?_⟩
 obtain ⟨-,b,p,n,c,q,m,d,he,hr⟩:=h
 unfold num
 cases hq:GH s.data.toList with
 | none=>rw [hq] at he;exact ⟨b,p,n,c,q,m,d,he,fun r h=>by cases h⟩
 | some t =>
  obtain ⟨sg,x,y⟩:=t
  rw [hq] at he hr
  refine ⟨b,p,n,c,q,m,d,he,?_⟩
  rintro r h
  cases h
  obtain ⟨h1,h2,h3⟩:=ypB hq
  exact ⟨sg,x,y,hr _ _ _ rfl,rfl,h3,h1,h2⟩
theorem ypC (l:List UInt8):yil l=(num l).isSome:=ym6 l
theorem ylr (x y:ByteArray) (g:Nat) (f:FuncId) (p q r:Rat) (K:Nat) (w:World) (hg:g<w.heap.size) (hcl:w.cell? ⟨g,0,none⟩=some (.func (.func f) #[] #[])) (hx:Hid (Calls Tryz.prog 41 #[.string x] w (ydi (some p) w))) (hy:∀ W,Below w.heap.size w W→Hid (Calls Tryz.prog 41 #[.string y] W (ydi (some q) W)))
  (yp7:∀ args W,(callFunc f args).run Tryz.prog W=.ok (.enter f args) W) (hop:∀ W u v,Below w.heap.size w W→zM W u p 20→zM W v q 20→Hid (Calls Tryz.prog f #[u,v] W (jX r K W)))
  (ht:∀ W z,Below w.heap.size w W→zM W z r K→Hid (Calls Tryz.prog 60 #[z] W fun e w'=>e=.returned (.string ⟨(uB r).toArray⟩)∧Below W.heap.size W w')):Calls Tryz.prog 76 #[.string x,.string y,.pointer (some ⟨g,0,none⟩)] w fun e w'=>e=.returned (.string ⟨(uB r).toArray⟩)∧Below w.heap.size w w':=by
 have Hcl:=yA hcl
 have Hg:=yA hg
 clear hcl hg
 go_enter Tryz.func76,Tryz.ntmps76
 go_wp2_with fail
 refine hx.out.mono ?_
 rintro e w2 ⟨hb2,b1,p1,n1,c1,q1,m1,d1,rfl,hr1⟩
 have hbw:=yA (hb2.trans ((zK w2 (.cells #[.bool b1,.slice p1 n1 c1,.slice q1 m1 d1] 64)).mono hb2.size))
 have hR1:=yA ((hr1 _ rfl).below (zK w2 (.cells #[.bool b1,.slice p1 n1 c1,.slice q1 m1 d1] 64)))
 have hb1:=yA (yV w2 (.cells #[.bool b1,.slice p1 n1 c1,.slice q1 m1 d1] 64))
 have hy2:=hy _ hbw.out
 clear hb2 hy hr1
 go_wp2_with fail
 refine hy2.out.mono ?_
 rintro e w3 ⟨hb3,b',p',n',c',q',m',d',rfl,hr3⟩
 have yf2:=yA (hbw.out.trans (hb3.mono hbw.out.size))
 have ykJ:=yA (yf2.out.trans ((zK w3 (.cells #[.bool b',.slice p' n' c',.slice q' m' d'] 64)).mono yf2.out.size))
 have hA:=yA (zK w3 (.cells #[.bool b',.slice p' n' c',.slice q' m' d'] 64))
 have hR3:=yA ((hr3 _ rfl).below hA.out)
 have hR2:=yA ((hR1.out.below hb3).below hA.out)
 have hbox:=(hb3.trans (hA.out.mono hb3.size)).block w2.heap.size (by simp)
 have hbx:=hbox.trans hb1.out
 have e0:=yB hbx 0
 have e1:=yB hbx 1
 have e2:=yB hbx 2
 have hcl4:=(ykJ.out.cell (p:=⟨g,0,none⟩) Hg.out).trans Hcl.out
 have hop4:=hop _ _ _ ykJ.out hR2.out hR3.out
 clear hb3 hy2 hr3 hbox hbx hop
 go_wp2_with fail
 refine hop4.out.mono ?_
 rintro e w5 ⟨z,rfl,hz,hb5⟩
 have yrE:=yA (ykJ.out.trans (hb5.mono ykJ.out.size))
 have ht5:=ht _ _ yrE.out hz
 clear hb5 hz ht hop4
 go_wp2_with fail
 refine ht5.out.mono ?_
 rintro e w6 ⟨rfl,hb6⟩
 have yfZ:=yA (yrE.out.trans (hb6.mono yrE.out.size))
 clear hb6
 go_wp2_with fail
 go_ret
 exact ⟨rfl,yfZ.out⟩
theorem yjP (x y:ByteArray) (g:Nat) (f:FuncId) (F:Rat→Rat→Rat) (K:Nat) (w:World) (hK:K≤1000000) (hg:g<w.heap.size) (hcl:w.cell? ⟨g,0,none⟩=some (.func (.func f) #[] #[])) (htab:Tab w)
  (yp7:∀ args W,(callFunc f args).run Tryz.prog W=.ok (.enter f args) W) (hop:∀ W u v p q,num x.data.toList=some p→num y.data.toList=some q→Below w.heap.size w W→zM W u p 20→zM W v q 20→Calls Tryz.prog f #[u,v] W (jX (F p q) K W)) :
  Calls Tryz.prog 76 #[.string x,.string y,.pointer (some ⟨g,0,none⟩)] w fun e w'=>e=.returned (.string ⟨(opT F x.data.toList y.data.toList).toArray⟩)∧Below w.heap.size w w':=by
 have hx:=yhu x w htab
 have hx':=yfl x w htab
 have hy:=fun W (hb:Below w.heap.size w W)=>yhu y W (htab.below hb)
 have hy':=fun W (hb:Below w.heap.size w W)=>yfl y W (htab.below hb)
 cases hnx:num x.data.toList with
 | none =>
  have hr:GH x.data.toList=none:=by unfold num at hnx;simpa using hnx
  rw [hr] at hx
  rw [ym7 hnx]
  exact yhR x y _ w (yA hx)
 | some p =>
  cases hny:num y.data.toList with
  | none =>
   have hr:GH y.data.toList=none:=by unfold num at hny;simpa using hny
   obtain ⟨t,ht⟩:∃ t,GH x.data.toList=some t:=by
    unfold num at hnx
    rw [Option.map_eq_some_iff] at hnx
    obtain ⟨t,h,-⟩:=hnx;exact ⟨t,h⟩
   rw [ht] at hx
   rw [ym8 hny]
   refine yhS x y _ t w (yA hx) fun W hb=>yA ?_
   have:=hy W hb
   rwa [hr] at this
  | some q =>
   rw [yja hnx hny]
   rw [hnx] at hx'
   refine ylr x y g f p q (F p q) K w hg hcl (yA hx') (fun W hb=>yA ?_) yp7 (fun W u v hb hu hv=>yA (hop W u v p q hnx hny hb hu hv)) fun W z hb hz=>yA (yco z _ K W hK hz (htab.below hb))
   have:=hy' W hb
   rwa [hny] at this
def ymh (l:List UInt8) (w:World) (e:Ending) (w':World):Prop:=e=.returned (.string ⟨l.toArray⟩)∧Below w.heap.size w w'
theorem yhT (x y:ByteArray) (f:FuncId) (F:Rat→Rat→Rat) (K:Nat) (w:World) (hK:K≤1000000) (htab:Tab w)
  (yp7:∀ args W,(callFunc f args).run Tryz.prog W=.ok (.enter f args) W) (hop:∀ W u v p q,num x.data.toList=some p→num y.data.toList=some q→Below w.heap.size w W→zM W u p 20→zM W v q 20→Calls Tryz.prog f #[u,v] W (jX (F p q) K W)) :
  Calls Tryz.prog 76 #[.string x,.string y,.pointer (some ⟨w.heap.size,0,none⟩)] (w.alloc (.cells #[.func (.func f) #[] #[]] 84)) (ymh (opT F x.data.toList y.data.toList) w):=by
 have hb:=zK w (.cells #[.func (.func f) #[] #[]] 84)
 refine (yjP x y w.heap.size f F K (w.alloc (.cells #[.func (.func f) #[] #[]] 84)) hK (by simp) ?_ (htab.below hb) yp7 fun W u v p q h1 h2 h3 h4 h5=>hop W u v p q h1 h2 (hb.trans (h3.mono hb.size)) h4 h5).mono ?_
 ·exact yB (yV w _) 0
 ·rintro e w' ⟨he,hb2⟩
  exact ⟨he,hb.trans (hb2.mono hb.size)⟩
theorem ysL (x y:ByteArray) (w:World) (htab:Tab w):Calls Tryz.prog 22 #[.string x,.string y] w (ymh (opT (·+·) x.data.toList y.data.toList) w):=by
 have hcl:=yA (yhT x y 44 (·+·) 41 w (by omega) htab (fun args W=>by kernel_rfl) fun W u v p q _ _ _ hu hv=>yrW u v p q 20 W (by omega) hu hv)
 generalize opT (·+·) x.data.toList y.data.toList=l at hcl ⊢
 clear htab
 go_enter Tryz.func22,Tryz.ntmps22
 go_wp2_with fail
 refine (yjM 44 w).mono ?_
 rintro e w1 ⟨rfl,rfl⟩
 go_wp2_with fail
 refine hcl.out.mono ?_
 rintro e w2 ⟨rfl,hb⟩
 have Hb:=yA hb
 clear hb
 go_wp2_with fail
 go_ret
 exact ⟨rfl,Hb.out⟩
theorem yfr (y:ByteArray) (l:List UInt8):(y.toList==l)=decide (y.data.toList=l):=by
 rw [Lib.toList_data]
 by_cases h:y.data.toList=l
 ·rw [decide_eq_true h];simpa using h
 ·rw [decide_eq_false h,beq_eq_false_iff_ne];simpa using h
theorem yq1 (x:Value) (q:Rat) (K:Nat) (w:World) (hx:zM w x q K):Calls Tryz.prog 42 #[x] w fun e w'=>e=.returned (.int .i64 (ydZ q))∧Below w.heap.size w w':=by
 obtain ⟨s,a,b,h1,rfl,h3,h4,h5⟩:=hx
 have e:sgn s a=ydZ (zD s a b):=by
  obtain ⟨g1,g2,g3⟩:=yds h3 (yfq h1)
  have hz:=ybx (s:=s) (a:=a) h3
  unfold sgn ydZ
  have hn:(zD s a b<0)↔(zD s a b).num<0:=by have:=Rat.num_nonneg (q:=zD s a b);grind
  cases s
  ·rw [decide_eq_false_iff_not] at g1
   rw [if_neg (by simp),if_neg (fun h=>g1 (hn.1 h))]
   by_cases ha:a=0
   ·rw [if_pos ha,if_pos (hz.2 ha)]
   ·rw [if_neg ha,if_neg (fun h=>ha (hz.1 h))]
  ·rw [decide_eq_true_iff] at g1
   rw [if_pos rfl,if_pos (hn.2 g1)]
 rw [← e]
 exact ypu x s a b w h1
theorem yq2 (x:ByteArray) (w:World) (hx:Hid (Calls Tryz.prog 41 #[.string x] w (ydi none w))):Calls Tryz.prog 19 #[.string x] w fun e w'=>e=.returned (.bool false)∧Below w.heap.size w w':=by
 go_enter Tryz.func19,Tryz.ntmps19
 go_wp2_with fail
 refine hx.out.mono ?_
 rintro e w2 ⟨hb2,b,p,n,c,q,m,d,rfl,-⟩
 have hbw:=yA (hb2.trans ((zK w2 (.cells #[.bool b,.slice p n c,.slice q m d] 64)).mono hb2.size))
 clear hb2
 go_wp2_with fail
 go_ret
 exact ⟨rfl,hbw.out⟩
theorem yrZ (x:ByteArray) (r:Rat) (w:World) (hx:Hid (Calls Tryz.prog 41 #[.string x] w (ydi (some r) w))):Calls Tryz.prog 19 #[.string x] w fun e w'=>e=.returned (.bool (decide ((0:Int)<ydZ r)))∧Below w.heap.size w w':=by
 have hsg:Hid (∀ W z,zM W z r 20→Calls Tryz.prog 42 #[z] W fun e w'=>e=.returned (.int .i64 (ydZ r))∧Below W.heap.size W w'):=yA fun W z hz=>yq1 z r 20 W hz
 generalize ydZ r=c at hsg ⊢
 go_enter Tryz.func19,Tryz.ntmps19
 go_wp2_with fail
 refine hx.out.mono ?_
 rintro e w2 ⟨hb2,b1,p1,n1,c1,q1,m1,d1,rfl,hr1⟩
 have hbw:=yA (hb2.trans ((zK w2 (.cells #[.bool b1,.slice p1 n1 c1,.slice q1 m1 d1] 64)).mono hb2.size))
 have hR1:=(hr1 _ rfl).below (zK w2 (.cells #[.bool b1,.slice p1 n1 c1,.slice q1 m1 d1] 64))
 have ht:=yA (hsg.out _ _ hR1)
 clear hb2 hr1 hR1
 go_wp2_with fail
 refine ht.out.mono ?_
 rintro e w6 ⟨rfl,hb6⟩
 have yfZ:=yA (hbw.out.trans (hb6.mono hbw.out.size))
 clear hb6
 go_wp2_with fail
 go_ret
 exact ⟨rfl,yfZ.out⟩
theorem yhU (x:ByteArray) (w:World) (htab:Tab w):Calls Tryz.prog 19 #[.string x] w fun e w'=>e=.returned (.bool (yiD x.data.toList))∧Below w.heap.size w w':=by
 have hx:=yfl x w htab
 unfold yiD
 cases hnx:num x.data.toList with
 | none=>rw [hnx] at hx;exact yq2 x w (yA hx)
 | some r =>
  rw [hnx] at hx
  have e:decide ((0:Int)<ydZ r)=decide (0<r):=by
   rcases ylq r with ⟨h1,h2⟩|⟨h1,h2⟩|⟨h1,h2⟩
   ·rw [h2,decide_eq_false (by omega),decide_eq_false (by grind)]
   ·rw [h2,decide_eq_false (by omega),decide_eq_false (by grind)]
   ·rw [h2,decide_eq_true (by omega),decide_eq_true h1]
  simp only
  rw [← e]
  exact yrZ x r w (yA hx)
theorem One.drew {B:Nat} {s:Bool} {u1 v1:Value} {w0 W:World} (h:One B s u1 v1 w0 W):One B s u1 v1 w0 W.drew:=⟨h.size,h.below.drew,h.x,h.z⟩
theorem One.all {B:Nat} {s:Bool} {u1 v1:Value} {w0 W:World} (h:One B s u1 v1 w0 W):One B s u1 v1 w0 W∧W.cell? ⟨B,0,none⟩=some (.bool s)∧W.cell? ⟨B,1,none⟩=some u1∧W.cell? ⟨B,2,none⟩=some v1:=⟨h,h.cells⟩
theorem pow_pos (u1 v1:Value) (a b E K:Nat) (w:World) (hE:E≤1000000) (hK:K*E+1+K≤yT) (ha:a<yC^K) (hb:b<yC^K) (hu1:yH w u1 a) (hv1:yH w v1 b) :
  Calls Tryz.prog 33 #[.agg #[.bool false,u1,v1],.int .i64 E] w (uZ false (a^E) (b^E) w):=by
 have hm1:Hid (∀ W,Below w.heap.size w W→Calls Tryz.prog 59 #[u1,.int .i64 E] W (zI (a^E) W)):=yA fun W h=>ycN u1 a E K W hK hE ha (hu1.below h)
 have hm2:Hid (∀ W,Below w.heap.size w W→Calls Tryz.prog 59 #[v1,.int .i64 E] W (zI (b^E) W)):=yA fun W h=>ycN v1 b E K W hK hE hb (hv1.below h)
 have jW:=One.start w false u1 v1
 have Hone:=yA jW
 obtain ⟨-,c0,c1,c2⟩:=jW.all
 have ynY:decide ((E:Int)<0)=false:=by simp
 clear jW hu1 hv1 ha hb hK
 generalize a^E=n at hm1 ⊢
 generalize b^E=m at hm2 ⊢
 go_enter Tryz.func33,Tryz.ntmps33
 go_wp2_with fail
 clear c0 c1 c2
 refine wp_region_held_drew (S:=fun w'=>One w.heap.size false u1 v1 w w'∧w'.cell? ⟨w.heap.size,0,none⟩=some (.bool false)∧w'.cell? ⟨w.heap.size,1,none⟩=some u1∧w'.cell? ⟨w.heap.size,2,none⟩=some v1) (by kernel_rfl) (One.all (One.drew Hone.out)) (fun hHeld=>?_)
 refine wpAnyH_take (i:=0) (v:=(.pointer (some ⟨w.heap.size,0,none⟩))) rfl (by kernel_rfl) (by kernel_rfl) (by kernel_rfl) (fun _ _ _ h=>h) (Or.inl ⟨by rfl,by intro W hSw;clear hHeld;go_split_ands;go_simp⟩) (by assumption) ?_
 simp only [Act.put,List.setIfInBounds_toArray]
 refine wpAnyH_take (i:=1) (v:=(.bool false)) rfl (by kernel_rfl) (by kernel_rfl) (by kernel_rfl) (fun _ _ _ h=>h) (Or.inl ⟨by rfl,by intro W hSw;clear hHeld;go_split_ands;go_simp⟩) (by assumption) ?_
 simp only [Act.put]
 refine wpAnyH_take (i:=2) (v:=(.bool false)) rfl (by kernel_rfl) (by kernel_rfl) (by kernel_rfl) (fun _ _ _ h=>h) (Or.inl ⟨by rfl,by intro W hSw;clear hHeld;go_split_ands;go_simp⟩) (by assumption) ?_
 simp only [Act.put]
 refine wpAnyH_take (i:=3) (v:=undef) rfl (by kernel_rfl) (by kernel_rfl) (by kernel_rfl) (fun _ _ _ h=>h) (Or.inr ⟨by rfl,rfl⟩) (by assumption) ?_
 simp only [Act.put]
 refine wpAnyH_take (i:=4) (v:=undef) rfl (by kernel_rfl) (by kernel_rfl) (by kernel_rfl) (fun _ _ _ h=>h) (Or.inr ⟨by rfl,rfl⟩) (by assumption) ?_
 simp only [Act.put]
 refine wpAnyH_take (i:=5) (v:=undef) rfl (by kernel_rfl) (by kernel_rfl) (by kernel_rfl) (fun _ _ _ h=>h) (Or.inr ⟨by rfl,rfl⟩) (by assumption) ?_
 simp only [Act.put]
 refine wpAnyH_take (i:=6) (v:=(.bool false)) rfl (by kernel_rfl) (by kernel_rfl) (by kernel_rfl) (fun _ _ _ h=>h) (Or.inl ⟨by rfl,by intro W hSw;clear hHeld;go_split_ands;go_simp⟩) (by assumption) ?_
 simp only [Act.put]
 refine wpAnyH_take (i:=7) (v:=(.pointer (some ⟨w.heap.size,1,none⟩))) rfl (by kernel_rfl) (by kernel_rfl) (by kernel_rfl) (fun _ _ _ h=>h) (Or.inl ⟨by rfl,by intro W hSw;clear hHeld;go_split_ands;go_simp⟩) (by assumption) ?_
 simp only [Act.put]
 refine wpAnyH_take (i:=8) (v:=u1) rfl (by kernel_rfl) (by kernel_rfl) (by kernel_rfl) (fun _ _ _ h=>h) (Or.inl ⟨by rfl,by intro W hSw;clear hHeld;go_split_ands;go_simp⟩) (by assumption) ?_
 simp only [Act.put]
 refine wpAnyH_take (i:=9) (v:=(.int .i64 E)) rfl (by kernel_rfl) (by kernel_rfl) (by kernel_rfl) (fun _ _ _ h=>h) (Or.inl ⟨by rfl,by intro W hSw;clear hHeld;go_split_ands;go_simp⟩) (by assumption) ?_
 simp only [Act.put]
 refine wpAnyH_take (i:=11) (v:=(.pointer (some ⟨w.heap.size,2,none⟩))) rfl (by kernel_rfl) (by kernel_rfl) (by kernel_rfl) (fun _ _ _ h=>h) (Or.inl ⟨by rfl,by intro W hSw;clear hHeld;go_split_ands;go_simp⟩) (by assumption) ?_
 simp only [Act.put]
 refine wpAnyH_take (i:=12) (v:=v1) rfl (by kernel_rfl) (by kernel_rfl) (by kernel_rfl) (fun _ _ _ h=>h) (Or.inl ⟨by rfl,by intro W hSw;clear hHeld;go_split_ands;go_simp⟩) (by assumption) ?_
 simp only [Act.put]
 refine wpAnyH_take (i:=13) (v:=(.int .i64 E)) rfl (by kernel_rfl) (by kernel_rfl) (by kernel_rfl) (fun _ _ _ h=>h) (Or.inl ⟨by rfl,by intro W hSw;clear hHeld;go_split_ands;go_simp⟩) (by assumption) ?_
 simp only [Act.put]
 refine wpAnyH_ready (rs:=[10]) (by kernel_rfl) (by simp) ?_
 refine AllReadyH.cons (i:=10) rfl (fun K hK=>?_) AllReadyH.nil
 go_simp
 refine (hm1.out _ hHeld.1.below).mono ?_
 rintro e w1 ⟨vt,rfl,hvt,hb1⟩
 obtain ⟨pt,nt,ct,rfl⟩:=hvt.slice
 go_simp
 refine hK.out _ _ (One.all (One.next hHeld.1 hb1)) (fun hHeld=>?_)
 clear hK K
 refine wpAnyH_ready (rs:=[14]) (by kernel_rfl) (by simp) ?_
 refine AllReadyH.cons (i:=14) rfl (fun K hK=>?_) AllReadyH.nil
 go_simp
 refine (hm2.out _ hHeld.1.below).mono ?_
 rintro e w2 ⟨vb,rfl,hvb,hb2⟩
 obtain ⟨pb,nb,cb,rfl⟩:=hvb.slice
 go_simp
 refine hK.out _ _ (One.all (One.next hHeld.1 hb2)) (fun hHeld=>?_)
 clear hK K
 refine wpAnyH_ready (rs:=[15]) (by kernel_rfl) (by simp) ?_
 refine AllReadyH.cons (i:=15) rfl (fun K hK=>?_) AllReadyH.nil
 go_simp
 refine (vV _ _ _ _ _ _ (hvt.below hb2) hvb).mono ?_
 rintro e w3 ⟨rfl,hb3⟩
 have htw:=One.next hHeld.1 hb3
 obtain ⟨z0,z1,z2,k0,k1,k2,f0,f1,f2⟩:=One.slots htw
 go_simp
 refine hK.out _ _ (One.all htw) (fun hHeld=>?_)
 clear hK K
 refine wpAnyH_ready (rs:=[16]) (by kernel_rfl) (by simp) ?_
 refine AllReadyH.cons (i:=16) rfl (fun K hK=>?_) AllReadyH.nil
 go_simp
 refine hK.out _ _ (One.all (One.put3 htw (Nat.le_refl _) _ _ _ _ _ _ _)) (fun hHeld=>?_)
 clear hK K
 refine wpAnyH_done (by kernel_rfl) ?_ _
 go_wp2_with fail
 have q1:=htw.nat3 (Nat.le_refl _) ((hvt.below hb2).below hb3) false pt pb nt ct nb cb
 have q2:=htw.nat3 (Nat.le_refl _) (hvb.below hb3) false pt pb nt ct nb cb
 have q3:=(htw.put3 (Nat.le_refl _) false pt pb nt ct nb cb).below
 have yE:Hid (∀ W,W=(((w3.setCell ⟨w.heap.size+1,0,none⟩ (.bool false)).setCell ⟨w.heap.size+1,1,none⟩ (.slice pt nt ct)).setCell ⟨w.heap.size+1,2,none⟩ (.slice pb nb cb))→uZ false n m w (.returned (.agg #[.bool false,.slice pt nt ct,.slice pb nb cb])) W):=yA (by
  rintro W rfl
  exact ⟨_,rfl,⟨_,_,rfl,q1,q2,by intro h;simp at h⟩,q3⟩)
 refine bodyPost_ret (v:=.agg #[.bool false,.slice pt nt ct,.slice pb nb cb]) (by simp [results,Tryz.results33,go_sem,k0,k1,k2]) rfl ?_
 exact yE.out _ rfl
theorem yq3 (u1 v1:Value) (a b E K:Nat) (f:Bool) (hf:((E:Int).tmod 2==1)=f) (w:World) (hE:E≤1000000) (hK:K*E+1+K≤yT) (ha:a<yC^K) (hb:b<yC^K) (hu1:yH w u1 a) (hv1:yH w v1 b) :
  Calls Tryz.prog 33 #[.agg #[.bool true,u1,v1],.int .i64 E] w (uZ f (a^E) (b^E) w):=by
 have hm1:Hid (∀ W,Below w.heap.size w W→Calls Tryz.prog 59 #[u1,.int .i64 E] W (zI (a^E) W)):=yA fun W h=>ycN u1 a E K W hK hE ha (hu1.below h)
 have hm2:Hid (∀ W,Below w.heap.size w W→Calls Tryz.prog 59 #[v1,.int .i64 E] W (zI (b^E) W)):=yA fun W h=>ycN v1 b E K W hK hE hb (hv1.below h)
 have jW:=One.start w true u1 v1
 have Hone:=yA jW
 obtain ⟨-,c0,c1,c2⟩:=jW.all
 have ynY:decide ((E:Int)<0)=false:=by simp
 clear jW hu1 hv1 ha hb hK
 generalize a^E=n at hm1 ⊢
 generalize b^E=m at hm2 ⊢
 go_enter Tryz.func33,Tryz.ntmps33
 go_wp2_with fail
 go_region_held3 (fun w'=>One w.heap.size true u1 v1 w w'∧w'.cell? ⟨w.heap.size,0,none⟩=some (.bool true)∧w'.cell? ⟨w.heap.size,1,none⟩=some u1∧w'.cell? ⟨w.heap.size,2,none⟩=some v1)
  (first|exact One.all (One.drew Hone.out)|exact One.all Hone.out|(go_split_ands;exact One.all (One.next (by assumption) hb1))|(go_split_ands;exact One.all (One.next (by assumption) hb2))|(go_split_ands;exact One.all (One.next (by assumption) hb3))|(go_split_ands;exact One.all (One.put3 (by assumption) (Nat.le_refl _) _ _ _ _ _ _ _))|go_keep)
  (first|(go_at_call_of 59 u1;go_split_ands;refine (hm1.out _ (One.below (by assumption))).mono ?_;rintro e w1 ⟨vt,rfl,hvt,hb1⟩;obtain ⟨pt,nt,ct,rfl⟩:=hvt.slice)|(go_at_call_of 59 v1;go_split_ands;refine (hm2.out _ (One.below (by assumption))).mono ?_;rintro e w2 ⟨vb,rfl,hvb,hb2⟩;obtain ⟨pb,nb,cb,rfl⟩:=hvb.slice)|(go_at_call 55;go_split_ands;refine (vV _ _ _ _ _ _ (yH.below (by assumption) (by assumption)) (by assumption)).mono ?_;rintro e w3 ⟨rfl,hb3⟩;have htw:=One.next (by assumption) hb3;obtain ⟨z0,z1,z2,k0,k1,k2,f0,f1,f2⟩:=One.slots htw))
 go_wp2_with fail
 have q1:=htw.nat3 (Nat.le_refl _) ((hvt.below hb2).below hb3) (f&&!(n==0)) pt pb nt ct nb cb
 have q2:=htw.nat3 (Nat.le_refl _) (hvb.below hb3) (f&&!(n==0)) pt pb nt ct nb cb
 have q3:=(htw.put3 (Nat.le_refl _) (f&&!(n==0)) pt pb nt ct nb cb).below
 have yE:Hid (∀ W,W=(((w3.setCell ⟨w.heap.size+1,0,none⟩ (.bool (f&&!(n==0)))).setCell ⟨w.heap.size+1,1,none⟩ (.slice pt nt ct)).setCell ⟨w.heap.size+1,2,none⟩ (.slice pb nb cb))→uZ f n m w (.returned (.agg #[.bool (f&&!(n==0)),.slice pt nt ct,.slice pb nb cb])) W):=yA (by
  rintro W rfl
  exact ⟨_,rfl,⟨_,_,rfl,q1,q2,by intro h;simp at h;omega⟩,q3⟩)
 refine bodyPost_ret (v:=.agg #[.bool (f&&!(n==0)),.slice pt nt ct,.slice pb nb cb]) (by simp [results,Tryz.results33,go_sem,k0,k1,k2]) rfl ?_
 exact yE.out _ rfl
end
end Go.Proofs.YtfjnipkpfbkegaaGreatDoor
