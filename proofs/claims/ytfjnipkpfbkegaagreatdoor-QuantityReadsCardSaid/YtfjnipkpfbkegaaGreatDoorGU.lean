/- Contracts. -/
import Derived.Test.YtfjnipkpfbkegaaGreatDoorGK
set_option maxHeartbeats 8000000
set_option maxRecDepth 100000
namespace Go.Proofs.YtfjnipkpfbkegaaGreatDoor
open Go.RowKit Big
open Go.Lib
theorem yaD {l:List UInt8} (h:jU (l.take (zG l))=none):uW l=none:=by unfold uW;rw [h]
theorem ypc {q:Rat} {s:SymR} {n:Nat} {x:List UInt8} (h:∀ t,x≠94::t):yoh q s n x=some (⟨q,s,true,1,false⟩,n):=by
 unfold yoh
 split
 ·rename_i t;exact absurd rfl (h t)
 ·rfl
theorem GQ {l:List UInt8} {s:SymR} {q:Rat} (h:jU (l.take (zG l))=some (s,q)) (h2:∀ t,l.drop (zG l)≠94::t):uW l=some (⟨q,s,true,1,false⟩,zG l):=by
 unfold uW
 rw [h]
 exact ypc h2
theorem yaj {l t:List UInt8} {s:SymR} {q:Rat} (h:jU (l.take (zG l))=some (s,q)) (h2:l.drop (zG l)=94::t):uW l=(yc1 t).map fun p=>(⟨q,s,true,p.1,true⟩,zG l+1+p.2):=by
 unfold uW
 rw [h,h2];rfl
theorem yfb {t:List UInt8} (h:∀ u,t≠45::u):yc1 t=if yF t=0 then none else some (whT (t.take (yF t)),yF t):=by
 unfold yc1
 split
 ·rename_i u;exact absurd rfl (h u)
 ·rfl
def ybM:List UInt8:=[100,101,103,67]
def ybN:List UInt8:=[100,101,103,70]
def ysI (s:SymR) (l:List UInt8):Prop:=(s.off=true∧s.pre=false∧yas l=none∧(l=ybM∨l=ybN))∨(s.off=false∧∃ v,yas l=some (v,s.ps,s.pre)∧yO v=(s.o:Rat)/(s.b:Rat))
theorem yoy (l:List UInt8):(∃ s,zW.find? (fun s=>s.w==l)=some s∧ysI s l)∨(zW.find? (fun s=>s.w==l)=none∧yas l=none):=by
 by_cases h0:l=[109]
 ·subst h0
  exact .inl ⟨_,rfl,.inr ⟨rfl,_,rfl,by rw [show yO _=((1:Nat):Rat)/((1:Nat):Rat) from zC rfl];simp⟩⟩
 by_cases h1:l=[115]
 ·subst h1
  exact .inl ⟨_,rfl,.inr ⟨rfl,_,rfl,by rw [show yO _=((1:Nat):Rat)/((1:Nat):Rat) from zC rfl];simp⟩⟩
 by_cases h2:l=[75]
 ·subst h2
  exact .inl ⟨_,rfl,.inr ⟨rfl,_,rfl,by rw [show yO _=((1:Nat):Rat)/((1:Nat):Rat) from zC rfl];simp⟩⟩
 by_cases h3:l=[109,111,108]
 ·subst h3
  exact .inl ⟨_,rfl,.inr ⟨rfl,_,rfl,by rw [show yO _=((1:Nat):Rat)/((1:Nat):Rat) from zC rfl];simp⟩⟩
 by_cases h4:l=[65]
 ·subst h4
  exact .inl ⟨_,rfl,.inr ⟨rfl,_,rfl,by rw [show yO _=((1:Nat):Rat)/((1:Nat):Rat) from zC rfl];simp⟩⟩
 by_cases h5:l=[99,100]
 ·subst h5
  exact .inl ⟨_,rfl,.inr ⟨rfl,_,rfl,by rw [show yO _=((1:Nat):Rat)/((1:Nat):Rat) from zC rfl];simp⟩⟩
 by_cases h6:l=[103]
 ·subst h6
  exact .inl ⟨_,rfl,.inr ⟨rfl,_,rfl,by rw [show yO _=((1:Nat):Rat)/((1000:Nat):Rat) from zC rfl];simp⟩⟩
 by_cases h7:l=[109,105,110]
 ·subst h7
  exact .inl ⟨_,rfl,.inr ⟨rfl,_,rfl,by rw [show yO _=((60:Nat):Rat)/((1:Nat):Rat) from zC rfl];simp⟩⟩
 by_cases h8:l=[104]
 ·subst h8
  exact .inl ⟨_,rfl,.inr ⟨rfl,_,rfl,by rw [show yO _=((3600:Nat):Rat)/((1:Nat):Rat) from zC rfl];simp⟩⟩
 by_cases h9:l=[100]
 ·subst h9
  exact .inl ⟨_,rfl,.inr ⟨rfl,_,rfl,by rw [show yO _=((86400:Nat):Rat)/((1:Nat):Rat) from zC rfl];simp⟩⟩
 by_cases h10:l=[116]
 ·subst h10
  exact .inl ⟨_,rfl,.inr ⟨rfl,_,rfl,by rw [show yO _=((1000:Nat):Rat)/((1:Nat):Rat) from zC rfl];simp⟩⟩
 by_cases h11:l=[76]
 ·subst h11
  exact .inl ⟨_,rfl,.inr ⟨rfl,_,rfl,by rw [show yO _=((1:Nat):Rat)/((1000:Nat):Rat) from zC rfl];simp⟩⟩
 by_cases h12:l=[72,122]
 ·subst h12
  exact .inl ⟨_,rfl,.inr ⟨rfl,_,rfl,by rw [show yO _=((1:Nat):Rat)/((1:Nat):Rat) from zC rfl];simp⟩⟩
 by_cases h13:l=[78]
 ·subst h13
  exact .inl ⟨_,rfl,.inr ⟨rfl,_,rfl,by rw [show yO _=((1:Nat):Rat)/((1:Nat):Rat) from zC rfl];simp⟩⟩
 by_cases h14:l=[80,97]
 ·subst h14
  exact .inl ⟨_,rfl,.inr ⟨rfl,_,rfl,by rw [show yO _=((1:Nat):Rat)/((1:Nat):Rat) from zC rfl];simp⟩⟩
 by_cases h15:l=[74]
 ·subst h15
  exact .inl ⟨_,rfl,.inr ⟨rfl,_,rfl,by rw [show yO _=((1:Nat):Rat)/((1:Nat):Rat) from zC rfl];simp⟩⟩
 by_cases h16:l=[87]
 ·subst h16
  exact .inl ⟨_,rfl,.inr ⟨rfl,_,rfl,by rw [show yO _=((1:Nat):Rat)/((1:Nat):Rat) from zC rfl];simp⟩⟩
 by_cases h17:l=[98,97,114]
 ·subst h17
  exact .inl ⟨_,rfl,.inr ⟨rfl,_,rfl,by rw [show yO _=((100000:Nat):Rat)/((1:Nat):Rat) from zC rfl];simp⟩⟩
 by_cases h18:l=[100,101,103,67]
 ·subst h18
  exact .inl ⟨_,rfl,.inl ⟨rfl,rfl,rfl,.inl rfl⟩⟩
 by_cases h19:l=[100,101,103,70]
 ·subst h19
  exact .inl ⟨_,rfl,.inl ⟨rfl,rfl,rfl,.inr rfl⟩⟩
 refine .inr ⟨?_,?_⟩
 ·rw [List.find?_eq_none]
  intro s hs
  have hw:s.w ∈ zW.map (·.w):=List.mem_map.2 ⟨s,hs,rfl⟩
  simp only [zW,List.map_cons,List.map_nil,List.mem_cons,List.not_mem_nil,or_false] at hw
  intro e
  have e2:s.w=l:=by simpa using e
  rw [e2] at hw
  rcases hw with h|h|h|h|h|h|h|h|h|h|h|h|h|h|h|h|h|h|h|h
  ·exact h0 h
  ·exact h1 h
  ·exact h2 h
  ·exact h3 h
  ·exact h4 h
  ·exact h5 h
  ·exact h6 h
  ·exact h7 h
  ·exact h8 h
  ·exact h9 h
  ·exact h10 h
  ·exact h11 h
  ·exact h12 h
  ·exact h13 h
  ·exact h14 h
  ·exact h15 h
  ·exact h16 h
  ·exact h17 h
  ·exact h18 h
  ·exact h19 h
 ·unfold yas
  simp [h0,h1,h2,h3,h4,h5,h6,h7,h8,h9,h10,h11,h12,h13,h14,h15,h16,h17]
theorem ypd (t:List UInt8):zW.find? (fun s=>s.pre&&s.w==t)=match zW.find? (fun s=>s.w==t) with
  | some s=>if s.pre then some s else none
  | none=>none:=by
 by_cases h0:t=[109]
 ·subst h0;rfl
 by_cases h1:t=[115]
 ·subst h1;rfl
 by_cases h2:t=[75]
 ·subst h2;rfl
 by_cases h3:t=[109,111,108]
 ·subst h3;rfl
 by_cases h4:t=[65]
 ·subst h4;rfl
 by_cases h5:t=[99,100]
 ·subst h5;rfl
 by_cases h6:t=[103]
 ·subst h6;rfl
 by_cases h7:t=[109,105,110]
 ·subst h7;rfl
 by_cases h8:t=[104]
 ·subst h8;rfl
 by_cases h9:t=[100]
 ·subst h9;rfl
 by_cases h10:t=[116]
 ·subst h10;rfl
 by_cases h11:t=[76]
 ·subst h11;rfl
 by_cases h12:t=[72,122]
 ·subst h12;rfl
 by_cases h13:t=[78]
 ·subst h13;rfl
 by_cases h14:t=[80,97]
 ·subst h14;rfl
 by_cases h15:t=[74]
 ·subst h15;rfl
 by_cases h16:t=[87]
 ·subst h16;rfl
 by_cases h17:t=[98,97,114]
 ·subst h17;rfl
 by_cases h18:t=[100,101,103,67]
 ·subst h18;rfl
 by_cases h19:t=[100,101,103,70]
 ·subst h19;rfl
 have hn:∀ s ∈ zW,s.w≠t:=by
  intro s hs e
  have hw:s.w ∈ zW.map (·.w):=List.mem_map.2 ⟨s,hs,rfl⟩
  simp only [zW,List.map_cons,List.map_nil,List.mem_cons,List.not_mem_nil,or_false] at hw
  rw [e] at hw
  rcases hw with h|h|h|h|h|h|h|h|h|h|h|h|h|h|h|h|h|h|h|h
  ·exact h0 h
  ·exact h1 h
  ·exact h2 h
  ·exact h3 h
  ·exact h4 h
  ·exact h5 h
  ·exact h6 h
  ·exact h7 h
  ·exact h8 h
  ·exact h9 h
  ·exact h10 h
  ·exact h11 h
  ·exact h12 h
  ·exact h13 h
  ·exact h14 h
  ·exact h15 h
  ·exact h16 h
  ·exact h17 h
  ·exact h18 h
  ·exact h19 h
 have e1:zW.find? (fun s=>s.pre&&s.w==t)=none:=List.find?_eq_none.2 (fun s hs e=>by rw [Bool.and_eq_true] at e;exact hn s hs (by simpa using e.2))
 have e2:zW.find? (fun s=>s.w==t)=none:=List.find?_eq_none.2 (fun s hs=>by simp [hn s hs])
 rw [e1,e2]
theorem yl5 (l:List UInt8):(jU l=none∧uX l=none)∨∃ s q,jU l=some (s,q)∧((s.off=true∧uX l=none∧(l=ybM∨l=ybN))∨(s.off=false∧uX l=some (q,s.ps))):=by
 rcases yoy l with ⟨s,h1,h2⟩|⟨h1,h2⟩
 ·refine .inr ⟨s,_,by unfold jU;rw [h1],?_⟩
  rcases h2 with ⟨a,-,-,d⟩|⟨a,v,hv,hr⟩
  ·refine .inl ⟨a,?_,d⟩
   rcases d with rfl|rfl<;>rfl
  ·refine .inr ⟨a,?_⟩
   unfold uX
   rw [hv]
   simp only
   rw [hr]
 ·cases l with
  | nil=>exact .inl ⟨by unfold jU;rw [h1],by unfold uX;rw [h2]⟩
  | cons c t =>
   by_cases hp:jD c=[]
   ·refine .inl ⟨by unfold jU;rw [h1];simp only;rw [hp];rfl,?_⟩
    unfold uX
    rw [h2]
    simp only
    split
    ·rw [if_pos hp]
    ·rfl
   ·have hpe:(jD c).isEmpty=false:=by simpa using hp
    have hf:jU (c::t)=match zW.find? (fun s=>s.pre&&s.w==t) with
      | some s=>some (s,yO (jD c)*((s.o:Rat)/(s.b:Rat)))
      | none=>none:=by
     unfold jU;rw [h1];simp only;rw [hpe,if_neg (by decide)]
     cases zW.find? (fun s=>s.pre&&s.w==t)<;>rfl
    have hw:uX (c::t)=match yas t with
      | some (v,ps,true)=>some (yO (jD c)*yO v,ps)
      | _=>none:=by
     unfold uX;rw [h2];simp only
     cases yas t with
     | none=>rfl
     | some x =>
      obtain ⟨v,ps,b⟩:=x
      cases b with
      | false=>rfl
      | true=>simp only;rw [if_neg hp]
    rw [hf,hw,ypd]
    rcases yoy t with ⟨s,h3,h4⟩|⟨h3,h4⟩
    ·rw [h3]
     simp only
     rcases h4 with ⟨a,b,d,-⟩|⟨a,v,hv,hr⟩
     ·rw [b,d];exact .inl ⟨rfl,rfl⟩
     ·rw [hv]
      cases hb:s.pre with
      | false=>exact .inl ⟨rfl,rfl⟩
      | true=>exact .inr ⟨s,_,rfl,.inr ⟨a,by simp only;rw [hr]⟩⟩
    ·rw [h3,h4];exact .inl ⟨rfl,rfl⟩
def ycY (W:World) (cs:List Value) (d:Int) (f:FacR):Prop:=∃ (qb:Bool) (qx:Option Addr) (qn qc:Nat) (qy:Option Addr) (qm qd:Nat) (SW:ByteArray) (so sb:Int) (pre:Bool) (a0 a1 a2 a3 a4 a5 a6:Int) (off:Bool) (z p:Int) (isw:Bool) (ex:Int) (ra:Bool),cs=[.int .i64 d,.bool qb,.slice qx qn qc,.slice qy qm qd,.string SW,.int .i64 so,.int .i64 sb,.bool pre,.int .i64 a0,.int .i64 a1,.int .i64 a2,.int .i64 a3,.int .i64 a4,.int .i64 a5,.int .i64 a6,.bool off,.int .i64 z,.int .i64 p,.bool isw,.int .i64 ex,.bool ra]∧f=⟨f.q,⟨SW.data.toList,so,sb,pre,[a0,a1,a2,a3,a4,a5,a6],off,z,p⟩,isw,ex,ra⟩∧zH W (.agg #[.bool qb,.slice qx qn qc,.slice qy qm qd]) f.q
structure FacsR (W:World) (base:Nat) (v:Value) (css:List (List Value)) (fs:List (Int × FacR)):Prop where
 row:yav W base 48 21 v fs.length css.flatten
 len:css.length=fs.length
 each:∀ j (h:j<css.length) (h':j<fs.length),ycY W css[j] fs[j].1 fs[j].2
theorem ymE {W W':World} {base:Nat} {e:TypeId} {size:Nat} {v:Value} {n:Nat} {xs:List Value} (h:yav W base e size v n xs) (hg:W.grownBy W' v.ownBlock) {p:Option Addr} {m:Nat} {l:List Nat} (hr:Rd W p m l):Rd W' p m l:=by
 refine ⟨hr.len,?_⟩
 rcases hr.cell with h0|⟨b,off,hp,hlt,hcl⟩
 ·exact .inl h0
 ·by_cases hm:m=0
  ·exact .inl hm
  refine .inr ⟨b,off,hp,Nat.lt_of_lt_of_le hlt hg.size,fun j hj=>?_⟩
  have hne:some b≠v.ownBlock:=by
   intro hb
   obtain ⟨⟨-,h5⟩,h6⟩:=h
   rcases h5 with ⟨rfl,-⟩|⟨g,cap,cur,rfl,-,hgg,-⟩
   ·cases hb
   ·simp only [Value.ownBlock,Option.some.injEq] at hb
    subst hb
    have h7:=hcl 0 (by omega)
    rw [yB hgg] at h7
    have:Value.int .u64 ((l.getD 0 0:Nat):Int) ∈ cur.toList:=by
     obtain ⟨hi,he⟩:=Array.getElem?_eq_some_iff.1 h7
     rw [← he];simp
    exact h6 _ _ _ rfl _ _ _ hgg _ this _ rfl
  rw [← hcl j hj]
  exact World.cell?_of_block (w:=W) (hg.block b hlt hne)
theorem ymF {W W':World} {base:Nat} {e:TypeId} {size:Nat} {v:Value} {n:Nat} {xs:List Value} (h:yav W base e size v n xs) (hg:W.grownBy W' v.ownBlock) {x:Value} {q:Rat} (hx:zH W x q):zH W' x q:=by
 have one:∀ {v:Value} {x:Nat},yL W v x→yL W' v x:=fun hx=>by
  obtain ⟨p,n,c,l,h1,h2,h3,h4⟩:=hx
  exact ⟨p,n,c,l,h1,h2,ymE h hg h3,h4⟩
 obtain ⟨u,v,rfl,hu,hv⟩:=hx
 exact ⟨u,v,rfl,one hu,hv.imp one fun h=>⟨one h.1,h.2⟩⟩
theorem ycY.to {W W':World} {cs:List Value} {d:Int} {f:FacR} (h:ycY W cs d f) (hq:∀ v,zH W v f.q→zH W' v f.q):ycY W' cs d f:=by
 obtain ⟨qb,qx,qn,qc,qy,qm,qd,SW,so,sb,pre,a0,a1,a2,a3,a4,a5,a6,off,z,p,isw,ex,ra,h1,h2,h3⟩:=h
 exact ⟨qb,qx,qn,qc,qy,qm,qd,SW,so,sb,pre,a0,a1,a2,a3,a4,a5,a6,off,z,p,isw,ex,ra,h1,h2,hq _ h3⟩
theorem FacsR.below {W W':World} {base:Nat} {v:Value} {css:List (List Value)} {fs:List (Int × FacR)} (h:FacsR W base v css fs) (hb:Below W.heap.size W W'):FacsR W' base v css fs :=
 ⟨h.row.below hb,h.len,fun j h1 h2=>(h.each j h1 h2).to fun _ hq=>hq.below hb⟩
theorem FacsR.nil (W:World) (base:Nat):FacsR W base (.slice none 0 0) [] []:=⟨yav.nil W base 48 21,rfl,fun j h=>by simp at h⟩
theorem FacsR.more {W W':World} {base:Nat} {v v':Value} {css:List (List Value)} {fs:List (Int × FacR)} {cs:List Value} {d:Int} {f:FacR} (h:FacsR W base v css fs) (hc:ycY W cs d f) (hr:yav W' base 48 21 v' (fs.length+1) (css.flatten++cs)) (hg:W.grownBy W' v.ownBlock):FacsR W' base v' (css++[cs]) (fs++[(d,f)]):=by
 have keep:∀ {cs d f},ycY W cs d f→ycY W' cs d f:=fun hx=>hx.to fun _ hq=>ymF h.row hg hq
 refine ⟨?_,by simp [h.len],?_⟩
 ·rw [List.flatten_append,List.length_append]
  simpa using hr
 ·intro j h1 h2
  by_cases hj:j<css.length
  ·have hj':j<fs.length:=by rw [← h.len];exact hj
   rw [List.getElem_append_left hj,List.getElem_append_left hj']
   exact keep (h.each j hj hj')
  ·have e1:j=css.length:=by simp at h1;omega
   subst e1
   have:(fs++[(d,f)])[css.length]=(d,f):=by simp [h.len]
   rw [this]
   simp only [List.getElem_concat_length]
   exact keep hc
def zB (l:List UInt8) (dir:Int) (acc:List (Int × FacR)):Nat→Option (List (Int × FacR))
 | 0=>none
 | fuel+1=>match uL l with
  | none=>none
  | some (f,n)=>if n=l.length then some (acc++[(dir,f)]) else
   match l.drop n with
   | 32::t=>zB t 1 (acc++[(dir,f)]) fuel
   | 47::t=>zB t (-1) (acc++[(dir,f)]) fuel
   | _=>none
theorem ymG {t:List UInt8} {a:Int} {k:Nat} (h:yc1 t=some (a,k)):0<k∧k≤t.length∧-1000≤a∧a≤1000:=by
 have b:∀ u:List UInt8,0≤whT (u.take (yF u))∧whT (u.take (yF u))≤1000:=fun u=>by
  have h:=ye0 (yaU u)
  omega
 by_cases hm:∃ u,t=45::u
 ·obtain ⟨u,rfl⟩:=hm
  have e:yc1 (45::u)=if yF u=0 then none else some (-whT (u.take (yF u)),1+yF u):=rfl
  have h1:=b u
  have h2:=vN u
  rw [e] at h
  split at h
  ·cases h
  ·cases h
   simp only [List.length_cons]
   omega
 ·rw [yfb (fun u e=>hm ⟨u,e⟩)] at h
  have h1:=b t
  have h2:=vN t
  split at h
  ·cases h
  ·cases h
   omega
theorem ymH:jU []=none:=by
 rcases yl5 [] with ⟨h,-⟩|⟨s,q,-,⟨-,-,h|h⟩|⟨-,h⟩⟩
 ·exact h
 ·exact absurd h (by decide)
 ·exact absurd h (by decide)
 ·cases h
theorem yfp {l:List UInt8} {f:FacR} {n:Nat} (h:uL l=some (f,n)):0<n∧n≤l.length∧-1000≤f.e∧f.e≤1000:=by
 unfold uL at h
 split at h
 ·rename_i hd
  unfold yb8 at h
  split at h
  ·cases h
   exact ⟨yjf hd,ymj l,(by decide:(-1000:Int)≤1),(by decide:(1:Int)≤1000)⟩
  ·cases h
 ·have hle:=ybU l
  cases hf:jU (l.take (zG l)) with
  | none=>rw [yaD hf] at h;cases h
  | some x =>
   obtain ⟨s,q⟩:=x
   have hpos:0<zG l:=by
    apply Nat.pos_of_ne_zero
    intro h0
    rw [h0,List.take_zero,ymH] at hf;cases hf
   by_cases h94:∃ t,l.drop (zG l)=94::t
   ·obtain ⟨t,ht⟩:=h94
    have h3:=congrArg List.length ht
    rw [List.length_drop,List.length_cons] at h3
    rw [yaj hf ht,Option.map_eq_some_iff] at h
    obtain ⟨⟨a,k⟩,hx,hy⟩:=h
    cases hy
    obtain ⟨h4,h5,h6,h7⟩:=ymG hx
    exact ⟨by omega,by simp only;omega,h6,h7⟩
   ·rw [GQ hf (fun t ht=>h94 ⟨t,ht⟩)] at h
    cases h
    exact ⟨hpos,hle,(by decide:(-1000:Int)≤1),(by decide:(1:Int)≤1000)⟩
theorem yc7 {l:List UInt8} {dir:Int} {acc:List (Int × FacR)} {F:Nat} (h:uL l=none):zB l dir acc (F+1)=none:=by
 unfold zB;rw [h]
theorem ya4 {l:List UInt8} {dir:Int} {acc:List (Int × FacR)} {F n:Nat} {f:FacR} (h:uL l=some (f,n)) (hn:n=l.length):zB l dir acc (F+1)=some (acc++[(dir,f)]):=by
 unfold zB;rw [h];simp only;rw [if_pos hn]
theorem ycH {l t:List UInt8} {dir:Int} {acc:List (Int × FacR)} {F n:Nat} {f:FacR} (h:uL l=some (f,n)) (hn:n≠l.length) (hd:l.drop n=32::t):zB l dir acc (F+1)=zB t 1 (acc++[(dir,f)]) F:=by
 rw [zB,h];simp only;rw [if_neg hn];simp only [hd]
theorem ycI {l t:List UInt8} {dir:Int} {acc:List (Int × FacR)} {F n:Nat} {f:FacR} (h:uL l=some (f,n)) (hn:n≠l.length) (hd:l.drop n=47::t):zB l dir acc (F+1)=zB t (-1) (acc++[(dir,f)]) F:=by
 rw [zB,h];simp only;rw [if_neg hn];simp only [hd]
theorem ycJ {l t:List UInt8} {c:UInt8} {dir:Int} {acc:List (Int × FacR)} {F n:Nat} {f:FacR} (h:uL l=some (f,n)) (hn:n≠l.length) (hd:l.drop n=c::t) (h1:c≠32) (h2:c≠47):zB l dir acc (F+1)=none:=by
 rw [zB,h];simp only;rw [if_neg hn];simp only [hd]
 split
 ·rename_i he;simp only [List.cons.injEq] at he;exact absurd he.1 h1
 ·rename_i he;simp only [List.cons.injEq] at he;exact absurd he.1 h2
 ·rfl
def ycL (o:Option (List (Int × FacR))) (w:World) (e:Ending) (w':World):Prop :=
 Below w.heap.size w w'∧match o with
 | none=>e=.returned (.tuple #[.slice none 0 0,.bool false])
 | some fs=>∃ v css,e=.returned (.tuple #[v,.bool true])∧FacsR w' w.heap.size v css fs
structure FactInv (s t:ByteArray) (w wr:World) (v:Value) (dir:Int) (fs:List (Int × FacR)) (css:List (List Value)) (F:Nat):Prop where
 facs:FacsR wr w.heap.size v css fs
 below:Below w.heap.size w wr
 size:fs.length+t.size≤s.size
 fuel:t.size<F
 eq:zB s.data.toList 1 [] (s.size+1)=zB t.data.toList dir fs F
theorem yrP:(Tryz.prog.info? 48).map (fun i=>(i.zero,i.size,i.bytes))=some (some (.agg #[.int .i64 0,.bool false,.slice none 0 0,.slice none 0 0,.string ⟨#[]⟩,.int .i64 0,.int .i64 0,.bool false,.int .i64 0,.int .i64 0,.int .i64 0,.int .i64 0,.int .i64 0,.int .i64 0,.int .i64 0,.bool false,.int .i64 0,.int .i64 0,.bool false,.int .i64 0,.bool false]),21,208):=by kernel_rfl
theorem ycY.len {W:World} {cs:List Value} {d:Int} {f:FacR} (h:ycY W cs d f):cs.length=21:=by
 obtain ⟨qb,qx,qn,qc,qy,qm,qd,SW,so,sb,pre,a0,a1,a2,a3,a4,a5,a6,off,z,p,isw,ex,ra,h1,-,-⟩:=h
 rw [h1];rfl
theorem yrQ:∀ (l:List (List Value)) (k:Nat) (hk:k<l.length),(∀ cs ∈ l,cs.length=21)→∀ i,i<21→l.flatten[k*21+i]?=l[k][i]?:=by
 intro l
 induction l with
 | nil=>intro k hk;simp at hk
 | cons x l ih =>
  intro k hk ha i hi
  have hx:x.length=21:=ha x (List.mem_cons_self ..)
  cases k with
  | zero =>
   rw [List.flatten_cons,Nat.zero_mul,Nat.zero_add,List.getElem?_append_left (by omega)]
   rfl
  | succ k =>
   rw [List.flatten_cons,List.getElem?_append_right (by omega),hx,show (k+1)*21+i-21=k*21+i from by omega]
   exact ih k (by simpa using hk) (fun cs hc=>ha cs (List.mem_cons_of_mem _ hc)) i hi
theorem FacsR.cells {W:World} {base:Nat} {v:Value} {css:List (List Value)} {fs:List (Int × FacR)} (h:FacsR W base v css fs) {k:Nat} (hk:k<fs.length):∃ (g cap:Nat) (qb:Bool) (qx:Option Addr) (qn qc:Nat) (qy:Option Addr) (qm qd:Nat) (SW:ByteArray) (so sb:Int) (pre:Bool) (a0 a1 a2 a3 a4 a5 a6:Int) (off:Bool) (z p:Int) (isw:Bool) (ex:Int) (ra:Bool),v=.slice (some ⟨g,0,none⟩) fs.length cap∧g<W.heap.size∧W.rangeAt g (k*21) [.int .i64 fs[k].1,.bool qb,.slice qx qn qc,.slice qy qm qd,.string SW,.int .i64 so,.int .i64 sb,.bool pre,.int .i64 a0,.int .i64 a1,.int .i64 a2,.int .i64 a3,.int .i64 a4,.int .i64 a5,.int .i64 a6,.bool off,.int .i64 z,.int .i64 p,.bool isw,.int .i64 ex,.bool ra]∧fs[k].2=⟨fs[k].2.q,⟨SW.data.toList,so,sb,pre,[a0,a1,a2,a3,a4,a5,a6],off,z,p⟩,isw,ex,ra⟩∧zH W (.agg #[.bool qb,.slice qx qn qc,.slice qy qm qd]) fs[k].2.q:=by
 have hk':k<css.length:=by rw [h.len];exact hk
 have hlk:=(h.each k hk' hk).len
 obtain ⟨qb,qx,qn,qc,qy,qm,qd,SW,so,sb,pre,a0,a1,a2,a3,a4,a5,a6,off,z,p,isw,ex,ra,hcs,hf,hq⟩:=h.each k hk' hk
 obtain ⟨⟨hl,hr⟩,-⟩:=h.row
 rcases hr with ⟨-,h0⟩|⟨g,cap,cur,hv,-,hg,hcap,-,hsz,ygc⟩
 ·omega
 ·refine ⟨g,cap,qb,qx,qn,qc,qy,qm,qd,SW,so,sb,pre,a0,a1,a2,a3,a4,a5,a6,off,z,p,isw,ex,ra,hv,(Array.getElem?_eq_some_iff.1 hg).1,?_,hf,hq⟩
  intro i u hu
  rw [← hcs] at hu
  have hi:i<21:=by
   have:=(List.getElem?_eq_some_iff.1 hu).1
   omega
  have jR:∀ cs ∈ css,cs.length=21:=by
   intro cs hc
   obtain ⟨j,hj,rfl⟩:=List.getElem_of_mem hc
   exact (h.each j hj (by rw [← h.len];exact hj)).len
  rw [yB hg,← hu,← yrQ css k hk' jR i hi,← ygc,List.getElem?_take_of_lt (by omega),Array.getElem?_toList]
theorem yqu (d:Int) (qb:Bool) (qx:Option Addr) (qn qc:Nat) (qy:Option Addr) (qm qd:Nat) (SW:ByteArray) (so sb:Int) (pre:Bool) (a0 a1 a2 a3 a4 a5 a6:Int) (off:Bool) (z p:Int) (isw:Bool) (ex:Int) (ra:Bool):∀ u ∈ ([.int .i64 d,.bool qb,.slice qx qn qc,.slice qy qm qd,.string SW,.int .i64 so,.int .i64 sb,.bool pre,.int .i64 a0,.int .i64 a1,.int .i64 a2,.int .i64 a3,.int .i64 a4,.int .i64 a5,.int .i64 a6,.bool off,.int .i64 z,.int .i64 p,.bool isw,.int .i64 ex,.bool ra]:List Value),u.oneCell'=true:=by
 intro u h
 simp only [List.mem_cons,List.not_mem_nil,or_false] at h
 rcases h with rfl|rfl|rfl|rfl|rfl|rfl|rfl|rfl|rfl|rfl|rfl|rfl|rfl|rfl|rfl|rfl|rfl|rfl|rfl|rfl|rfl<;>rfl
theorem yjy (s:ByteArray) (w:World) (hmax:(s.size:Int)≤1000) (HTK:Hid (∀ (t:ByteArray) W,(t.size:Int)≤1000→Calls Tryz.prog 35 #[.string t] W (yaZ (uL t.data.toList) W))):Calls Tryz.prog 15 #[.string s] w (ycL (zB s.data.toList 1 [] (s.size+1)) w):=by
 obtain ⟨i0,hi,hz0,hz1,hz2⟩:=info_parts yrP
 have hst:Hid (∃ fs css F,FactInv s s w w (.slice none 0 0) 1 fs css F):=yA ⟨[],[],s.size+1,FacsR.nil _ _,Below.refl _ _,by simp,by omega,rfl⟩
 go_enter Tryz.func15,Tryz.ntmps15
 go_wp2_with fail
 go_loopw [0,4,5] (fun sv fv dv wr=>∃ (t:ByteArray) (dir:Int),sv=.string t∧dv=.int .i64 dir∧(t.size:Int)≤1000∧Hid (∃ fs css F,FactInv s t w wr fv dir fs css F)) (fun sv _ _ _=>ybJ sv)
 case atStart=>exact ⟨s,1,rfl,rfl,hmax,hst⟩
 case round =>
  obtain ⟨t,dir,rfl,rfl,hmt,ycB⟩:=hrel
  obtain ⟨fs,css,F,yI⟩:=ycB.out
  have Hinv:=yA yI
  clear yI ycB hst
  obtain ⟨F',hF'⟩:∃ F',F=F'+1:=⟨F-1,by have:=Hinv.out.fuel;omega⟩
  subst hF'
  have hlen:t.data.toList.length=t.size:=by simp
  have HTA:=yA (HTK.out t wr hmt)
  obtain ⟨o,HO⟩:∃ o,Hid (uL t.data.toList=o):=⟨_,yA rfl⟩
  rw [HO.out] at HTA
  go_wp2_with fail
  refine HTA.out.mono ?_
  rintro e w2 ⟨qb,qx,qn,qc,qy,qm,qd,SW,so,sb,pre,a0,a1,a2,a3,a4,a5,a6,off,z,p,isw,ex,ra,m,rfl,hb2,yZ⟩
  obtain ⟨ok,HOK⟩:∃ ok,Hid (o.isSome=ok):=⟨_,yA rfl⟩
  rw [HOK.out]
  have HV:=yA yZ
  have HBX:Hid (BX 48 21 (w2.alloc (.cells #[.int .i64 0,.bool false,.slice none 0 0,.slice none 0 0,.string ⟨#[]⟩,.int .i64 0,.int .i64 0,.bool false,.int .i64 0,.int .i64 0,.int .i64 0,.int .i64 0,.int .i64 0,.int .i64 0,.int .i64 0,.bool false,.int .i64 0,.int .i64 0,.bool false,.int .i64 0,.bool false] 48)) w2.heap.size):=yA (uT (yV _ _))
  have Hb2:=yA (Hinv.out.below.trans (hb2.mono Hinv.out.below.size))
  have Hr2:=yA (Hinv.out.facs.below hb2)
  clear yZ hb2 HTA
  go_wp2_with (refine zO rfl 48 21 (.tmp 6) (.tmp 12) rfl w2.heap.size [.int .i64 0,.bool qb,.slice qx qn qc,.slice qy qm qd,.string SW,.int .i64 so,.int .i64 sb,.bool pre,.int .i64 a0,.int .i64 a1,.int .i64 a2,.int .i64 a3,.int .i64 a4,.int .i64 a5,.int .i64 a6,.bool off,.int .i64 z,.int .i64 p,.bool isw,.int .i64 ex,.bool ra] rfl rfl HBX.out rfl (by kernel_rfl) (GC _ _ _ _ _ _ _ _ _ _ _ _ _ _ _ _ _ _ _ _ _ _ _ _ _) (by simp [Value.oneCell']) ?_)
  intro W8 h8 st8
  obtain ⟨g,HG⟩:∃ g,Hid (w2.heap.size=g):=⟨_,yA rfl⟩
  rw [HG.out] at h8 st8 ⊢
  have HB8:=yA (st8.keep w2 [] (Nat.le_of_eq HG.out) (fun x hx=>by cases hx) ⟨zK _ _,fun x hx=>by cases hx⟩).below
  have H8:=yA h8
  have HS8:=yA st8.box
  clear h8 st8 HBX
  cases o with
  | none =>
   have HKF:ok=false:=HOK.out.symm
   subst HKF
   have yP:Hid (zB s.data.toList 1 [] (s.size+1)=none):=yA (Hinv.out.eq.trans (yc7 HO.out))
   have hbw:=yA (Hb2.out.trans (HB8.out.mono Hb2.out.size))
   go_wp2_with fail
   go_ret2
   rw [yP.out]
   exact ⟨hbw.out,rfl⟩
  | some fn =>
   obtain ⟨f,n⟩:=fn
   have HKT:ok=true:=HOK.out.symm
   subst HKT
   obtain ⟨rfl,hf,hq⟩:=HV.out f n rfl
   have Hf:=yA hf
   have HQ:=yA hq
   have Hsp:=yA (yfp HO.out)
   have hmt0:(0:Int)<(m:Int):=by have:=Hsp.out;omega
   have hmts:(m:Int)≤t.size:=by have:=Hsp.out;omega
   clear hf hq HV
   obtain ⟨z0,k0,e0⟩:=HS8.out.slot 0 (by omega)
   obtain ⟨WE,HWE⟩:∃ WE,Hid (W8.setCell ⟨g,0,none⟩ (.int .i64 dir)=WE):=⟨_,yA rfl⟩
   have HHE:Hid (WE.heap[g]?=some (.cells #[.int .i64 dir,.bool qb,.slice qx qn qc,.slice qy qm qd,.string SW,.int .i64 so,.int .i64 sb,.bool pre,.int .i64 a0,.int .i64 a1,.int .i64 a2,.int .i64 a3,.int .i64 a4,.int .i64 a5,.int .i64 a6,.bool off,.int .i64 z,.int .i64 p,.bool isw,.int .i64 ex,.bool ra] 48 (0,0))):=yA (by rw [← HWE.out];exact yK g 0 _ 48 _ H8.out)
   have HBE:Hid (Below w2.heap.size w2 WE):=yA (by rw [← HWE.out];exact HB8.out.setCell (Nat.le_of_eq HG.out) _)
   have HRE:Hid (WE.rangeAt g 0 [.int .i64 dir,.bool qb,.slice qx qn qc,.slice qy qm qd,.string SW,.int .i64 so,.int .i64 sb,.bool pre,.int .i64 a0,.int .i64 a1,.int .i64 a2,.int .i64 a3,.int .i64 a4,.int .i64 a5,.int .i64 a6,.bool off,.int .i64 z,.int .i64 p,.bool isw,.int .i64 ex,.bool ra]):=yA (fun j v hj=>by
    rw [Nat.zero_add,yB HHE.out];simpa using hj)
   go_upto_region 7 with fail
   rw [HWE.out]
   clear HWE k0 e0
   have HRW:=yA ((Hr2.out.below HBE.out).row)
   have HFR:Hid (∀ (w5:World) v',yav w5 w.heap.size 48 21 v' (fs.length+1) (css.flatten++[.int .i64 dir,.bool qb,.slice qx qn qc,.slice qy qm qd,.string SW,.int .i64 so,.int .i64 sb,.bool pre,.int .i64 a0,.int .i64 a1,.int .i64 a2,.int .i64 a3,.int .i64 a4,.int .i64 a5,.int .i64 a6,.bool off,.int .i64 z,.int .i64 p,.bool isw,.int .i64 ex,.bool ra])→(WE.alloc (.cells #[.int .i64 dir,.bool qb,.slice qx qn qc,.slice qy qm qd,.string SW,.int .i64 so,.int .i64 sb,.bool pre,.int .i64 a0,.int .i64 a1,.int .i64 a2,.int .i64 a3,.int .i64 a4,.int .i64 a5,.int .i64 a6,.bool off,.int .i64 z,.int .i64 p,.bool isw,.int .i64 ex,.bool ra] 48)).grownBy w5 u4.ownBlock→FacsR w5 w.heap.size v' (css++[[.int .i64 dir,.bool qb,.slice qx qn qc,.slice qy qm qd,.string SW,.int .i64 so,.int .i64 sb,.bool pre,.int .i64 a0,.int .i64 a1,.int .i64 a2,.int .i64 a3,.int .i64 a4,.int .i64 a5,.int .i64 a6,.bool off,.int .i64 z,.int .i64 p,.bool isw,.int .i64 ex,.bool ra]]) (fs++[(dir,f)])∧Below w.heap.size w w5):=yA (by
    intro w5 v' vU hg
    have hb4:=HBE.out.trans ((zK WE (.cells #[.int .i64 dir,.bool qb,.slice qx qn qc,.slice qy qm qd,.string SW,.int .i64 so,.int .i64 sb,.bool pre,.int .i64 a0,.int .i64 a1,.int .i64 a2,.int .i64 a3,.int .i64 a4,.int .i64 a5,.int .i64 a6,.bool off,.int .i64 z,.int .i64 p,.bool isw,.int .i64 ex,.bool ra] 48)).mono HBE.out.size)
    have hf:=Hr2.out.below hb4
    refine ⟨hf.more ⟨qb,qx,qn,qc,qy,qm,qd,SW,so,sb,pre,a0,a1,a2,a3,a4,a5,a6,off,z,p,isw,ex,ra,rfl,Hf.out,HQ.out.below hb4⟩ vU hg,?_⟩
    have hbw:=Hb2.out.trans (hb4.mono Hb2.out.size)
    refine Below.grown hbw hg hbw.size ?_
    intro k hk
    rcases hf.row.1.2 with ⟨rfl,-⟩|⟨g',cap,cur,rfl,hbg,-⟩
    ·cases hk
    ·simp only [Value.ownBlock,Option.some.injEq] at hk
     omega)
   have HWB:Hid (w.heap.size≤(WE.alloc (.cells #[.int .i64 dir,.bool qb,.slice qx qn qc,.slice qy qm qd,.string SW,.int .i64 so,.int .i64 sb,.bool pre,.int .i64 a0,.int .i64 a1,.int .i64 a2,.int .i64 a3,.int .i64 a4,.int .i64 a5,.int .i64 a6,.bool off,.int .i64 z,.int .i64 p,.bool isw,.int .i64 ex,.bool ra] 48)).heap.size):=yA (by
    have h1:=Hb2.out.size
    have h2:=HBE.out.size
    simp only [World.size_alloc];omega)
   have HRA:Hid (yav (WE.alloc (.cells #[.int .i64 dir,.bool qb,.slice qx qn qc,.slice qy qm qd,.string SW,.int .i64 so,.int .i64 sb,.bool pre,.int .i64 a0,.int .i64 a1,.int .i64 a2,.int .i64 a3,.int .i64 a4,.int .i64 a5,.int .i64 a6,.bool off,.int .i64 z,.int .i64 p,.bool isw,.int .i64 ex,.bool ra] 48)) w.heap.size 48 21 u4 fs.length css.flatten):=yA (HRW.out.below (zK _ _))
   have HL1:Hid (fs.length+1≤1001):=yA (by have:=Hinv.out.size;omega)
   go_wp2_with (first|(refine wpList_load_mid rfl 48 (.tmp 6) rfl g 0 rfl [.int .i64 dir,.bool qb,.slice qx qn qc,.slice qy qm qd,.string SW,.int .i64 so,.int .i64 sb,.bool pre,.int .i64 a0,.int .i64 a1,.int .i64 a2,.int .i64 a3,.int .i64 a4,.int .i64 a5,.int .i64 a6,.bool off,.int .i64 z,.int .i64 p,.bool isw,.int .i64 ex,.bool ra] _ HRE.out Tryz.underlying48 rfl (by kernel_rfl) ?_)|(at_builtin;refine yaY rfl _ _ 38 rfl w.heap.size 48 i0 (Value.agg #[.int .i64 0,.bool false,.slice none 0 0,.slice none 0 0,.string ⟨#[]⟩,.int .i64 0,.int .i64 0,.bool false,.int .i64 0,.int .i64 0,.int .i64 0,.int .i64 0,.int .i64 0,.int .i64 0,.int .i64 0,.bool false,.int .i64 0,.int .i64 0,.bool false,.int .i64 0,.bool false]) 21 208 Tryz.underlying38 hi hz0 hz1 hz2 rfl (by decide) (GC 0 false none 0 0 none 0 0 ⟨#[]⟩ 0 0 false 0 0 0 0 0 0 0 false 0 0 false 0 false) _ _ _ rfl HRA.out ⟨WE.heap.size,0,none⟩ 1 1 [.int .i64 dir,.bool qb,.slice qx qn qc,.slice qy qm qd,.string SW,.int .i64 so,.int .i64 sb,.bool pre,.int .i64 a0,.int .i64 a1,.int .i64 a2,.int .i64 a3,.int .i64 a4,.int .i64 a5,.int .i64 a6,.bool off,.int .i64 z,.int .i64 p,.bool isw,.int .i64 ex,.bool ra] rfl rfl (ydV _ _ _ _ rfl) (yqu _ _ _ _ _ _ _ _ _ _ _ _ _ _ _ _ _ _ _ _ _ _ _ _ _) (GC _ _ _ _ _ _ _ _ _ _ _ _ _ _ _ _ _ _ _ _ _ _ _ _ _) (by decide) (by have:=HL1.out;unfold maxLen;omega) (by have:=HL1.out;omega) HWB.out ?_))
   intro v' w5 ydK hg5
   obtain ⟨ydL,ycR⟩:=HFR.out w5 v' ydK hg5
   have Hfacs:=yA ydL
   have Hbel:=yA ycR
   clear ydL ycR ydK hg5 HFR HRA HWB HRW HRE HHE HBE HS8 H8 HB8 Hr2
   obtain ⟨T,hT⟩:∃ T,t.extract m t.size=T:=⟨_,rfl⟩
   have HTD:Hid (T.data.toList=t.data.toList.drop m):=yA (by rw [← hT];exact GS t m)
   have HTS:Hid (T.size=t.size-m):=yA (by rw [← hT];simp)
   have HTL:Hid (ByteArray.toList T=T.data.toList):=yA (by rw [toList_data])
   have hT9:(T.size:Int)≤1000:=by have:=HTS.out;omega
   by_cases hz:T.size=0
   ·have HZ:=yA hz
    have hb:(ByteArray.toList T).isEmpty=true:=by rw [HTL.out,List.isEmpty_iff];exact List.eq_nil_of_length_eq_zero (by simpa using hz)
    have yP:Hid (zB s.data.toList 1 [] (s.size+1)=some (fs++[(dir,f)])):=yA (Hinv.out.eq.trans (ya4 HO.out (by have:=HTS.out;have:=HZ.out;have:=Hsp.out;omega)))
    clear hz
    go_wp2_with fail
    go_ret2
    rw [yP.out]
    exact ⟨Hbel.out,_,_,rfl,Hfacs.out⟩
   ·have hb:(ByteArray.toList T).isEmpty=false:=by
     rw [HTL.out]
     cases e:T.data.toList with
     | nil=>exact absurd (by simpa using congrArg List.length e) hz
     | cons a b=>rfl
    have hlt:0<T.size:=by omega
    have yfS:(0:Int)<T.size:=by omega
    have HDR:Hid (t.data.toList.drop m=T[0]'hlt::T.data.toList.drop 1):=yA (by
     rw [← HTD.out]
     have e:T[0]'hlt=T.data.toList[0]'(by simpa using hlt):=rfl
     rw [e]
     exact List.drop_eq_getElem_cons (i:=0) (by simpa using hlt))
    have HNE:Hid (m≠t.data.toList.length):=yA (by have:=HTS.out;omega)
    have HEX:Hid ((T.extract 1 T.size).data.toList=T.data.toList.drop 1):=yA (GS T 1)
    have HSZ:Hid ((T.extract 1 T.size).size=T.size-1):=yA (by simp)
    clear hz
    by_cases h32:(((T[0]'hlt).toNat:Int)==32)=true
    ·have uG:Hid (∃ fs' css' F'',FactInv s (T.extract 1 T.size) w w5 v' 1 fs' css' F''):=yA ⟨_,_,F',Hfacs.out,Hbel.out,by have:=Hinv.out.size;have:=HSZ.out;have:=HTS.out;simp only [List.length_append,List.length_singleton];omega,by have:=Hinv.out.fuel;have:=HSZ.out;have:=HTS.out;omega,by
      rw [HEX.out]
      refine Hinv.out.eq.trans (ycH HO.out HNE.out ?_)
      rw [HDR.out];congr 1;apply UInt8.toNat_inj.1;rw [beq_iff_eq] at h32;have:((32:UInt8)).toNat=32:=rfl;omega⟩
     go_wp2_with fail
     go_roundw
     case rel=>exact ⟨_,1,rfl,rfl,by have:=HSZ.out;omega,uG⟩
     case measure=>have:=HSZ.out;have:=HTS.out;simp [ybJ];omega
    ·rw [Bool.not_eq_true] at h32
     by_cases h47:(((T[0]'hlt).toNat:Int)==47)=true
     ·have uG:Hid (∃ fs' css' F'',FactInv s (T.extract 1 T.size) w w5 v' (-1) fs' css' F''):=yA ⟨_,_,F',Hfacs.out,Hbel.out,by have:=Hinv.out.size;have:=HSZ.out;have:=HTS.out;simp only [List.length_append,List.length_singleton];omega,by have:=Hinv.out.fuel;have:=HSZ.out;have:=HTS.out;omega,by
       rw [HEX.out]
       refine Hinv.out.eq.trans (ycI HO.out HNE.out ?_)
       rw [HDR.out];congr 1;apply UInt8.toNat_inj.1;rw [beq_iff_eq] at h47;have:((47:UInt8)).toNat=47:=rfl;omega⟩
      go_wp2_with fail
      go_roundw
      case rel=>exact ⟨_,-1,rfl,rfl,by have:=HSZ.out;omega,uG⟩
      case measure=>have:=HSZ.out;have:=HTS.out;simp [ybJ];omega
     ·rw [Bool.not_eq_true] at h47
      have yP:Hid (zB s.data.toList 1 [] (s.size+1)=none):=yA (Hinv.out.eq.trans (ycJ HO.out HNE.out HDR.out (by intro h;rw [h] at h32;revert h32;decide) (by intro h;rw [h] at h47;revert h47;decide)))
      go_wp2_with fail
      go_ret2
      rw [yP.out]
      exact ⟨Hbel.out,rfl⟩
def ydJ (a e:Int):Prop:=a=e∨(zP a=false∧zP e=false)
theorem yeD {a:Int} (h:a < -12∨12<a):zP a=false:=by
 unfold zP
 rcases h with h|h
 ·rw [show decide (-12≤a)=false from decide_eq_false (by omega)];rfl
 ·rw [show decide (a≤12)=false from decide_eq_false (by omega),Bool.and_false]
theorem yiO {l:List UInt8} (h:l.all yG=true):ydJ (whT l) (vG l)∧ydJ (-whT l) (-vG l):=by
 rcases ye0 h with ⟨h1,-,-⟩|⟨h1,h2,-⟩
 ·exact ⟨.inl h1.symm,.inl (by rw [h1])⟩
 ·exact ⟨.inr ⟨yeD (.inr h2),yeD (.inr h1)⟩,.inr ⟨yeD (.inl (by omega)),yeD (.inl (by omega))⟩⟩
theorem yqv (t:List UInt8):(yc1 t=none∧(uA t).2=0)∨∃ a k,yc1 t=some (a,k)∧0<k∧(uA t).2=k∧ydJ a (uA t).1:=by
 by_cases h:∃ u,t=45::u
 ·obtain ⟨u,rfl⟩:=h
  by_cases hk:yF u=0
  ·exact .inl ⟨by show (if yF u=0 then none else _)=none;rw [if_pos hk],by show (if yF u=0 then ((0:Int),0) else _).2=0;rw [if_pos hk]⟩
  ·refine .inr ⟨-whT (u.take (yF u)),1+yF u,by show (if yF u=0 then none else _)=_;rw [if_neg hk],by omega,by show (if yF u=0 then ((0:Int),0) else _).2=_;rw [if_neg hk],?_⟩
   have e:(uA (45::u)).1=-vG (u.take (yF u)):=by show (if yF u=0 then ((0:Int),0) else _).1=_;rw [if_neg hk]
   rw [e]
   exact (yiO (yaU u)).2
 ·have hn:∀ u,t≠45::u:=fun u e=>h ⟨u,e⟩
  have e1:uA t=if yF t=0 then (0,0) else (vG (t.take (yF t)),yF t):=by
   unfold uA
   split
   ·rename_i u;exact absurd rfl (hn u)
   ·rfl
  rw [yfb hn,e1]
  by_cases hk:yF t=0
  ·exact .inl ⟨by rw [if_pos hk],by rw [if_pos hk]⟩
  ·refine .inr ⟨_,_,by rw [if_neg hk],by omega,by rw [if_neg hk],?_⟩
   rw [if_neg hk]
   exact (yiO (yaU t)).1
theorem yl6 (n d:Nat):0≤zD false n d:=by
 unfold zD
 simp only [Bool.false_eq_true,if_false]
 have h0:((0:Nat):Rat)≤((n:Nat):Rat):=Rat.natCast_le_natCast.2 (Nat.zero_le n)
 have h1:((0:Nat):Rat)≤((d:Nat):Rat):=Rat.natCast_le_natCast.2 (Nat.zero_le d)
 by_cases hd:(d:Rat)=0
 ·rw [hd,Rat.div_def,Rat.inv_zero,Rat.mul_zero];exact Rat.le_refl
 ·have hp:0<(d:Rat):=Rat.lt_of_le_of_ne h1 (fun e=>hd e.symm)
  rw [Rat.div_def]
  exact Rat.mul_nonneg h0 (Rat.le_of_lt (Rat.inv_pos.2 hp))
theorem yrR {l:List UInt8} (h:0<yF l) (hl:l.length≤1000):(yb8 l=none∧GF l=none)∨(yb8 l=some (⟨yO (l.take (vH l)),ydI,false,1,false⟩,vH l)∧GF l=some (⟨yO (l.take (vH l)),jG,1⟩,vH l)):=by
 have hf:=yiM h
 have hlen:(l.take (vH l)).length≤1000:=by rw [List.length_take];omega
 unfold yb8 GF uJ
 generalize l.take (vH l)=t at hf hlen
 have hng:¬ 1000<t.length:=by omega
 simp only [if_neg hng]
 cases hr:jL t with
 | none=>exact .inl ⟨by simp,by simp⟩
 | some p =>
  obtain ⟨s,n,d⟩:=p
  have hs:s=false:=by
   rw [ygI hf,Option.map_eq_some_iff] at hr
   obtain ⟨x,-,hx⟩:=hr
   cases hx;rfl
  subst hs
  have hR:yO t=zD false n d:=by unfold yO;rw [hr]
  simp only
  rw [hR]
  have hnn:=yl6 n d
  generalize zD false n d=R at hnn ⊢
  by_cases ht:uB R=[]
  ·rw [if_pos ht]
   exact .inl ⟨by rw [ht];simp,by simp⟩
  ·rw [if_neg ht]
   have hte:(uB R).isEmpty=false:=by simpa using ht
   have ynW:=ybT ht
   by_cases h0:R=0
   ·have hz:uB R=[48]:=yb6.1 (by rw [ynW,h0])
    refine .inl ⟨?_,?_⟩
    ·rw [if_neg];rw [h0];simp
    ·rw [if_neg];rintro ⟨-,h2⟩;exact h2 hz
   ·have hp:0<R:=by grind
    refine .inr ⟨?_,?_⟩
    ·rw [if_pos];rw [hte,decide_eq_true hp];rfl
    ·rw [if_pos ⟨rfl,fun hz=>h0 (by
      have:=yb6.2 hz
      rw [ynW] at this
      exact Option.some.inj this)⟩,ygH ynW]
theorem yl7 {l:List UInt8} (hl:l.length≤1000):(uL l=none∧jK l=none)∨∃ f n,uL l=some (f,n)∧((f.s.off=true∧jK l=none∧(l.take (zG l)=ybM∨l.take (zG l)=ybN))∨(f.s.off=false∧∃ e,jK l=some (⟨f.q,f.s.ps,e⟩,n)∧ydJ f.e e)):=by
 unfold uL jK
 by_cases hd:0<yF l
 ·rw [if_pos hd,if_pos hd]
  rcases yrR hd hl with ⟨h1,h2⟩|⟨h1,h2⟩
  ·exact .inl ⟨h1,h2⟩
  ·exact .inr ⟨_,_,h1,.inr ⟨rfl,1,h2,.inl rfl⟩⟩
 ·rw [if_neg hd,if_neg hd]
  unfold GG
  rcases yl5 (l.take (zG l)) with ⟨h1,h2⟩|⟨s,q,h1,h2⟩
  ·exact .inl ⟨yaD h1,by rw [h2]⟩
  ·by_cases h94:∃ t,l.drop (zG l)=94::t
   ·obtain ⟨t,ht⟩:=h94
    have e:=yaj h1 ht
    rcases yqv t with ⟨h3,h4⟩|⟨a,k,h3,h4,h5,h6⟩
    ·refine .inl ⟨by rw [e,h3];rfl,?_⟩
     rcases h2 with ⟨-,h2,-⟩|⟨-,h2⟩
     ·rw [h2]
     ·rw [h2,ht];simp only;rw [if_pos h4]
    ·refine .inr ⟨⟨q,s,true,a,true⟩,zG l+1+k,by rw [e,h3];rfl,?_⟩
     rcases h2 with ⟨ho,h2,h7⟩|⟨ho,h2⟩
     ·exact .inl ⟨ho,by rw [h2],h7⟩
     ·refine .inr ⟨ho,(uA t).1,?_,h6⟩
      rw [h2,ht];simp only;rw [if_neg (by omega),h5]
   ·have e:=GQ h1 (fun t ht=>h94 ⟨t,ht⟩)
    refine .inr ⟨_,_,e,?_⟩
    rcases h2 with ⟨ho,h2,h7⟩|⟨ho,h2⟩
    ·exact .inl ⟨ho,by rw [h2],h7⟩
    ·refine .inr ⟨ho,1,?_,.inl rfl⟩
     rw [h2]
     simp only
     split
     ·rename_i t ht;exact absurd ⟨t,ht⟩ h94
     ·rfl
def FAs (x:Int × FacR) (g:FacT):Prop:=g.v=x.2.q∧g.ps=x.2.s.ps∧∃ e,ydJ x.2.e e∧g.e=e*x.1
def yii:List (Int × FacR)→List FacT→Prop
 | [],[]=>True
 | x::fs,g::gs=>FAs x g∧yii fs gs
 | _,_=>False
theorem yii.len {fs:List (Int × FacR)}:∀ {gs:List FacT},yii fs gs→fs.length=gs.length:=by
 induction fs with
 | nil=>intro gs h;cases gs with
  | nil=>rfl
  | cons g gs=>exact h.elim
 | cons x fs ih=>intro gs h;cases gs with
  | nil=>exact h.elim
  | cons g gs=>rw [List.length_cons,List.length_cons,ih h.2]
def ykh (l:List UInt8) (dir:Int) (acc:List (Int × FacR)) (accT:List FacT) (F:Nat):Prop :=
 (zB l dir acc F=none∧zL l dir accT F=none)∨∃ f n fs,uL l=some (f,n)∧zB l dir acc F=some (acc++(dir,f)::fs)∧(fs=[]→n=l.length)∧(((∃ x ∈ (dir,f)::fs,x.2.s.off=true)∧zL l dir accT F=none)∨((∀ x ∈ (dir,f)::fs,x.2.s.off=false)∧∃ gs,zL l dir accT F=some (accT++gs)∧yii ((dir,f)::fs) gs))
theorem ygJ {l t:List UInt8} {dir d2:Int} {acc:List (Int × FacR)} {accT:List FacT} {F n:Nat} {f:FacR} (h1:uL l=some (f,n))
  (h2:(f.s.off=true∧jK l=none)∨(f.s.off=false∧∃ e,jK l=some (⟨f.q,f.s.ps,e⟩,n)∧ydJ f.e e))
  (hR:zB l dir acc (F+1)=zB t d2 (acc++[(dir,f)]) F)
  (hT:∀ e,jK l=some (⟨f.q,f.s.ps,e⟩,n)→zL l dir accT (F+1)=zL t d2 (accT++[⟨f.q,f.s.ps,e*dir⟩]) F)
  (ih:∀ accT,ykh t d2 (acc++[(dir,f)]) accT F):ykh l dir acc accT (F+1):=by
 rcases h2 with ⟨ho,h3⟩|⟨ho,e,h3,he⟩
 ·rcases ih accT with ⟨h4,-⟩|⟨g,m,fs,-,h4,-,-⟩
  ·exact .inl ⟨hR.trans h4,uD h3⟩
  ·exact .inr ⟨f,n,(d2,g)::fs,h1,by rw [hR,h4,List.append_assoc];rfl,fun h=>(by cases h),.inl ⟨⟨_,List.mem_cons_self ..,ho⟩,uD h3⟩⟩
 ·rcases ih (accT++[⟨f.q,f.s.ps,e*dir⟩]) with ⟨h4,h5⟩|⟨g,m,fs,-,h4,-,h5⟩
  ·exact .inl ⟨hR.trans h4,(hT e h3).trans h5⟩
  ·refine .inr ⟨f,n,(d2,g)::fs,h1,by rw [hR,h4,List.append_assoc];rfl,fun h=>(by cases h),?_⟩
   rcases h5 with ⟨⟨x,hx,hxo⟩,h5⟩|⟨h5,gs,h6,h7⟩
   ·exact .inl ⟨⟨x,List.mem_cons_of_mem _ hx,hxo⟩,(hT e h3).trans h5⟩
   ·refine .inr ⟨fun x hx=>?_,⟨f.q,f.s.ps,e*dir⟩::gs,by rw [hT e h3,h6,List.append_assoc];rfl,⟨rfl,rfl,e,he,rfl⟩,h7⟩
    rcases List.mem_cons.1 hx with rfl|hx
    ·exact ho
    ·exact h5 x hx
theorem ykS:∀ (F:Nat) (l:List UInt8) (dir:Int) (acc:List (Int × FacR)) (accT:List FacT),l.length≤1000→ykh l dir acc accT F:=by
 intro F
 induction F with
 | zero=>intro l dir acc accT _;exact .inl ⟨rfl,rfl⟩
 | succ F ih =>
  intro l dir acc accT hl
  rcases yl7 hl with ⟨h1,h2⟩|⟨f,n,h1,h2⟩
  ·exact .inl ⟨yc7 h1,uD h2⟩
  ·have h2:(f.s.off=true∧jK l=none)∨(f.s.off=false∧∃ e,jK l=some (⟨f.q,f.s.ps,e⟩,n)∧ydJ f.e e):=h2.imp (fun h=>⟨h.1,h.2.1⟩) id
   obtain ⟨-,hnl,-,-⟩:=yfp h1
   by_cases hn:n=l.length
   ·refine .inr ⟨f,n,[],h1,ya4 h1 hn,fun _=>hn,?_⟩
    rcases h2 with ⟨ho,h3⟩|⟨ho,e,h3,he⟩
    ·exact .inl ⟨⟨_,List.mem_cons_self ..,ho⟩,uD h3⟩
    ·refine .inr ⟨fun x hx=>?_,_,yat h3 hn,⟨rfl,rfl,e,he,rfl⟩,trivial⟩
     rw [List.mem_singleton.1 hx];exact ho
   ·cases hd:l.drop n with
    | nil=>exact absurd (Nat.le_antisymm hnl (List.drop_eq_nil_iff.1 hd)) hn
    | cons c t =>
     have ht:t.length≤1000:=by
      have h3:=congrArg List.length hd
      rw [List.length_drop,List.length_cons] at h3
      omega
     by_cases h32:c=32
     ·subst h32
      exact ygJ h1 h2 (ycH h1 hn hd) (fun e h=>GN h hn hd) (fun a=>ih t 1 _ a ht)
     ·by_cases h47:c=47
      ·subst h47
       exact ygJ h1 h2 (ycI h1 hn hd) (fun e h=>GO h hn hd) (fun a=>ih t (-1) _ a ht)
      ·refine .inl ⟨ycJ h1 hn hd h32 h47,?_⟩
       rcases h2 with ⟨-,h3⟩|⟨-,e,h3,-⟩
       ·exact uD h3
       ·exact GP h3 hn hd h32 h47
theorem ymI {c:UInt8} (h:(jD c).isEmpty=false):∃ n d:Nat,yO (jD c)=zD false n d∧n≤1000000000∧0<d∧d≤1000000000:=by
 revert h
 unfold jD
 repeat' split
 ·intro _;exact ⟨1,1000000000,rfl,by omega,by omega,by omega⟩
 ·intro _;exact ⟨1,1000000,rfl,by omega,by omega,by omega⟩
 ·intro _;exact ⟨1,1000,rfl,by omega,by omega,by omega⟩
 ·intro _;exact ⟨1,100,rfl,by omega,by omega,by omega⟩
 ·intro _;exact ⟨1,10,rfl,by omega,by omega,by omega⟩
 ·intro _;exact ⟨100,1,rfl,by omega,by omega,by omega⟩
 ·intro _;exact ⟨1000,1,rfl,by omega,by omega,by omega⟩
 ·intro _;exact ⟨1000000,1,rfl,by omega,by omega,by omega⟩
 ·intro _;exact ⟨1000000000,1,rfl,by omega,by omega,by omega⟩
 ·intro h;cases h
theorem yiP {s:SymR} (hs:s ∈ zW):∃ o b:Nat,(s.o:Rat)/(s.b:Rat)=zD false o b∧o≤100000∧0<b∧b≤1000:=by
 obtain ⟨-,h1,h2,h3,h4,-⟩:=ydv s hs
 obtain ⟨o,ho⟩:=Int.eq_ofNat_of_zero_le (show 0≤s.o by omega)
 obtain ⟨b,hb⟩:=Int.eq_ofNat_of_zero_le (show 0≤s.b by omega)
 refine ⟨o,b,?_,by omega,by omega,by omega⟩
 rw [ho,hb]
 rfl
theorem yqw {l:List UInt8} {s:SymR} {q:Rat} (h:jU l=some (s,q)):s ∈ zW∧uK 5 q:=by
 unfold jU at h
 cases h1:zW.find? (fun s=>s.w==l) with
 | some x =>
  rw [h1] at h
  simp only [Option.some.injEq,Prod.mk.injEq] at h
  obtain ⟨rfl,rfl⟩:=h
  have hm:=List.mem_of_find?_eq_some h1
  obtain ⟨o,b,e,k1,k2,k3⟩:=yiP hm
  exact ⟨hm,yaC e.symm (by rw [zN];omega) (by rw [zN];omega) k2⟩
 | none =>
  rw [h1] at h
  cases l with
  | nil=>cases h
  | cons c t =>
   simp only at h
   cases hp:(jD c).isEmpty with
   | true=>rw [hp,if_pos rfl] at h;cases h
   | false =>
    rw [hp,if_neg (by decide)] at h
    cases h2:zW.find? (fun s=>s.pre&&s.w==t) with
    | none=>rw [h2] at h;cases h
    | some x =>
     rw [h2] at h
     simp only [Option.some.injEq,Prod.mk.injEq] at h
     obtain ⟨rfl,rfl⟩:=h
     have hm:=List.mem_of_find?_eq_some h2
     obtain ⟨o,b,e,k1,k2,k3⟩:=yiP hm
     obtain ⟨n,d,e2,k4,k5,k6⟩:=ymI hp
     refine ⟨hm,?_⟩
     rw [e,e2,← ycm k5 k2]
     have h7:n*o≤1000000000*100000:=Nat.mul_le_mul k4 k1
     have h8:d*b≤1000000000*1000:=Nat.mul_le_mul k6 k3
     exact yaC rfl (by rw [zN];omega) (by rw [zN];omega) (Nat.mul_pos k5 k2)
def ycZ (s:SymR):Prop:=s.ps.length=7∧uP s.ps=true∧(-1000000000≤s.z∧s.z≤1000000000)∧(-1000000000≤s.p∧s.p≤1000000000)
theorem yqx:∀ s ∈ zW,ycZ s:=by
 unfold zW ycZ uP zP
 simp
theorem ype:ycZ ydI:=⟨rfl,by decide,by decide,by decide⟩
theorem yqy {l:List UInt8} {f:FacR} {n:Nat} (h:uL l=some (f,n)):uK 5 f.q∧ycZ f.s:=by
 unfold uL at h
 split at h
 ·unfold yb8 at h
  split at h
  ·rename_i hc
   cases h
   simp only [Bool.and_eq_true,Bool.not_eq_true',List.isEmpty_eq_false_iff] at hc
   exact ⟨yqo (ybT hc.1.2),ype⟩
  ·cases h
 ·cases hf:jU (l.take (zG l)) with
  | none=>rw [yaD hf] at h;cases h
  | some x =>
   obtain ⟨s,q⟩:=x
   obtain ⟨h1,h2⟩:=yqw hf
   have key:f.q=q∧f.s=s:=by
    by_cases h94:∃ t,l.drop (zG l)=94::t
    ·obtain ⟨t,ht⟩:=h94
     rw [yaj hf ht,Option.map_eq_some_iff] at h
     obtain ⟨p,-,hy⟩:=h
     cases hy
     exact ⟨rfl,rfl⟩
    ·rw [GQ hf (fun t ht=>h94 ⟨t,ht⟩)] at h
     cases h
     exact ⟨rfl,rfl⟩
   rw [key.1,key.2]
   exact ⟨h2,yqx s h1⟩
theorem ykT:∀ (F:Nat) (l:List UInt8) (dir:Int) (acc fs:List (Int × FacR)),(∀ x ∈ acc,uK 5 x.2.q∧ycZ x.2.s)→zB l dir acc F=some fs→∀ x ∈ fs,uK 5 x.2.q∧ycZ x.2.s:=by
 intro F
 induction F with
 | zero=>intro l dir acc fs _ h;cases h
 | succ F ih =>
  intro l dir acc fs ha h
  unfold zB at h
  split at h
  ·cases h
  ·rename_i f n hf
   have ha2:∀ x ∈ acc++[(dir,f)],uK 5 x.2.q∧ycZ x.2.s:=by
    intro x hx
    rcases List.mem_append.1 hx with hx|hx
    ·exact ha x hx
    ·rw [List.mem_singleton.1 hx];exact yqy hf
   split at h
   ·cases h;exact ha2
   ·split at h
    ·exact ih _ _ _ _ ha2 h
    ·exact ih _ _ _ _ ha2 h
    ·cases h
theorem ydR {e d:Int} (hd:d=1∨d=-1):zP (e*d)=zP e:=by
 unfold zP
 rcases hd with rfl|rfl
 ·rw [Int.mul_one]
 ·rw [show e*-1=-e by omega,Bool.eq_iff_iff]
  simp only [Bool.and_eq_true,decide_eq_true_eq]
  omega
theorem yqz {a e:Int} (h:ydJ a e):zP e=zP a∧(zP a=true→a=e):=by
 rcases h with rfl|⟨h1,h2⟩
 ·exact ⟨rfl,fun _=>rfl⟩
 ·exact ⟨by rw [h1,h2],fun h=>by rw [h1] at h;cases h⟩
def jV (q:Rat) (ps:List Int):List (Int × FacR)→Rat × List Int
 | []=>(q,ps)
 | x::fs=>jV (q*x.2.q^(x.1*x.2.e)) (List.zipWith (fun p r=>p+r*(x.1*x.2.e)) ps x.2.s.ps) fs
theorem yqA:∀ (fs:List (Int × FacR)) (gs:List FacT) (q:Rat) (ps:List Int),yii fs gs→(∀ x ∈ fs,x.1=1∨x.1=-1)→yac q ps gs=if fs.all (fun x=>zP x.2.e) then mkT (jV q ps fs).1 (jV q ps fs).2 else (vZ,4):=by
 intro fs
 induction fs with
 | nil=>intro gs q ps h _;cases gs with
  | nil=>rfl
  | cons g gs=>exact h.elim
 | cons x fs ih=>intro gs q ps h hd;cases gs with
  | nil=>exact h.elim
  | cons g gs =>
   obtain ⟨⟨h1,h2,e,he,h3⟩,h4⟩:=h
   obtain ⟨hp,hx⟩:=yqz he
   have hdx:=hd x (List.mem_cons_self ..)
   have hg:zP g.e=zP x.2.e:=by rw [h3,ydR hdx,hp]
   unfold yac
   rw [hg,List.all_cons]
   by_cases hw:zP x.2.e=true
   ·have hge:g.e=x.1*x.2.e:=by rw [h3,← hx hw,Int.mul_comm]
    rw [if_pos hw,hw,Bool.true_and,ih gs _ _ h4 (fun y hy=>hd y (List.mem_cons_of_mem _ hy)),h1,h2,hge]
    rfl
   ·rw [Bool.not_eq_true] at hw
    rw [hw];rfl
theorem yei:∀ (F:Nat) (l:List UInt8) (dir:Int) (acc fs:List (Int × FacR)),(dir=1∨dir=-1)→(∀ x ∈ acc,x.1=1∨x.1=-1)→zB l dir acc F=some fs→∀ x ∈ fs,x.1=1∨x.1=-1:=by
 intro F
 induction F with
 | zero=>intro l dir acc fs _ _ h;cases h
 | succ F ih =>
  intro l dir acc fs hd ha h
  have ha2:∀ f:FacR,∀ x ∈ acc++[(dir,f)],x.1=1∨x.1=-1:=by
   intro f x hx
   rcases List.mem_append.1 hx with hx|hx
   ·exact ha x hx
   ·rw [List.mem_singleton.1 hx];exact hd
  unfold zB at h
  split at h
  ·cases h
  ·rename_i f n hf
   split at h
   ·cases h;exact ha2 f
   ·split at h
    ·exact ih _ _ _ _ (.inl rfl) (ha2 f) h
    ·exact ih _ _ _ _ (.inr rfl) (ha2 f) h
    ·cases h
theorem yiQ:∀ (fs:List (Int × FacR)) (q:Rat) (ps:List Int) (K:Nat),uK K q→(∀ x ∈ fs,uK 5 x.2.q)→(∀ x ∈ fs,x.1=1∨x.1=-1)→(∀ x ∈ fs,zP x.2.e=true)→uK (K+62*fs.length) (jV q ps fs).1:=by
 intro fs
 induction fs with
 | nil=>intro q ps K h _ _ _;exact h
 | cons x fs ih =>
  intro q ps K h h1 h2 h3
  have hb:-12≤x.1*x.2.e∧x.1*x.2.e≤12:=by
   have hp:=h3 x (List.mem_cons_self ..)
   rw [← ydR (h2 x (List.mem_cons_self ..)),Int.mul_comm] at hp
   exact ydu hp
  have hq:=h.mul (yjq (h1 x (List.mem_cons_self ..)) _ hb)
  have:=ih _ (List.zipWith (fun p r=>p+r*(x.1*x.2.e)) ps x.2.s.ps) _ hq (fun y hy=>h1 y (List.mem_cons_of_mem _ hy)) (fun y hy=>h2 y (List.mem_cons_of_mem _ hy)) (fun y hy=>h3 y (List.mem_cons_of_mem _ hy))
  exact this.mono (by rw [List.length_cons];omega)
def yc0 (qf qo:Rat) (ps:List Int):UnitT × Int:=if uB qf=[]∨uP ps=false∨uB qo=[] then (vZ,4) else (⟨uB qf,uB qo,ps⟩,0)
theorem ykU (q:Rat) (ps:List Int):yc0 q 0 ps=mkT q ps:=by
 unfold yc0 mkT
 rw [ynx]
 simp
theorem yqB (qf qo:Rat) (K:Nat) (hK:K≤900000) (hf:uK K qf) (ho:uK K qo) (p0 p1 p2 p3 p4 p5 p6:Int) (W:World) (b:Bool) (x:Option Addr) (l c:Nat) (y:Option Addr) (m d:Nat) (b2:Bool) (x2:Option Addr) (l2 c2:Nat) (y2:Option Addr) (m2 d2:Nat) (hq:zH W (.agg #[.bool b,.slice x l c,.slice y m d]) qf) (hq2:zH W (.agg #[.bool b2,.slice x2 l2 c2,.slice y2 m2 d2]) qo) :
  Calls Tryz.prog 17 #[.agg #[.bool b,.slice x l c,.slice y m d,.bool b2,.slice x2 l2 c2,.slice y2 m2 d2,.int .i64 p0,.int .i64 p1,.int .i64 p2,.int .i64 p3,.int .i64 p4,.int .i64 p5,.int .i64 p6]] W (zS (yc0 qf qo [p0,p1,p2,p3,p4,p5,p6]) W):=by
 have go:∀ (u:Value) (code:Int),(((!(uB qf).isEmpty&&uP [p0,p1,p2,p3,p4,p5,p6]&&!(uB qo).isEmpty)=true∧u=.agg #[.string ⟨(uB qf).toArray⟩,.string ⟨(uB qo).toArray⟩,.int .i64 p0,.int .i64 p1,.int .i64 p2,.int .i64 p3,.int .i64 p4,.int .i64 p5,.int .i64 p6]∧code=0)∨((!(uB qf).isEmpty&&uP [p0,p1,p2,p3,p4,p5,p6]&&!(uB qo).isEmpty)=false∧u=.agg #[.string ⟨#[]⟩,.string ⟨#[]⟩,.int .i64 0,.int .i64 0,.int .i64 0,.int .i64 0,.int .i64 0,.int .i64 0,.int .i64 0]∧code=4)) →
   Calls Tryz.prog 17 #[.agg #[.bool b,.slice x l c,.slice y m d,.bool b2,.slice x2 l2 c2,.slice y2 m2 d2,.int .i64 p0,.int .i64 p1,.int .i64 p2,.int .i64 p3,.int .i64 p4,.int .i64 p5,.int .i64 p6]] W fun e w'=>e=.returned (.tuple #[u,.int .i64 code])∧Below W.heap.size W w':=fun u code hu =>
  ypR b x l c y m d b2 x2 l2 c2 y2 m2 d2 p0 p1 p2 p3 p4 p5 p6 qf qo ⟨(uB qf).toArray⟩ ⟨(uB qo).toArray⟩ (!(uB qf).isEmpty) (!(uB qo).isEmpty) _ u code W (yA rfl) (yA hu) hq hq2 (yA fun W v hv=>ykm v qf K W hK hf hv) (yA fun W v hv=>ykm v qo K W hK ho hv)
 unfold yc0
 by_cases h:uB qf=[]∨uP [p0,p1,p2,p3,p4,p5,p6]=false∨uB qo=[]
 ·rw [if_pos h]
  refine (go _ 4 (.inr ⟨?_,rfl,rfl⟩)).mono fun e w' he=>⟨⟨#[]⟩,⟨#[]⟩,0,0,0,0,0,0,0,he.1,rfl,he.2⟩
  rcases h with h|h|h
  ·rw [h];rfl
  ·rw [h,Bool.and_false,Bool.false_and]
  ·rw [h];simp
 ·rw [if_neg h]
  refine (go _ 0 (.inl ⟨?_,rfl,rfl⟩)).mono fun e w' he=>⟨⟨(uB qf).toArray⟩,⟨(uB qo).toArray⟩,p0,p1,p2,p3,p4,p5,p6,he.1,rfl,he.2⟩
  simp only [not_or,Bool.not_eq_false] at h
  rw [h.2.1]
  simp [h.1,h.2.2]
end Go.Proofs.YtfjnipkpfbkegaaGreatDoor
