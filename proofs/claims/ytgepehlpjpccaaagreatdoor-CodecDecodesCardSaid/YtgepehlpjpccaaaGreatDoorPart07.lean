/- Contracts. -/
import Derived.Test.YtgepehlpjpccaaaGreatDoorPart06
set_option maxHeartbeats 1600000
set_option maxRecDepth 100000
namespace Go.Proofs.YtgepehlpjpccaaaGreatDoor
open Go.RowKit Big
def yL (b:UInt8):Bool:=48≤b.toNat&&b.toNat≤57
def yZ (l:Lb):Bool:=l.all yL&&!l.isEmpty
theorem ygZ (l:Lb) (k:Nat) (h:k<l.length) (ha:(l.take k).all yL=true) (hd:yL l[k]=true):(l.take (k+1)).all yL=true:=by
 rw [List.take_succ_eq_append_getElem h,List.all_append,ha];simp [hd]
theorem ynq (l:Lb) (k:Nat) (h:k<l.length) (hd:yL l[k]=false):yZ l=false:=by
 have:l.all yL=false:=by
  rw [List.all_eq_false];exact ⟨l[k],List.getElem_mem h,by simp [hd]⟩
 simp [yZ,this]
theorem yiB (s:ByteArray) (w:World) (hs:(s.size:Int)≤9223372036854775807) :
  Calls Tryz.prog 208 #[.string s] w (Qp (.bool (yZ s.data.toList)) w):=by
 go_in
 go_wp2
 go_loop [6] (fun i=>∃ k:Nat,k≤s.size∧i=.int .i64 k∧Hid ((s.data.toList.take k).all yL=true)) (fun i=>s.size-(intOf i).toNat)
 case atStart=>exact ⟨0,Nat.zero_le _,rfl,yA (by simp)⟩
 case round =>
  obtain ⟨k,hk,rfl,GR⟩:=hrel
  by_cases hlt:k<s.size
  ·have hkl:k<s.data.toList.length:=by simpa using hlt
   have hb:Hid (∀ d,yL s[k]=d→yL s.data.toList[k]=d):=yA (fun d h=>h)
   by_cases h1:(s[k].toNat:Int)<48
   ·have hf:Hid (yZ s.data.toList=false):=yA (ynq _ k hkl (hb.out _ (by simp [yL];omega)))
    go_wp2
    go_ret
    exact ⟨by rw [hf.out];rfl,rfl⟩
   ·by_cases h2:(57:Int)<s[k].toNat
    ·have hf:Hid (yZ s.data.toList=false):=yA (ynq _ k hkl (hb.out _ (by simp [yL];omega)))
     go_wp2
     go_ret
     exact ⟨by rw [hf.out];rfl,rfl⟩
    ·have hn:Hid ((s.data.toList.take (k+1)).all yL=true):=yA (ygZ _ k hkl GR.out (hb.out _ (by simp [yL];omega)))
     go_wp2
     go_round
     case rel=>exact ⟨k+1,by omega,by go_num,hn⟩
     case measure=>simp [intOf];omega
  ·obtain rfl:k=s.size:=by omega
   have hf:Hid (yZ s.data.toList=!s.data.toList.isEmpty):=yA (by
    have:=GR.out
    rw [List.take_of_length_le (by simp)] at this
    simp only [yZ,this,Bool.true_and])
   go_wp2
   go_ret
   exact ⟨yrl (by rw [hf.out,Lib.toList_data]),rfl⟩
def U19:Nat:=10000000000000000000
theorem yqh:U19=10000000000000000000:=rfl
def yh2 (g n:Nat) (t:TypeId) (L:List Nat) (f:Nat) (w:World) (e:Ending) (w':World):Prop :=
 ∃ L' c:_,L'.length=n∧yO yB L'∧yC yB L'+yB^n*c=yC yB L*U19+f∧e=.returned (.tuple #[])∧Only g w w'∧zV w' g t L'
theorem yrs {B p U z V f d lo hi lo2 c1 a:Nat} (h:z+p*d=V*U+f) (hm:lo+B*hi=a*U) (h1:lo2+B*c1=lo+d+0):(z+p*lo2)+p*B*(hi+c1)=(V+p*a)*U+f:=by
 have e1:p*(lo2+B*c1)=p*(lo+d+0):=by rw [h1]
 have e2:p*(lo+B*hi)=p*(a*U):=by rw [hm]
 grind
theorem yeF (g n cap:Nat) (t:TypeId) (L:List Nat) (f:Nat) (w:World) (hn:n≤yK) (hL:L.length=n) (hz:zV w g t L) (dL:yO yB L) (df:f<yB) :
  Calls Tryz.prog 242 #[.slice (some ⟨g,0,none⟩) n cap,.int .u64 f] w (yh2 g n t L f w):=by
 have hn':(n:Int)≤4294967296:=by unfold yK at hn;omega
 have HL:=yA hL
 clear hL
 go_in
 go_wp2
 go_loopw [4,12] (fun cy i wr=>∃ (k:Nat) (L':List Nat) (d:Nat),k≤n∧i=.int .i64 k∧cy=.int .u64 d∧Hid (d<yB∧Put L 0 k L'∧yO yB L'∧yC yB (L'.take k)+yB^k*d=yC yB (L.take k)*U19+f)∧Only g w wr∧zV wr g t L') (fun _ i _=>n-(intOf i).toNat)
 case atStart=>exact ⟨0,L,f,Nat.zero_le _,rfl,rfl,yA ⟨df,Put.refl _ _,dL,by simp [yC]⟩,Only.refl _ _,hz⟩
 case round =>
  obtain ⟨k,L',d,hk,rfl,rfl,yJ,ho,hr⟩:=hrel
  by_cases hlt:k<n
  ·have hc:=hr.cell k (by rw [yJ.out.2.1.length,HL.out];exact hlt)
   have hf:=hr.free k
   obtain ⟨a,ha⟩:∃ a,Hid (L'.getD k 0=a):=⟨_,yA rfl⟩
   rw [ha.out] at hc
   have da:a<yB:=by rw [← ha.out];exact yJ.out.2.2.1.getD yU k
   obtain ⟨hi,lo,GJ,hlo,hhi,yef⟩:=ypR a U19 da (by rw [yqh,yS];omega)
   obtain ⟨lo2,c1,h1,ylJ,hc1,yi4⟩:=yiT lo d 0 (by omega) hlo yJ.out.1
   have Hcall:Hid (∀ w:World,Calls Tryz.prog 247 #[.int .u64 a,.int .u64 10000000000000000000] w (Qp (.tuple #[.int .u64 (hi:Int),.int .u64 (lo:Int)]) w)):=yA yef
   clear yef
   rw [show ((0:Nat):Int)=0 from rfl] at yi4
   have b1:(hi:Int)+c1≤18446744073709551615:=by rw [yS] at hhi;omega
   have ybd:Hid (hi+c1<yB∧Put L 0 (k+1) (L'.set k lo2)∧yO yB (L'.set k lo2)∧yC yB ((L'.set k lo2).take (k+1))+yB^(k+1)*(hi+c1)=yC yB (L.take (k+1))*U19+f):=yA (by
    obtain ⟨i1,i2,i3,i4⟩:=yJ.out
    have hp:=i2.set lo2
    rw [Nat.zero_add] at hp
    have hk2:k<L'.length:=by rw [i2.length,HL.out];exact hlt
    have hLa:L.getD k 0=a:=by rw [← i2.getD k (by omega)];exact ha.out
    have hg:(L'.set k lo2).getD k 0=lo2:=by rw [List.getD_eq_getElem?_getD,List.getElem?_set_self hk2];rfl
    refine ⟨by omega,hp,i3.set k lo2 ylJ,?_⟩
    rw [yN,yN,List.take_set_of_le nl,hg,hLa,Nat.pow_succ]
    exact yrs i4 GJ.out h1.out)
   clear GJ h1 hlo hhi ylJ hc1
   go_wp2_with (go_at_call 247;refine (Hcall.out _).mono ?_;rintro e w' ⟨rfl,rfl⟩)
   go_roundw
   case rel=>exact ⟨k+1,_,hi+c1,by omega,by go_num,by go_num,ybd,ho.setCell _ _,hr.set _ _⟩
   case measure=>simp [intOf];omega
  ·obtain rfl:k=n:=by omega
   have yF:Hid (yh2 g k t L f w (.returned (.tuple #[])) wr):=yA (by
    obtain ⟨i1,i2,i3,i4⟩:=yJ.out
    rw [List.take_of_length_le (by rw [i2.length,HL.out];omega),List.take_of_length_le (by rw [HL.out];omega)] at i4
    exact ⟨L',d,by rw [i2.length];exact HL.out,i3,i4,rfl,ho,hr⟩)
   go_wp2
   go_end0
   exact yF.out
def zC (l:Lb):Nat:=l.foldl (fun a b=>a*10+(b.toNat-48)) 0
theorem ymi (l:Lb) (a:Nat):l.foldl (fun a b=>a*10+(b.toNat-48)) a=a*10^l.length+zC l:=by
 induction l generalizing a with
 | nil=>simp [zC]
 | cons x l ih =>
  have h1:=ih (a*10+(x.toNat-48))
  have h2:=ih (0*10+(x.toNat-48))
  show l.foldl _ (a*10+(x.toNat-48))=a*10^(l.length+1)+l.foldl _ (0*10+(x.toNat-48))
  rw [h1,h2,Nat.pow_succ];grind
theorem uK (a b:Lb):zC (a++b)=zC a*10^b.length+zC b:=by
 unfold zC;rw [List.foldl_append,ymi];rfl
theorem yqi {b:UInt8} (h:yL b=true):b.toNat-48≤9∧48≤b.toNat∧b.toNat≤57:=by
 simp [yL] at h;omega
theorem ycf (l:Lb) (h:l.all yL=true):zC l<10^l.length:=by
 induction l with
 | nil=>simp [zC]
 | cons x l ih =>
  rw [List.all_cons,Bool.and_eq_true] at h
  have h1:=ih h.2
  have h2:=(yqi h.1).1
  have h3:zC (x::l)=(x.toNat-48)*10^l.length+zC l:=by
   have:=uK [x] l
   simpa [zC] using this
  rw [h3,List.length_cons,Nat.pow_succ]
  have h4:(x.toNat-48)*10^l.length≤9*10^l.length:=Nat.mul_le_mul_right _ h2
  omega
theorem yom (l:Lb) (acc:Nat) (h:l.all yL=true) (jO:acc<10^(19-l.length)) (hl:l.length≤19):Lib.parseUintM (2^64-1) acc l=.ok (acc*10^l.length+zC l):=by
 induction l generalizing acc with
 | nil=>simp [Lib.parseUintM,zC]
 | cons x l ih =>
  rw [List.all_cons,Bool.and_eq_true] at h
  obtain ⟨h1,h2,h3⟩:=yqi h.1
  rw [List.length_cons] at hl jO
  have h18:acc<10^18:=Nat.lt_of_lt_of_le jO (Nat.pow_le_pow_right (by omega) (by omega))
  have jE:acc*10+(x.toNat-48)<10^(19-l.length):=by
   have e:19-l.length=(19-(l.length+1))+1:=by omega
   rw [e,Nat.pow_succ];omega
  have h3':zC (x::l)=(x.toNat-48)*10^l.length+zC l:=by
   have:=uK [x] l
   simpa [zC] using this
  unfold Lib.parseUintM
  rw [if_pos ⟨h2,h3⟩,if_neg (by omega),if_neg (by omega),ih _ h.2 jE (by omega),h3',List.length_cons,Nat.pow_succ]
  congr 1
  grind
theorem yrt (l:Lb) (h:l.all yL=true) (h0:l≠[]) (hl:l.length≤19):Lib.parseUintB 64 l=.ok (zC l):=by
 unfold Lib.parseUintB
 rw [if_neg h0,yom l 0 h (Nat.pow_pos (by omega)) hl];simp
theorem yeG (w:World) (E:TypeId) (s:ByteArray):Be w (Lib.bytesWorld w E s):=by
 have h:∀ (W:World) (a:Addr) (n:Nat),Below a.block W (W.freeze a n):=by
  intro W a n
  unfold World.freeze
  split
  ·exact Below.refl _ _
  ·exact ⟨rfl,rfl,rfl,by simp,fun k hk=>by simp [Array.getElem?_modify];omega⟩
 unfold Lib.bytesWorld
 exact ((bR.drew).alloc (by simp) _).trans (h (w.drew.alloc _) ⟨w.heap.size,_,none⟩ 1)
def yva:Value→Nat | .string d=>d.size|_=>0
theorem ybQ (s:ByteArray) (w:World) (hs:s.size≤100000) (hd:s.data.toList.all yL=true):Calls Tryz.prog 211 #[.string s] w (jB (zC s.data.toList) w):=by
 obtain ⟨i0,hi,hz0,hz1,hz2⟩:=info_parts vP
 have hs':(s.size:Int)≤100000:=by omega
 obtain ⟨N,hN⟩:∃ N,Hid (N=s.size/19+1):=⟨_,yA rfl⟩
 have hNI:(s.size:Int)/19+1=(N:Int):=by rw [hN.out];omega
 have hNle:N≤10000:=by rw [hN.out];omega
 have Hd:=yA hd
 clear hd
 go_in
 go_wp2_with (at_make;refine wpList_make_full _ rfl _ _ 96 rfl w.heap.size 86 i0 (.int .u64 0) 1 Tryz.underlying96 hi hz0 hz1 _ _ _ _ N rfl rfl (by omega) (by omega) ?b2 ?b3 nl ?_)
 case b2=>rw [hz2];omega
 case b3=>unfold maxLen;omega
 intro w1 yP zB
 have hr1:zV w1 w.heap.size 86 (List.replicate N 0):=jN yP
 have hb1:Be w w1:=bR.grown zB nl (fun k h=>by cases h)
 clear yP zB
 go_wp2
 go_loopw [0] (fun xv wr=>∃ (ds:ByteArray) (pre:Lb) (L:List Nat),xv=.string ds∧zV wr w.heap.size 86 L∧Be w wr∧(ds.size:Int)≤100000∧Hid (s.data.toList=pre++ds.data.toList∧L.length=N∧yO yB L∧yC yB L=zC pre∧(pre=[]∨ds.size%19=0))) (fun xv _=>yva xv)
 case atStart=>exact ⟨s,[],_,rfl,hr1,hb1,hs',yA ⟨rfl,by simp,yO.zeros yU _,by rw [uO];rfl,.inl rfl⟩⟩
 case round =>
  obtain ⟨ds,pre,L,rfl,hr,hb,hds,yJ⟩:=hrel
  by_cases h0:ds.size=0
  ·have he:ds.toList.isEmpty=true:=by
    rw [Lib.toList_data,List.isEmpty_iff_length_eq_zero];simpa using h0
   have yF:Hid (yC yB L=zC s.data.toList∧L.length=N∧yO yB L):=yA (by
    obtain ⟨i1,i2,i3,i4,i5⟩:=yJ.out
    have:ds.data.toList=[]:=by apply List.eq_nil_of_length_eq_zero;simpa using h0
    rw [this,List.append_nil] at i1
    exact ⟨by rw [i1];exact i4,i2,i3⟩)
   have ht:=yac (some ⟨w.heap.size,0,none⟩) N N L w wr (by unfold maxLen;omega) nl (hr.rd0 N yF.out.2.1.symm) yF.out.2.2 hb
   have Ht:=yA ht
   clear ht h0
   go_wp2_with fail
   refine Ht.out.mono ?_
   rintro e w4 ⟨v,rfl,hv⟩
   rw [yF.out.1] at hv
   have Hv:=yA hv
   clear hv
   go_wp2
   go_ret
   exact ⟨v,rfl,Hv.out⟩
  ·have he:ds.toList.isEmpty=false:=by
    rw [Lib.toList_data,Bool.eq_false_iff];intro h;rw [List.isEmpty_iff_length_eq_zero] at h;apply h0;simpa using h
   obtain ⟨q,hq⟩:∃ q,Hid (q=(ds.size-1)%19):=⟨_,yA rfl⟩
   have e1:((ds.size:Int)-1)%19=(q:Int):=by rw [hq.out];omega
   have hq18:(q:Int)≤18:=by rw [hq.out];omega
   have hqs:(q:Int)+1≤ds.size:=by rw [hq.out];omega
   have hd1:(1:Int)≤ds.size:=by omega
   clear h0
   obtain ⟨u,hu⟩:∃ u,Hid (u=zC (ds.data.toList.take (q+1))):=⟨_,yA rfl⟩
   have ylu:Hid (((ds.extract 0 (q+1)).data.toList=ds.data.toList.take (q+1))∧(ds.data.toList.take (q+1)).all yL=true∧(ds.data.toList.take (q+1)).length=q+1∧ds.data.toList.length=ds.size∧(pre++ds.data.toList.take (q+1)).all yL=true∧u<10^19):=yA (by
    have hl:ds.data.toList.length=ds.size:=by simp
    have GR:(pre++ds.data.toList).all yL=true:=by rw [← yJ.out.1];exact Hd.out
    rw [List.all_append,Bool.and_eq_true] at GR
    have ht:(ds.data.toList.take (q+1)).all yL=true:=by
     rw [List.all_eq_true];intro x hx
     exact (List.all_eq_true.1 GR.2) x (List.mem_of_mem_take hx)
    have hlen:(ds.data.toList.take (q+1)).length=q+1:=by rw [List.length_take,hl];omega
    refine ⟨by rw [Lib.extract_data];simp,ht,hlen,hl,by rw [List.all_append,GR.1,ht];rfl,?_⟩
    have h1:=ycf _ ht
    rw [hlen] at h1
    rw [hu.out]
    exact Nat.lt_of_lt_of_le h1 (Nat.pow_le_pow_right (by omega) (by omega)))
   have hparse:Hid (Calls Tryz.prog 241 #[.string (ds.extract 0 (q+1)),.int .i64 10,.int .i64 64] wr (Rp (.tuple #[.int .u64 (u:Int),.nilIface]) wr)):=yA (by
    obtain ⟨c1,c2,c3,c4,c5,c6⟩:=ylu.out
    have hok:Lib.parseUintB 64 (ds.extract 0 (q+1)).data.toList=.ok u:=by
     rw [c1,hu.out]
     exact yrt _ c2 (by intro h;rw [h] at c3;simp at c3) (by omega)
    refine (Go.Proofs.Tryz.strconv_ParseUint_10_at64_ok _ ?_ u hok wr).mono ?_
    ·have:(ds.extract 0 (q+1)).size≤100000:=by
      have h:=congrArg List.length c1
      rw [c3] at h
      have h2:(ds.extract 0 (q+1)).data.toList.length=(ds.extract 0 (q+1)).size:=by simp
      omega
     omega
    ·rintro e w' ⟨rfl,h|h⟩
     ·exact ⟨rfl,by rw [h];exact Below.refl _ _⟩
     ·exact ⟨rfl,by rw [h];exact yeG _ _ _⟩)
   have huB:u<yB:=Nat.lt_of_lt_of_le ylu.out.2.2.2.2.2 (by rw [yS];decide)
   go_wp2_with fail
   refine hparse.out.mono ?_
   rintro e w2 ⟨rfl,hb2⟩
   have hr2:zV w2 w.heap.size 86 L:=Below.row hb2 hr hr.lt
   have happ:Hid (Calls Tryz.prog 242 #[.slice (some ⟨w.heap.size,0,none⟩) N N,.int .u64 (u:Int)] w2 (yh2 w.heap.size N 86 L u w2)):=yA (yeF w.heap.size N N 86 L u w2 (by unfold yK;omega) yJ.out.2.1 hr2 yJ.out.2.2.1 huB)
   have hbw2:=tr hb hb2
   clear hb2 hr hb huB
   go_wp2_with fail
   refine happ.out.mono ?_
   rintro e w3 ⟨L',c,hl',hd',hv',rfl,ho,hr3⟩
   have ybd:Hid (s.data.toList=(pre++ds.data.toList.take (q+1))++(ds.extract (q+1) ds.size).data.toList∧L'.length=N∧yO yB L'∧yC yB L'=zC (pre++ds.data.toList.take (q+1))∧(pre++ds.data.toList.take (q+1)=[]∨(ds.extract (q+1) ds.size).size%19=0)):=yA (by
    obtain ⟨i1,i2,i3,i4,i5⟩:=yJ.out
    obtain ⟨c1,c2,c3,c4,c5,c6⟩:=ylu.out
    have hdrop:(ds.extract (q+1) ds.size).data.toList=ds.data.toList.drop (q+1):=by
     rw [Lib.extract_data,List.take_of_length_le (by rw [List.length_drop,c4];omega)]
    have GR:zC (pre++ds.data.toList.take (q+1))=yC yB L*U19+u:=by
     rw [uK,c3,← hu.out,i4]
     rcases i5 with h|h
     ·rw [h];simp [zC]
     ·have:q+1=19:=by rw [hq.out];omega
      rw [this];rfl
    have yhQ:zC (pre++ds.data.toList.take (q+1))<yB^N:=by
     have h1:=ycf _ c5
     have h2:(pre++ds.data.toList.take (q+1)).length≤19*N:=by
      have h3:=congrArg List.length i1
      rw [List.length_append] at h3
      rw [List.length_append,c3]
      have h4:s.data.toList.length=s.size:=by simp
      have h5:=hN.out
      omega
     have h3:10^(pre++ds.data.toList.take (q+1)).length≤10^(19*N):=Nat.pow_le_pow_right (by omega) h2
     have h4:10^(19*N)≤yB^N:=by rw [Nat.pow_mul];exact Nat.pow_le_pow_left (by rw [yS];decide) N
     omega
    rw [← GR] at hv'
    have hc0:c=0:=by
     apply Nat.eq_zero_of_not_pos;intro hc
     have:yB^N*1≤yB^N*c:=Nat.mul_le_mul_left _ hc
     omega
    rw [hc0,Nat.mul_zero,Nat.add_zero] at hv'
    refine ⟨by rw [hdrop,List.append_assoc,List.take_append_drop];exact i1,hl',hd',hv',.inr ?_⟩
    have h6:(ds.extract (q+1) ds.size).size=ds.size-(q+1):=by
     have h:=congrArg List.length hdrop
     rw [List.length_drop,c4] at h
     have h2:(ds.extract (q+1) ds.size).data.toList.length=(ds.extract (q+1) ds.size).size:=by simp
     omega
    rw [h6,hq.out];omega)
   have hsz:Hid ((ds.extract (q+1) ds.size).size<ds.size∧((ds.extract (q+1) ds.size).size:Int)≤100000):=yA (by
    have h6:(ds.extract (q+1) ds.size).size=ds.size-(q+1):=by simp
    rw [h6];omega)
   have hb3:=Only.below hbw2 ho nl
   clear hv' hd' hl'
   go_wp2
   go_roundw
   case rel=>exact ⟨_,pre++ds.data.toList.take (q+1),L',rfl,hr3,hb3,hsz.out.2,ybd⟩
   case measure=>exact hsz.out.1
theorem ycq (a:Bool) (s t:ByteArray) (w:World) (hs:s.size≤100000) (ht:t.size≤100000) (hds:s.data.toList.all yL=true) (hdt:t.data.toList.all yL=true):Calls Tryz.prog 209 #[.bool a,.string s,.string t] w (ydS a (zC s.data.toList) (zC t.data.toList) w):=by
 have zH:=yA (Res.start w)
 have h1:∀ W,Hid (Calls Tryz.prog 211 #[.string s] W (jB (zC s.data.toList) W)):=fun W=>yA (ybQ s W hs hds)
 have h2:∀ W,Hid (Calls Tryz.prog 211 #[.string t] W (jB (zC t.data.toList) W)):=fun W=>yA (ybQ t W ht hdt)
 generalize zC s.data.toList=n at h1 ⊢
 generalize zC t.data.toList=d at h2 ⊢
 clear hds hdt
 go_in
 go_wp2_with fail
 refine (h1 _).out.mono ?_
 rintro e w2 ⟨v2,rfl,hv2,hb2⟩
 have hr2:=yA (zH.out.next hb2)
 have Hv2:=yA hv2
 clear hv2 hb2
 go_wp2_with fail
 refine (h2 _).out.mono ?_
 rintro e w3 ⟨v3,rfl,hv3,hb3⟩
 have hr3:=yA (hr2.out.next hb3)
 have yuQ:=yA (Hv2.out.below hb3)
 have hsg:Hid (Calls Tryz.prog 132 #[.bool a,v2,v3] w3 (Rp (.agg #[.bool (a&&!(n==0)),v2,v3]) w3)) :=
  yA (uZ a _ _ n d _ yuQ.out hv3)
 have Hv3:=yA hv3
 clear hv3 hb3 Hv2
 go_wp2_with fail
 refine hsg.out.mono ?_
 rintro e w4 ⟨rfl,hb4⟩
 have htw:=hr3.out.next hb4
 have hn4:=yuQ.out.below hb4
 have hd4:=Hv3.out.below hb4
 obtain ⟨p2,n2,k2,rfl⟩:=hn4.slice
 obtain ⟨p3,n3,k3,rfl⟩:=hd4.slice
 obtain ⟨z0,z1,z2,l0,l1,l2,f0,f1,f2⟩:=htw.slots
 have q1:=htw.nat3 nl hn4 (a&&!(n==0)) p2 p3 n2 k2 n3 k3
 have q2:=htw.nat3 nl hd4 (a&&!(n==0)) p2 p3 n2 k2 n3 k3
 have q3:=(htw.put3 nl (a&&!(n==0)) p2 p3 n2 k2 n3 k3).below
 have yF:Hid (∀ W,W=(((w4.setCell ⟨w.heap.size,0,none⟩ (.bool (a&&!(n==0)))).setCell ⟨w.heap.size,1,none⟩ (.slice p2 n2 k2)).setCell ⟨w.heap.size,2,none⟩ (.slice p3 n3 k3))→ydS a n d w (.returned (.agg #[.bool (a&&!(n==0)),.slice p2 n2 k2,.slice p3 n3 k3])) W):=yA (by
  rintro W rfl
  exact ⟨_,rfl,⟨_,_,rfl,q1,q2,by intro h;simp at h;omega⟩,q3⟩)
 clear htw q1 q2 q3 hn4 hd4 yuQ Hv3
 go_wp2
 refine bodyPost_ret (v:=.agg #[.bool (a&&!(n==0)),.slice p2 n2 k2,.slice p3 n3 k3]) (by simp [results,Tryz.results209,go_sem,l0,l1,l2]) rfl ?_
 exact yF.out _ rfl
theorem ymj (s:ByteArray) (c:UInt8) (w:World) (hs:(s.size:Int)≤4294967280) :
  Calls Tryz.prog 234 #[.string s,.string ⟨#[c]⟩] w fun e w'=>e=.returned (.tuple #[.string ⟨(Lib.cut s.data.toList [c]).1.toArray⟩,.string ⟨(Lib.cut s.data.toList [c]).2.1.toArray⟩,.bool (Lib.cut s.data.toList [c]).2.2])∧∃ n,w'=w.drewN n:=by
 have jT:∀ W,Hid (Calls Tryz.prog 257 #[.string s,.string ⟨#[c]⟩] W fun e w'=>e=.returned (.int .i64 (Lib.indexByte s.data.toList c))∧w'=W):=fun W=>yA (Go.Proofs.Tryz.stringslite_Index_one s c W)
 rw [← Lib.index_one] at jT
 rcases Lib.indexB_cases s ⟨#[c]⟩ with hix|⟨i,hix,ylH⟩
 ·obtain ⟨e1,e2,e3⟩:=Lib.cutB_miss s ⟨#[c]⟩ hix
  have hix':Lib.index s.data.toList [c]=-1:=hix
  rw [hix'] at jT
  change _=_ at e1
  have e1':(⟨(Lib.cut s.data.toList [c]).1.toArray⟩:ByteArray)=s:=e1
  have e2':(⟨(Lib.cut s.data.toList [c]).2.1.toArray⟩:ByteArray)=⟨#[]⟩:=e2
  have e3':(Lib.cut s.data.toList [c]).2.2=false:=e3
  rw [e1',e2',e3']
  clear hix hix' e1 e2 e3 e1' e2' e3'
  go_in
  go_wp2_with fail
  refine (jT _).out.mono ?_
  rintro e w' ⟨rfl,rfl⟩
  go_wp2
  go_ret3
  exact ⟨rfl,0,rfl⟩
 ·obtain ⟨e1,e2,e3⟩:=Lib.cutB_hit s ⟨#[c]⟩ i hix
  have hix':Lib.index s.data.toList [c]=i:=hix
  rw [hix'] at jT
  have e3':(Lib.cut s.data.toList [c]).2.2=true:=e3
  have hsz:(⟨#[c]⟩:ByteArray).size=1:=rfl
  rw [hsz] at e2 ylH
  have Hfin:Hid (∀ r1 r2,r1=s.extract 0 i→r2=s.extract (i+1) s.size→(⟨(Lib.cut s.data.toList [c]).1.toArray⟩:ByteArray)=r1∧(⟨(Lib.cut s.data.toList [c]).2.1.toArray⟩:ByteArray)=r2):=yA (by
   rintro r1 r2 rfl rfl;exact ⟨e1,e2⟩)
  rw [e3']
  clear hix hix' e1 e2 e3 e3'
  go_in
  go_wp2_with fail
  refine (jT _).out.mono ?_
  rintro e w' ⟨rfl,rfl⟩
  go_wp2_with fail
  go_quiet (fail)
  go_wp2
  go_ret3
  obtain ⟨r1,r2⟩:=Hfin.out _ _ rfl rfl
  rw [r1,r2]
  exact ⟨rfl,_,rfl⟩
theorem ytw (s:ByteArray) (c:UInt8) (w:World) (hs:(s.size:Int)≤4294967280) :
  Calls Tryz.prog 207 #[.string s,.string ⟨#[c]⟩] w fun e w'=>e=.returned (.tuple #[.string ⟨(Lib.cut s.data.toList [c]).1.toArray⟩,.string ⟨(Lib.cut s.data.toList [c]).2.1.toArray⟩,.bool (Lib.cut s.data.toList [c]).2.2])∧∃ n,w'=w.drewN n:=by
 have h:=yA (ymj s c w hs)
 go_in
 go_wp2_with fail
 refine h.out.mono ?_
 rintro e w' ⟨rfl,n,rfl⟩
 go_wp2
 go_ret3
 exact ⟨rfl,n,rfl⟩
def uQ (l:Lb):Option (Nat × Nat) :=
 if (Lib.cut l [46]).2.2 then
  if yZ (Lib.cut l [46]).1&&yZ (Lib.cut l [46]).2.1 then some (zC ((Lib.cut l [46]).1++(Lib.cut l [46]).2.1),10^(Lib.cut l [46]).2.1.length) else none
 else if (Lib.cut l [47]).2.2 then
  if yZ (Lib.cut l [47]).1&&yZ (Lib.cut l [47]).2.1&&!(zC (Lib.cut l [47]).2.1==0) then some (zC (Lib.cut l [47]).1,zC (Lib.cut l [47]).2.1) else none
 else if yZ l then some (zC l,1) else none
def GP (l:Lb):Option (Bool × Nat × Nat):=(uQ (Lib.trimPrefix l [45])).map fun p=>(Lib.hasPrefix l [45],p.1,p.2)
def jQ (o:Option (Bool × Nat × Nat)) (w:World) (e:Ending) (w':World):Prop :=
 Be w w'∧match o with
 | some (s,n,d)=>∃ x,e=.returned (.tuple #[x,.bool true])∧vM w' x (s&&!(n==0)) n d
 | none=>e=.returned (.tuple #[.agg #[.bool false,.slice none 0 0,.slice none 0 0],.bool false])
theorem yhf (n:Nat):zC (49::Lib.repeatL [48] n)=10^n∧(49::Lib.repeatL [48] n).all yL=true:=by
 have h:∀ n,zC (Lib.repeatL [48] n)=0∧(Lib.repeatL [48] n).all yL=true:=by
  intro n
  induction n with
  | zero=>exact ⟨rfl,rfl⟩
  | succ n ih =>
   constructor
   ·show zC ([48]++Lib.repeatL [48] n)=0
    rw [uK,ih.1]
    show (0*10+(48-48))*_+0=0
    simp
   ·show ([48]++Lib.repeatL [48] n).all yL=true
    rw [List.all_append,ih.2];decide
 constructor
 ·show zC ([49]++Lib.repeatL [48] n)=_
  rw [uK,(h n).1,Lib.repeatL_length]
  show (0*10+(49-48))*_+0=_
  simp
 ·show ([49]++Lib.repeatL [48] n).all yL=true
  rw [List.all_append,(h n).2];decide
theorem ycW (l:Lb) (c:UInt8):(Lib.cut l [c]).1.length≤l.length∧(Lib.cut l [c]).2.1.length≤l.length∧(Lib.cut l [c]).1.length+(Lib.cut l [c]).2.1.length≤l.length:=by
 unfold Lib.cut
 split
 ·simp;omega
 ·simp
theorem jI {l:Lb} (h:yZ l=true):l.all yL=true:=by
 simp only [yZ,Bool.and_eq_true] at h
 first|exact h.1|exact h.2
theorem yfM (l:Lb):(Lib.trimPrefix l [45]).length≤l.length:=by
 unfold Lib.trimPrefix
 split
 ·simp
 ·exact Nat.le_refl _
def yaD (r a b:ByteArray) (c:UInt8) (f:Bool):Prop:=∀ W:World,Hid (Calls Tryz.prog 207 #[.string r,.string ⟨#[c]⟩] W (Rp (.tuple #[.string a,.string b,.bool f]) W))
def yc2 (s r:ByteArray) (f:Bool):Prop:=∀ W:World,Hid (Calls Tryz.prog 206 #[.string s,.string ⟨#[45]⟩] W fun e w'=>e=.returned (.tuple #[.string r,.bool f])∧w'=W)
def yaE (a:ByteArray) (f:Bool):Prop:=∀ W:World,Hid (Calls Tryz.prog 208 #[.string a] W (Qp (.bool f) W))
theorem yg0 (s r a b:ByteArray) (neg:Bool) (w:World) (hp:yc2 s r neg) (hc:yaD r a b 46 true) (ha:yaE a false):Calls Tryz.prog 175 #[.string s] w (jQ none w):=by
 have zH:=yA (Res.start w)
 go_in
 go_wp2_with fail
 refine (hp _).out.mono ?_
 rintro e w2 ⟨rfl,rfl⟩
 go_wp2_with fail
 refine (hc _).out.mono ?_
 rintro e w3 ⟨rfl,b3⟩
 have GT:=yA (zH.out.next b3)
 obtain ⟨z0,z1,z2,l0,l1,l2,f0,f1,f2⟩:=GT.out.slots
 have q3:=yA (GT.out.put3 nl false none none 0 0 0 0).below
 go_wp2_with fail
 refine (ha _).out.mono ?_
 rintro e w4 ⟨rfl,rfl⟩
 go_wp2
 refine bodyPost_ret (v:=.tuple #[.agg #[.bool false,.slice none 0 0,.slice none 0 0],.bool false]) (by simp [results,Tryz.results175,go_sem,l0,l1,l2]) rfl ?_
 exact ⟨q3.out,rfl⟩
theorem yg1 (s r a b:ByteArray) (neg:Bool) (w:World) (hp:yc2 s r neg) (hc:yaD r a b 46 true) (ha:yaE a true) (hb:yaE b false):Calls Tryz.prog 175 #[.string s] w (jQ none w):=by
 have zH:=yA (Res.start w)
 go_in
 go_wp2_with fail
 refine (hp _).out.mono ?_
 rintro e w2 ⟨rfl,rfl⟩
 go_wp2_with fail
 refine (hc _).out.mono ?_
 rintro e w3 ⟨rfl,b3⟩
 have GT:=yA (zH.out.next b3)
 obtain ⟨z0,z1,z2,l0,l1,l2,f0,f1,f2⟩:=GT.out.slots
 have q3:=yA (GT.out.put3 nl false none none 0 0 0 0).below
 go_wp2_with fail
 refine (ha _).out.mono ?_
 rintro e w4 ⟨rfl,rfl⟩
 go_wp2_with fail
 refine (hb _).out.mono ?_
 rintro e w5 ⟨rfl,rfl⟩
 go_wp2
 refine bodyPost_ret (v:=.tuple #[.agg #[.bool false,.slice none 0 0,.slice none 0 0],.bool false]) (by simp [results,Tryz.results175,go_sem,l0,l1,l2]) rfl ?_
 exact ⟨q3.out,rfl⟩
theorem yfg (s r a0 b0 a b:ByteArray) (neg:Bool) (w:World) (hp:yc2 s r neg) (hc:yaD r a0 b0 46 false) (hd:yaD r a b 47 true) (ha:yaE a false):Calls Tryz.prog 175 #[.string s] w (jQ none w):=by
 have zH:=yA (Res.start w)
 go_in
 go_wp2_with fail
 refine (hp _).out.mono ?_
 rintro e w2 ⟨rfl,rfl⟩
 go_wp2_with fail
 refine (hc _).out.mono ?_
 rintro e w3 ⟨rfl,b3⟩
 have GT:=yA (zH.out.next b3)
 go_wp2_with fail
 refine (hd _).out.mono ?_
 rintro e w6 ⟨rfl,b6⟩
 have yaG:=yA (GT.out.next b6)
 obtain ⟨z0,z1,z2,l0,l1,l2,f0,f1,f2⟩:=yaG.out.slots
 have q3:=yA (yaG.out.put3 nl false none none 0 0 0 0).below
 go_wp2_with fail
 refine (ha _).out.mono ?_
 rintro e w4 ⟨rfl,rfl⟩
 go_wp2
 refine bodyPost_ret (v:=.tuple #[.agg #[.bool false,.slice none 0 0,.slice none 0 0],.bool false]) (by simp [results,Tryz.results175,go_sem,l0,l1,l2]) rfl ?_
 exact ⟨q3.out,rfl⟩
theorem yfh (s r a0 b0 a b:ByteArray) (neg:Bool) (w:World) (hp:yc2 s r neg) (hc:yaD r a0 b0 46 false) (hd:yaD r a b 47 true) (ha:yaE a true) (hb:yaE b false):Calls Tryz.prog 175 #[.string s] w (jQ none w):=by
 have zH:=yA (Res.start w)
 go_in
 go_wp2_with fail
 refine (hp _).out.mono ?_
 rintro e w2 ⟨rfl,rfl⟩
 go_wp2_with fail
 refine (hc _).out.mono ?_
 rintro e w3 ⟨rfl,b3⟩
 have GT:=yA (zH.out.next b3)
 go_wp2_with fail
 refine (hd _).out.mono ?_
 rintro e w6 ⟨rfl,b6⟩
 have yaG:=yA (GT.out.next b6)
 obtain ⟨z0,z1,z2,l0,l1,l2,f0,f1,f2⟩:=yaG.out.slots
 have q3:=yA (yaG.out.put3 nl false none none 0 0 0 0).below
 go_wp2_with fail
 refine (ha _).out.mono ?_
 rintro e w4 ⟨rfl,rfl⟩
 go_wp2_with fail
 refine (hb _).out.mono ?_
 rintro e w5 ⟨rfl,rfl⟩
 go_wp2
 refine bodyPost_ret (v:=.tuple #[.agg #[.bool false,.slice none 0 0,.slice none 0 0],.bool false]) (by simp [results,Tryz.results175,go_sem,l0,l1,l2]) rfl ?_
 exact ⟨q3.out,rfl⟩
theorem ygn (s r a0 b0 a b:ByteArray) (neg:Bool) (w:World) (hp:yc2 s r neg) (hc:yaD r a0 b0 46 false) (hd:yaD r a b 47 false) (ha:yaE a false):Calls Tryz.prog 175 #[.string s] w (jQ none w):=by
 have zH:=yA (Res.start w)
 go_in
 go_wp2_with fail
 refine (hp _).out.mono ?_
 rintro e w2 ⟨rfl,rfl⟩
 go_wp2_with fail
 refine (hc _).out.mono ?_
 rintro e w3 ⟨rfl,b3⟩
 have GT:=yA (zH.out.next b3)
 go_wp2_with fail
 refine (hd _).out.mono ?_
 rintro e w6 ⟨rfl,b6⟩
 have yaG:=yA (GT.out.next b6)
 obtain ⟨z0,z1,z2,l0,l1,l2,f0,f1,f2⟩:=yaG.out.slots
 have q3:=yA (yaG.out.put3 nl false none none 0 0 0 0).below
 go_wp2_with fail
 refine (ha _).out.mono ?_
 rintro e w4 ⟨rfl,rfl⟩
 go_wp2
 refine bodyPost_ret (v:=.tuple #[.agg #[.bool false,.slice none 0 0,.slice none 0 0],.bool false]) (by simp [results,Tryz.results175,go_sem,l0,l1,l2]) rfl ?_
 exact ⟨q3.out,rfl⟩
def yly (a:ByteArray) (n:Nat):Prop:=∀ W:World,Hid (Calls Tryz.prog 211 #[.string a] W (jB n W))
def yk8 (neg:Bool) (a b:ByteArray) (n d:Nat):Prop:=∀ W:World,Hid (Calls Tryz.prog 209 #[.bool neg,.string a,.string b] W (ydS neg n d W))
theorem ykC (s r a b:ByteArray) (neg:Bool) (n d:Nat) (y:ByteArray) (w:World) (hsy:(y.size:Int)≤100000) (hy:∀ W:World,Hid (Calls Tryz.prog 210 #[.string ⟨#[48]⟩,.int .i64 b.size] W (Rp (.string y) W))) (hp:yc2 s r neg) (hc:yaD r a b 46 true) (ha:yaE a true) (hb:yaE b true) (hsa:(a.size:Int)≤100000) (hsz:(b.size:Int)≤100000) (hf:yk8 neg (a++b) (⟨#[49]⟩++y) n d):Calls Tryz.prog 175 #[.string s] w (jQ (some (neg,n,d)) w):=by
 have zH:=yA (Res.start w)
 go_in
 go_wp2_with fail
 refine (hp _).out.mono ?_
 rintro e w2 ⟨rfl,rfl⟩
 go_wp2_with fail
 refine (hc _).out.mono ?_
 rintro e w3 ⟨rfl,b3⟩
 have GT:=yA (zH.out.next b3)
 go_wp2_with fail
 refine (ha _).out.mono ?_
 rintro e w4 ⟨rfl,rfl⟩
 go_wp2_with fail
 refine (hb _).out.mono ?_
 rintro e w5 ⟨rfl,rfl⟩
 go_wp2_with fail
 refine (hy _).out.mono ?_
 rintro e w6 ⟨rfl,b6⟩
 have yaG:=yA (GT.out.next b6)
 go_wp2_with fail
 refine (hf _).out.mono ?_
 rintro e w9 ⟨x9,rfl,hr9,b9⟩
 have htw:=yaG.out.next b9
 obtain ⟨v9,u9,rfl,hn9,hd9,hs9⟩:=hr9
 obtain ⟨p2,n2,k2,rfl⟩:=hn9.slice
 obtain ⟨p3,n3,k3,rfl⟩:=hd9.slice
 obtain ⟨z0,z1,z2,l0,l1,l2,f0,f1,f2⟩:=htw.slots
 have q1:=htw.nat3 nl hn9 (neg&&!(n==0)) p2 p3 n2 k2 n3 k3
 have q2:=htw.nat3 nl hd9 (neg&&!(n==0)) p2 p3 n2 k2 n3 k3
 have q3:=(htw.put3 nl (neg&&!(n==0)) p2 p3 n2 k2 n3 k3).below
 have yF:Hid (∀ W,W=(((w9.setCell ⟨w.heap.size,0,none⟩ (.bool (neg&&!(n==0)))).setCell ⟨w.heap.size,1,none⟩ (.slice p2 n2 k2)).setCell ⟨w.heap.size,2,none⟩ (.slice p3 n3 k3))→jQ (some (neg,n,d)) w (.returned (.tuple #[.agg #[.bool (neg&&!(n==0)),.slice p2 n2 k2,.slice p3 n3 k3],.bool true])) W):=yA (by
  rintro W rfl
  exact ⟨q3,_,rfl,_,_,rfl,q1,q2,hs9⟩)
 clear htw q1 q2 q3 hn9 hd9 hs9 b9
 go_wp2
 refine bodyPost_ret (v:=.tuple #[.agg #[.bool (neg&&!(n==0)),.slice p2 n2 k2,.slice p3 n3 k3],.bool true]) (by simp [results,Tryz.results175,go_sem,l0,l1,l2]) rfl ?_
 exact yF.out _ rfl
theorem yfi (s r a0 b0 a b:ByteArray) (neg:Bool) (w:World) (hp:yc2 s r neg) (hc:yaD r a0 b0 46 false) (hd:yaD r a b 47 true) (ha:yaE a true) (hb:yaE b true) (hn:yly b 0):Calls Tryz.prog 175 #[.string s] w (jQ (none) w):=by
 have zH:=yA (Res.start w)
 go_in
 go_wp2_with fail
 refine (hp _).out.mono ?_
 rintro e w2 ⟨rfl,rfl⟩
 go_wp2_with fail
 refine (hc _).out.mono ?_
 rintro e w3 ⟨rfl,b3⟩
 have GT:=yA (zH.out.next b3)
 go_wp2_with fail
 refine (hd _).out.mono ?_
 rintro e w6 ⟨rfl,b6⟩
 have yaG:=yA (GT.out.next b6)
 go_wp2_with fail
 refine (ha _).out.mono ?_
 rintro e w4 ⟨rfl,rfl⟩
 go_wp2_with fail
 refine (hb _).out.mono ?_
 rintro e w5 ⟨rfl,rfl⟩
 go_wp2_with fail
 refine (hn _).out.mono ?_
 rintro e w7 ⟨v7,rfl,hv7,b7⟩
 obtain ⟨p7,n7,k7,rfl⟩:=hv7.slice
 have hz7:((n7:Int)==0)=true:=by
  have:=jF hv7
  rw [this.2 rfl];rfl
 have ygH:=yA (yaG.out.next b7)
 obtain ⟨z0,z1,z2,l0,l1,l2,f0,f1,f2⟩:=ygH.out.slots
 have q3:=yA (ygH.out.put3 nl false none none 0 0 0 0).below
 clear hv7 b7
 go_wp2_with fail
 refine (jS _ _ _ _).mono ?_
 rintro e w8 ⟨rfl,rfl⟩
 rw [hz7]
 go_wp2
 refine bodyPost_ret (v:=.tuple #[.agg #[.bool false,.slice none 0 0,.slice none 0 0],.bool false]) (by simp [results,Tryz.results175,go_sem,l0,l1,l2]) rfl ?_
 exact ⟨q3.out,rfl⟩
theorem yg2 (s r a0 b0 a b:ByteArray) (neg:Bool) (n d:Nat) (w:World) (hp:yc2 s r neg) (hc:yaD r a0 b0 46 false) (hd:yaD r a b 47 true) (ha:yaE a true) (hb:yaE b true) (hn:yly b d) (hd0:0<d) (hf:yk8 neg a b n d):Calls Tryz.prog 175 #[.string s] w (jQ (some (neg,n,d)) w):=by
 have zH:=yA (Res.start w)
 go_in
 go_wp2_with fail
 refine (hp _).out.mono ?_
 rintro e w2 ⟨rfl,rfl⟩
 go_wp2_with fail
 refine (hc _).out.mono ?_
 rintro e w3 ⟨rfl,b3⟩
 have GT:=yA (zH.out.next b3)
 go_wp2_with fail
 refine (hd _).out.mono ?_
 rintro e w6 ⟨rfl,b6⟩
 have yaG:=yA (GT.out.next b6)
 go_wp2_with fail
 refine (ha _).out.mono ?_
 rintro e w4 ⟨rfl,rfl⟩
 go_wp2_with fail
 refine (hb _).out.mono ?_
 rintro e w5 ⟨rfl,rfl⟩
 go_wp2_with fail
 refine (hn _).out.mono ?_
 rintro e w7 ⟨v7,rfl,hv7,b7⟩
 obtain ⟨p7,n7,k7,rfl⟩:=hv7.slice
 have hz7:((n7:Int)==0)=false:=by
  have:=jF hv7
  rw [beq_eq_false_iff_ne];omega
 have ygH:=yA (yaG.out.next b7)
 clear hv7 b7
 go_wp2_with fail
 refine (jS _ _ _ _).mono ?_
 rintro e w8 ⟨rfl,rfl⟩
 rw [hz7]
 go_wp2_with fail
 refine (hf _).out.mono ?_
 rintro e w9 ⟨x9,rfl,hr9,b9⟩
 have htw:=ygH.out.next b9
 obtain ⟨v9,u9,rfl,hn9,hd9,hs9⟩:=hr9
 obtain ⟨p2,n2,k2,rfl⟩:=hn9.slice
 obtain ⟨p3,n3,k3,rfl⟩:=hd9.slice
 obtain ⟨z0,z1,z2,l0,l1,l2,f0,f1,f2⟩:=htw.slots
 have q1:=htw.nat3 nl hn9 (neg&&!(n==0)) p2 p3 n2 k2 n3 k3
 have q2:=htw.nat3 nl hd9 (neg&&!(n==0)) p2 p3 n2 k2 n3 k3
 have q3:=(htw.put3 nl (neg&&!(n==0)) p2 p3 n2 k2 n3 k3).below
 have yF:Hid (∀ W,W=(((w9.setCell ⟨w.heap.size,0,none⟩ (.bool (neg&&!(n==0)))).setCell ⟨w.heap.size,1,none⟩ (.slice p2 n2 k2)).setCell ⟨w.heap.size,2,none⟩ (.slice p3 n3 k3))→jQ (some (neg,n,d)) w (.returned (.tuple #[.agg #[.bool (neg&&!(n==0)),.slice p2 n2 k2,.slice p3 n3 k3],.bool true])) W):=yA (by
  rintro W rfl
  exact ⟨q3,_,rfl,_,_,rfl,q1,q2,hs9⟩)
 clear htw q1 q2 q3 hn9 hd9 hs9 b9
 go_wp2
 refine bodyPost_ret (v:=.tuple #[.agg #[.bool (neg&&!(n==0)),.slice p2 n2 k2,.slice p3 n3 k3],.bool true]) (by simp [results,Tryz.results175,go_sem,l0,l1,l2]) rfl ?_
 exact yF.out _ rfl
theorem yg3 (s r a0 b0 a b:ByteArray) (neg:Bool) (n d:Nat) (w:World) (hp:yc2 s r neg) (hc:yaD r a0 b0 46 false) (hd:yaD r a b 47 false) (ha:yaE a true) (hb:yaE ⟨#[49]⟩ true) (hn:yly ⟨#[49]⟩ d) (hd0:0<d) (hf:yk8 neg a ⟨#[49]⟩ n d):Calls Tryz.prog 175 #[.string s] w (jQ (some (neg,n,d)) w):=by
 have zH:=yA (Res.start w)
 go_in
 go_wp2_with fail
 refine (hp _).out.mono ?_
 rintro e w2 ⟨rfl,rfl⟩
 go_wp2_with fail
 refine (hc _).out.mono ?_
 rintro e w3 ⟨rfl,b3⟩
 have GT:=yA (zH.out.next b3)
 go_wp2_with fail
 refine (hd _).out.mono ?_
 rintro e w6 ⟨rfl,b6⟩
 have yaG:=yA (GT.out.next b6)
 go_wp2_with fail
 refine (ha _).out.mono ?_
 rintro e w4 ⟨rfl,rfl⟩
 go_wp2_with fail
 refine (hb _).out.mono ?_
 rintro e w5 ⟨rfl,rfl⟩
 go_wp2_with fail
 refine (hn _).out.mono ?_
 rintro e w7 ⟨v7,rfl,hv7,b7⟩
 obtain ⟨p7,n7,k7,rfl⟩:=hv7.slice
 have hz7:((n7:Int)==0)=false:=by
  have:=jF hv7
  rw [beq_eq_false_iff_ne];omega
 have ygH:=yA (yaG.out.next b7)
 clear hv7 b7
 go_wp2_with fail
 refine (jS _ _ _ _).mono ?_
 rintro e w8 ⟨rfl,rfl⟩
 rw [hz7]
 go_wp2_with fail
 refine (hf _).out.mono ?_
 rintro e w9 ⟨x9,rfl,hr9,b9⟩
 have htw:=ygH.out.next b9
 obtain ⟨v9,u9,rfl,hn9,hd9,hs9⟩:=hr9
 obtain ⟨p2,n2,k2,rfl⟩:=hn9.slice
 obtain ⟨p3,n3,k3,rfl⟩:=hd9.slice
 obtain ⟨z0,z1,z2,l0,l1,l2,f0,f1,f2⟩:=htw.slots
 have q1:=htw.nat3 nl hn9 (neg&&!(n==0)) p2 p3 n2 k2 n3 k3
 have q2:=htw.nat3 nl hd9 (neg&&!(n==0)) p2 p3 n2 k2 n3 k3
 have q3:=(htw.put3 nl (neg&&!(n==0)) p2 p3 n2 k2 n3 k3).below
 have yF:Hid (∀ W,W=(((w9.setCell ⟨w.heap.size,0,none⟩ (.bool (neg&&!(n==0)))).setCell ⟨w.heap.size,1,none⟩ (.slice p2 n2 k2)).setCell ⟨w.heap.size,2,none⟩ (.slice p3 n3 k3))→jQ (some (neg,n,d)) w (.returned (.tuple #[.agg #[.bool (neg&&!(n==0)),.slice p2 n2 k2,.slice p3 n3 k3],.bool true])) W):=yA (by
  rintro W rfl
  exact ⟨q3,_,rfl,_,_,rfl,q1,q2,hs9⟩)
 clear htw q1 q2 q3 hn9 hd9 hs9 b9
 go_wp2
 refine bodyPost_ret (v:=.tuple #[.agg #[.bool (neg&&!(n==0)),.slice p2 n2 k2,.slice p3 n3 k3],.bool true]) (by simp [results,Tryz.results175,go_sem,l0,l1,l2]) rfl ?_
 exact yF.out _ rfl
end Go.Proofs.YtgepehlpjpccaaaGreatDoor
