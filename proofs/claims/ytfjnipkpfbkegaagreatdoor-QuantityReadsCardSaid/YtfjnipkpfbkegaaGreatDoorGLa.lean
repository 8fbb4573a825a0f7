/- Contracts. -/
import Derived.Test.YtfjnipkpfbkegaaGreatDoorXShelfB
import Derived.Test.YtfjnipkpfbkegaaGreatDoorGU
set_option maxHeartbeats 4000000
set_option maxRecDepth 100000
namespace Go.Proofs.YtfjnipkpfbkegaaGreatDoor
open Go.RowKit Big
open Go.Lib
theorem ydA {u:Nat} (h:u<18446744073709551616):nDigits u≤40:=by
 have:=nDigits_le20 u h
 omega
def GU (o:Rat):List (Int × FacR)→Rat
 | []=>o
 | x::fs=>GU (if x.2.s.off then (x.2.s.z:Rat)/(x.2.s.p:Rat) else o) fs
def ycV (fs:List (Int × FacR)):Bool:=fs.any (fun x=>x.2.s.off&&(decide (1<fs.length) || x.2.ra))
def ybK (fs:List (Int × FacR)):UnitT × Int :=
 if ycV fs=true then (vZ,10) else if 12<fs.length then (vZ,4) else if fs.all (fun x=>zP x.2.e)=false then (vZ,4) else yc0 (jV 1 jG fs).1 (GU 0 fs) (jV 1 jG fs).2
def ybL (l:List UInt8):UnitT × Int :=
 if 1000<l.length then (vZ,4) else match zB l 1 [] (l.length+1) with
  | none=>(vZ,10)
  | some fs=>ybK fs
theorem yqs:∀ (fs:List (Int × FacR)) (o:Rat),(∀ x ∈ fs,x.2.s.off=false)→GU o fs=o:=by
 intro fs
 induction fs with
 | nil=>intro o _;rfl
 | cons x fs ih =>
  intro o h
  unfold GU
  rw [h x (List.mem_cons_self ..),if_neg (by decide)]
  exact ih o (fun y hy=>h y (List.mem_cons_of_mem _ hy))
theorem yjx {l:List UInt8} {f:FacR} {n:Nat} (h:uL l=some (f,n)) (ho:f.s.off=true) (hr:f.ra=false):n=zG l:=by
 unfold uL at h
 split at h
 ·unfold yb8 at h
  split at h
  ·cases h;cases ho
  ·cases h
 ·cases hf:jU (l.take (zG l)) with
  | none=>rw [yaD hf] at h;cases h
  | some x =>
   obtain ⟨s,q⟩:=x
   by_cases h94:∃ t,l.drop (zG l)=94::t
   ·obtain ⟨t,ht⟩:=h94
    rw [yaj hf ht,Option.map_eq_some_iff] at h
    obtain ⟨p,-,hy⟩:=h
    cases hy
    cases hr
   ·rw [GQ hf (fun t ht=>h94 ⟨t,ht⟩)] at h
    cases h
    rfl
theorem yo7 {l:List UInt8} (h1:¬ 1000<l.length) (hC:l≠ybM) (hF:l≠ybN):ybL l=yad l:=by
 have hu:yad l=match zL l 1 [] (l.length+1) with
  | none=>(vZ,10)
  | some fs=>if 12<fs.length then (vZ,4) else yac 1 jG fs:=by
  unfold yad
  rw [if_neg h1,if_neg (by simpa [ybM] using hC),if_neg (by simpa [ybN] using hF)]
  rfl
 rw [hu]
 unfold ybL
 rw [if_neg h1]
 rcases ykS (l.length+1) l 1 [] [] (by omega) with ⟨h2,h3⟩|⟨f,n,fs,h2,h3,h4,h5⟩
 ·rw [h2,h3]
 ·rw [List.nil_append] at h3
  have hd:=yei _ _ _ _ _ (.inl rfl) (fun x hx=>by cases hx) h3
  rw [h3]
  simp only
  rcases h5 with ⟨⟨x,hx,hxo⟩,h6⟩|⟨h6,gs,h7,h8⟩
  ·rw [h6]
   have hb:ycV ((1,f)::fs)=true:=by
    unfold ycV
    rw [List.any_eq_true]
    cases fs with
    | cons y ys=>exact ⟨x,hx,by rw [hxo];simp⟩
    | nil =>
     obtain rfl:=List.mem_singleton.1 hx
     cases hr:f.ra with
     | true=>exact ⟨(1,f),hx,by rw [hxo];simp [hr]⟩
     | false =>
      have hn:=yjx h2 hxo hr
      have hl:=h4 rfl
      exfalso
      rcases yl7 (l:=l) (by omega) with ⟨e,-⟩|⟨g,m,e,h9⟩
      ·rw [h2] at e;cases e
      ·rw [h2] at e
       cases e
       rcases h9 with ⟨-,-,h9⟩|⟨h9,-⟩
       ·rw [← hn,hl,List.take_length] at h9
        exact h9.elim hC hF
       ·rw [hxo] at h9;cases h9
   unfold ybK
   rw [if_pos hb]
  ·rw [h7,List.nil_append]
   have hb:ycV ((1,f)::fs)=false:=by
    unfold ycV
    rw [List.any_eq_false]
    intro x hx
    rw [h6 x hx];simp
   have hlen:=h8.len
   unfold ybK
   rw [if_neg (by rw [hb];decide),hlen]
   simp only
   by_cases h12:12<gs.length
   ·rw [if_pos h12,if_pos h12]
   ·rw [if_neg h12,if_neg h12,yqA _ _ _ _ h8 hd,yqs _ _ h6,ykU]
    cases ha:((1,f)::fs).all (fun x=>zP x.2.e) with
    | true=>rw [if_neg (by decide),if_pos rfl]
    | false=>rw [if_pos rfl,if_neg (by decide)]
theorem yhb {q:Rat} {n d:Nat} {x:List UInt8} (hn:q.num=(n:Int)) (hd:q.den=d) (h1:n<1000000) (h2:d<1000000) (hx:wrote false n d=x):uB q=x:=by
 have e:q.num.natAbs=n:=by rw [hn];rfl
 have e2:decide (q.num<0)=false:=decide_eq_false (by rw [hn];omega)
 rw [ycf,e2,e,hd,if_pos ⟨ydA (by omega),ydA (by omega)⟩,hx]
theorem ysH:uB (1:Rat)=[49]:=yhb (n:=1) (d:=1) rfl rfl (by omega) (by omega) (by
 unfold wrote
 rw [show decDigits 1=[49] from decDigits_one (by decide)];rfl)
theorem yo8:uB ((27315:Rat)/100)=[53,52,54,51,47,50,48]:=by
 have e:(27315:Rat)/100=mkRat 27315 100:=by rw [Rat.mkRat_eq_div];rfl
 refine yhb (n:=5463) (d:=20) (by rw [e,Rat.num_mkRat];decide) (by rw [e,Rat.den_mkRat];decide) (by omega) (by omega) ?_
 unfold wrote
 rw [show decDigits 5463=[53,52,54,51] from by rw [jO (by decide),jO (by decide),jO (by decide),decDigits_one (by decide)];rfl,show decDigits 20=[50,48] from by rw [jO (by decide),decDigits_one (by decide)];rfl]
 rfl
theorem yqt:uB ((5:Rat)/9)=[53,47,57]:=by
 have e:(5:Rat)/9=mkRat 5 9:=by rw [Rat.mkRat_eq_div];rfl
 refine yhb (n:=5) (d:=9) (by rw [e,Rat.num_mkRat];decide) (by rw [e,Rat.den_mkRat];decide) (by omega) (by omega) ?_
 unfold wrote
 rw [show decDigits 5=[53] from decDigits_one (by decide),show decDigits 9=[57] from decDigits_one (by decide)]
 rfl
theorem yo9:uB ((45967:Rat)/180)=[52,53,57,54,55,47,49,56,48]:=by
 have e:(45967:Rat)/180=mkRat 45967 180:=by rw [Rat.mkRat_eq_div];rfl
 refine yhb (n:=45967) (d:=180) (by rw [e,Rat.num_mkRat];decide) (by rw [e,Rat.den_mkRat];decide) (by omega) (by omega) ?_
 unfold wrote
 rw [show decDigits 45967=[52,53,57,54,55] from by rw [jO (by decide),jO (by decide),jO (by decide),jO (by decide),decDigits_one (by decide)];rfl,show decDigits 180=[49,56,48] from by rw [jO (by decide),jO (by decide),decDigits_one (by decide)];rfl]
 rfl
theorem ymA:jU ybM=some (⟨ybM,1,1,false,[0,0,0,1,0,0,0],true,27315,100⟩,((1:Int):Rat)/((1:Int):Rat)):=rfl
theorem ymB:jU ybN=some (⟨ybN,5,9,false,[0,0,0,1,0,0,0],true,45967,180⟩,((5:Int):Rat)/((9:Int):Rat)):=rfl
theorem ymC:uL ybM=some (⟨((1:Int):Rat)/((1:Int):Rat),⟨ybM,1,1,false,[0,0,0,1,0,0,0],true,27315,100⟩,true,1,false⟩,4):=by
 have e:zG ybM=4:=rfl
 unfold uL
 rw [if_neg (by decide),GQ (l:=ybM) (by rw [e];exact ymA) (fun t h=>by cases h),e]
theorem ymD:uL ybN=some (⟨((5:Int):Rat)/((9:Int):Rat),⟨ybN,5,9,false,[0,0,0,1,0,0,0],true,45967,180⟩,true,1,false⟩,4):=by
 have e:zG ybN=4:=rfl
 unfold uL
 rw [if_neg (by decide),GQ (l:=ybN) (by rw [e];exact ymB) (fun t h=>by cases h),e]
theorem ypa:ybL ybM=yad ybM:=by
 have hr:yad ybM=(⟨[49],[53,52,54,51,47,50,48],yhe⟩,0):=rfl
 have h1:=ysH
 have h2:=yo8
 rw [hr]
 unfold ybL
 rw [if_neg (by decide),ya4 ymC rfl]
 simp only [List.nil_append]
 unfold ybK
 rw [if_neg (by decide),if_neg (by decide),if_neg (by decide)]
 have e1:(jV 1 jG [((1:Int),(⟨((1:Int):Rat)/((1:Int):Rat),⟨ybM,1,1,false,[0,0,0,1,0,0,0],true,27315,100⟩,true,1,false⟩:FacR))])=(1,yhe):=by
  unfold jV jV
  simp only
  rw [Int.mul_one,Rat.zpow_one]
  refine Prod.ext ?_ rfl
  dsimp only
  simp<;>grind
 rw [e1]
 have e2:GU 0 [((1:Int),(⟨((1:Int):Rat)/((1:Int):Rat),⟨ybM,1,1,false,[0,0,0,1,0,0,0],true,27315,100⟩,true,1,false⟩:FacR))]=(27315:Rat)/100:=by
  unfold GU GU
  simp<;>grind
 rw [e2]
 unfold yc0
 rw [h1,h2,if_neg (by decide)]
theorem ypb:ybL ybN=yad ybN:=by
 have hr:yad ybN=(⟨[53,47,57],[52,53,57,54,55,47,49,56,48],yhe⟩,0):=rfl
 have h1:=yqt
 have h2:=yo9
 rw [hr]
 unfold ybL
 rw [if_neg (by decide),ya4 ymD rfl]
 simp only [List.nil_append]
 unfold ybK
 rw [if_neg (by decide),if_neg (by decide),if_neg (by decide)]
 have e1:(jV 1 jG [((1:Int),(⟨((5:Int):Rat)/((9:Int):Rat),⟨ybN,5,9,false,[0,0,0,1,0,0,0],true,45967,180⟩,true,1,false⟩:FacR))])=(5/9,yhe):=by
  unfold jV jV
  simp only
  rw [Int.mul_one,Rat.zpow_one]
  refine Prod.ext ?_ rfl
  dsimp only
  simp<;>grind
 rw [e1]
 have e2:GU 0 [((1:Int),(⟨((5:Int):Rat)/((9:Int):Rat),⟨ybN,5,9,false,[0,0,0,1,0,0,0],true,45967,180⟩,true,1,false⟩:FacR))]=(45967:Rat)/180:=by
  unfold GU GU
  simp<;>grind
 rw [e2]
 unfold yc0
 rw [h1,h2,if_neg (by decide)]
theorem yox (l:List UInt8):ybL l=yad l:=by
 by_cases h1:1000<l.length
 ·unfold ybL yad
  rw [if_pos h1,if_pos h1]
 ·by_cases hC:l=ybM
  ·rw [hC];exact ypa
  ·by_cases hF:l=ybN
   ·rw [hF];exact ypb
   ·exact yo7 h1 hC hF
theorem ygm (s:ByteArray) (w:World) (hs:(s.size:Int)≤1000) (hc:yF s.data.toList=0) (HC:Hid (∃ S r,jU (s.data.toList.take (zG s.data.toList))=some (S,r)∧∃ hlt:zG s.data.toList<s.size,s[zG s.data.toList]'hlt=94∧(zG s.data.toList+1=s.size))):Calls Tryz.prog 35 #[.string s] w (yaZ (uW s.data.toList) w):=by
 obtain ⟨B,HBE⟩:∃ B,Hid (w.heap.size=B):=⟨_,yA rfl⟩
 have HBL:Hid (w.heap.size≤B):=yA (Nat.le_of_eq HBE.out)
 have HK0:Hid (Keep w (w.alloc (.cells #[.int .i64 0,.bool false,.slice none 0 0,.slice none 0 0,.string ⟨#[]⟩,.int .i64 0,.int .i64 0,.bool false,.int .i64 0,.int .i64 0,.int .i64 0,.int .i64 0,.int .i64 0,.int .i64 0,.int .i64 0,.bool false,.int .i64 0,.int .i64 0,.bool false,.int .i64 0,.bool false] 48)) [(B,#[.int .i64 0,.bool false,.slice none 0 0,.slice none 0 0,.string ⟨#[]⟩,.int .i64 0,.int .i64 0,.bool false,.int .i64 0,.int .i64 0,.int .i64 0,.int .i64 0,.int .i64 0,.int .i64 0,.int .i64 0,.bool false,.int .i64 0,.int .i64 0,.bool false,.int .i64 0,.bool false],48)]):=yA (by rw [← HBE.out];exact (Keep.nil w).more _ _)
 obtain ⟨l,HLL⟩:∃ l,Hid (s.data.toList=l):=⟨_,yA rfl⟩
 have HLN:Hid (l.length=s.size):=yA (by rw [← HLL.out];simp)
 obtain ⟨n,HN⟩:∃ n,Hid (zG l=n):=⟨_,yA rfl⟩
 have HNU:Hid (∀ W,Calls Tryz.prog 61 #[.string s] W fun e w'=>e=.returned (.int .i64 0)∧W=w'):=yA (fun W=>by
  have h:=yaQ s W (by omega)
  have e:ycg s.data.toList=0:=by unfold ycg;rw [if_pos hc]
  rwa [e] at h)
 have HLE:Hid (∀ W,Calls Tryz.prog 63 #[.string s] W fun e w'=>e=.returned (.int .i64 (n:Int))∧W=w'):=yA (fun W=>by
  have h:=ybp s W (by omega)
  rwa [HLL.out,HN.out] at h)
 have hns:(n:Int)≤s.size:=by have:=ybU l;rw [HN.out,HLN.out] at this;omega
 obtain ⟨T,hs1⟩:∃ T,s.extract 0 n=T:=⟨_,rfl⟩
 have HTD:Hid (T.data.toList=l.take n):=yA (by rw [← hs1,extract_upto,HLL.out])
 have HTS:Hid ((T.size:Int)≤1000):=yA (by
  have:T.data.toList.length=T.size:=by simp
  rw [HTD.out,List.length_take] at this
  have h2:=HLN.out
  omega)
 obtain ⟨fo,HFO⟩:∃ fo,Hid (jU (l.take n)=fo):=⟨_,yA rfl⟩
 have HFI:Hid (∀ W,Calls Tryz.prog 64 #[.string T] W (ycs fo W)):=yA (fun W=>by
  have h:=ydp T W (by have:=HTS.out;omega)
  rwa [HTD.out,HFO.out] at h)
 rw [HLL.out]
 rw [HLL.out] at hc
 clear HTD HTS hc
 go_enter Tryz.func35,Tryz.ntmps35
 go_wp2_with fail
 refine (HNU.out _).mono ?_
 rintro e w' ⟨rfl,rfl⟩
 go_wp2_with fail
 refine (HLE.out _).mono ?_
 rintro e w' ⟨rfl,rfl⟩
 go_wp2_with fail
 refine (HFI.out _).mono ?_
 rintro e w5 ⟨SW,so,sb,pre,a0,a1,a2,a3,a4,a5,a6,off,z,p,qb,qx,qn,qc,qy,qm,qd,rfl,hb5,hf5⟩
 have HK5:=yA (HK0.out.next hb5)
 have HF5:Hid (∀ s r,fo=some (s,r)→s=⟨SW.data.toList,so,sb,pre,[a0,a1,a2,a3,a4,a5,a6],off,z,p⟩∧zH w5 (.agg #[.bool qb,.slice qx qn qc,.slice qy qm qd]) r):=yA hf5
 clear hb5 hf5 HK0
 rw [HBE.out]
 go_upto_region 8 with fail
 obtain ⟨W6,HW6⟩:∃ W6,Hid ((w5.alloc (.cells #[.string SW,.int .i64 so,.int .i64 sb,.bool pre,.int .i64 a0,.int .i64 a1,.int .i64 a2,.int .i64 a3,.int .i64 a4,.int .i64 a5,.int .i64 a6,.bool off,.int .i64 z,.int .i64 p] 46)).alloc (.cells #[.bool qb,.slice qx qn qc,.slice qy qm qd] 44)=W6):=⟨_,yA rfl⟩
 have HK6:Hid (Keep w W6 [(w5.heap.size+1,#[.bool qb,.slice qx qn qc,.slice qy qm qd],44),(w5.heap.size,#[.string SW,.int .i64 so,.int .i64 sb,.bool pre,.int .i64 a0,.int .i64 a1,.int .i64 a2,.int .i64 a3,.int .i64 a4,.int .i64 a5,.int .i64 a6,.bool off,.int .i64 z,.int .i64 p],46),(B,#[.int .i64 0,.bool false,.slice none 0 0,.slice none 0 0,.string ⟨#[]⟩,.int .i64 0,.int .i64 0,.bool false,.int .i64 0,.int .i64 0,.int .i64 0,.int .i64 0,.int .i64 0,.int .i64 0,.int .i64 0,.bool false,.int .i64 0,.int .i64 0,.bool false,.int .i64 0,.bool false],48)]):=yA (by
  rw [← HW6.out]
  have h:=(HK5.out.more #[.string SW,.int .i64 so,.int .i64 sb,.bool pre,.int .i64 a0,.int .i64 a1,.int .i64 a2,.int .i64 a3,.int .i64 a4,.int .i64 a5,.int .i64 a6,.bool off,.int .i64 z,.int .i64 p] 46).more #[.bool qb,.slice qx qn qc,.slice qy qm qd] 44
  rwa [show (w5.alloc (.cells #[.string SW,.int .i64 so,.int .i64 sb,.bool pre,.int .i64 a0,.int .i64 a1,.int .i64 a2,.int .i64 a3,.int .i64 a4,.int .i64 a5,.int .i64 a6,.bool off,.int .i64 z,.int .i64 p] 46)).heap.size=w5.heap.size+1 from by simp] at h)
 have HQ6:Hid (∀ v r,zH w5 v r→zH W6 v r):=yA (fun v r h=>by rw [← HW6.out];exact (h.below (zK _ _)).below (zK _ _))
 have HBX:Hid (BX 48 21 (W6.alloc (.cells #[.int .i64 0,.bool false,.slice none 0 0,.slice none 0 0,.string ⟨#[]⟩,.int .i64 0,.int .i64 0,.bool false,.int .i64 0,.int .i64 0,.int .i64 0,.int .i64 0,.int .i64 0,.int .i64 0,.int .i64 0,.bool false,.int .i64 0,.int .i64 0,.bool false,.int .i64 0,.bool false] 48)) W6.heap.size):=yA (uT (yV _ _))
 have hc1:=HK6.out.one _ (List.mem_cons_self ..)
 have c0:=yB hc1 0
 have c1:=yB hc1 1
 have c2:=yB hc1 2
 have hd1:=HK6.out.one (w5.heap.size,#[.string SW,.int .i64 so,.int .i64 sb,.bool pre,.int .i64 a0,.int .i64 a1,.int .i64 a2,.int .i64 a3,.int .i64 a4,.int .i64 a5,.int .i64 a6,.bool off,.int .i64 z,.int .i64 p],46) (by simp)
 have d0:=yB hd1 0
 have d1:=yB hd1 1
 have d2:=yB hd1 2
 have d3:=yB hd1 3
 have d4:=yB hd1 4
 have d5:=yB hd1 5
 have d6:=yB hd1 6
 have d7:=yB hd1 7
 have d8:=yB hd1 8
 have d9:=yB hd1 9
 have d10:=yB hd1 10
 have d11:=yB hd1 11
 have d12:=yB hd1 12
 have d13:=yB hd1 13
 rw [HW6.out]
 clear hc1 hd1 HW6
 go_wp2_with (refine zO rfl 48 21 (.tmp 14) (.tmp 57) rfl W6.heap.size [.int .i64 0,.bool qb,.slice qx qn qc,.slice qy qm qd,.string SW,.int .i64 so,.int .i64 sb,.bool pre,.int .i64 a0,.int .i64 a1,.int .i64 a2,.int .i64 a3,.int .i64 a4,.int .i64 a5,.int .i64 a6,.bool off,.int .i64 z,.int .i64 p,.bool true,.int .i64 1,.bool false] rfl rfl HBX.out rfl (by kernel_rfl) (GC _ _ _ _ _ _ _ _ _ _ _ _ _ _ _ _ _ _ _ _ _ _ _ _ _) (by simp [Value.oneCell']) ?_)
 intro W8 h8 st8
 obtain ⟨g14,HG⟩:∃ g,Hid (W6.heap.size=g):=⟨_,yA rfl⟩
 have HBG:Hid (B<g14):=yA (by rw [← HG.out];exact HK6.out.lt (x:=(B,#[.int .i64 0,.bool false,.slice none 0 0,.slice none 0 0,.string ⟨#[]⟩,.int .i64 0,.int .i64 0,.bool false,.int .i64 0,.int .i64 0,.int .i64 0,.int .i64 0,.int .i64 0,.int .i64 0,.int .i64 0,.bool false,.int .i64 0,.int .i64 0,.bool false,.int .i64 0,.bool false],48)) (by simp))
 have HK8:Hid (Keep w W8 [(g14,#[.int .i64 0,.bool qb,.slice qx qn qc,.slice qy qm qd,.string SW,.int .i64 so,.int .i64 sb,.bool pre,.int .i64 a0,.int .i64 a1,.int .i64 a2,.int .i64 a3,.int .i64 a4,.int .i64 a5,.int .i64 a6,.bool off,.int .i64 z,.int .i64 p,.bool true,.int .i64 1,.bool false],48),(B,#[.int .i64 0,.bool false,.slice none 0 0,.slice none 0 0,.string ⟨#[]⟩,.int .i64 0,.int .i64 0,.bool false,.int .i64 0,.int .i64 0,.int .i64 0,.int .i64 0,.int .i64 0,.int .i64 0,.int .i64 0,.bool false,.int .i64 0,.int .i64 0,.bool false,.int .i64 0,.bool false],48)]):=yA (by
  have h:=st8.keep w [(B,#[.int .i64 0,.bool false,.slice none 0 0,.slice none 0 0,.string ⟨#[]⟩,.int .i64 0,.int .i64 0,.bool false,.int .i64 0,.int .i64 0,.int .i64 0,.int .i64 0,.int .i64 0,.int .i64 0,.int .i64 0,.bool false,.int .i64 0,.int .i64 0,.bool false,.int .i64 0,.bool false],48)] (by rw [HG.out];have:=HBG.out;have:=HBL.out;omega) (by
   intro x hx
   rw [List.mem_singleton.1 hx,HG.out]
   have:=HBG.out
   dsimp only;omega) ((HK6.out.next (zK W6 (.cells #[.int .i64 0,.bool false,.slice none 0 0,.slice none 0 0,.string ⟨#[]⟩,.int .i64 0,.int .i64 0,.bool false,.int .i64 0,.int .i64 0,.int .i64 0,.int .i64 0,.int .i64 0,.int .i64 0,.int .i64 0,.bool false,.int .i64 0,.int .i64 0,.bool false,.int .i64 0,.bool false] 48))).sub (fun x hx=>by rw [List.mem_singleton.1 hx];simp))
  refine ⟨h.below,fun x hx=>?_⟩
  rcases List.mem_cons.1 hx with rfl|hx
  ·rw [← HG.out];exact h8
  ·exact h.all x hx)
 have HQ8:Hid (∀ v r,zH w5 v r→zH W8 v r):=yA (fun v r h=>st8.nums v r ((HQ6.out v r h).below (zK _ _)))
 have HBB:Hid (BX 48 21 W8 B):=yA (uT (HK8.out.one (B,#[.int .i64 0,.bool false,.slice none 0 0,.slice none 0 0,.string ⟨#[]⟩,.int .i64 0,.int .i64 0,.bool false,.int .i64 0,.int .i64 0,.int .i64 0,.int .i64 0,.int .i64 0,.int .i64 0,.int .i64 0,.bool false,.int .i64 0,.int .i64 0,.bool false,.int .i64 0,.bool false],48) (by simp)))
 have ya6:Hid (BX 48 21 W8 g14):=yA (by have h:=st8.box;rwa [HG.out] at h)
 have HRG:Hid (W8.rangeAt g14 0 [.int .i64 0,.bool qb,.slice qx qn qc,.slice qy qm qd,.string SW,.int .i64 so,.int .i64 sb,.bool pre,.int .i64 a0,.int .i64 a1,.int .i64 a2,.int .i64 a3,.int .i64 a4,.int .i64 a5,.int .i64 a6,.bool off,.int .i64 z,.int .i64 p,.bool true,.int .i64 1,.bool false]):=yA (fun j v hj=>by
  rw [Nat.zero_add,yB (HK8.out.one _ (List.mem_cons_self ..))];simpa using hj)
 rw [HG.out]
 obtain ⟨ok,HOK⟩:∃ ok,Hid (fo.isSome=ok):=⟨_,yA rfl⟩
 rw [HOK.out]
 clear h8 st8 HK6 HQ6 HBX HG c0 c1 c2 d0 d1 d2 d3 d4 d5 d6 d7 d8 d9 d10 d11 d12 d13
 rw [HLL.out,HN.out] at HC
 obtain ⟨S,r,hfo,hlt,h94,hend0⟩:=HC.out
 rw [HFO.out] at hfo
 subst hfo
 obtain rfl:ok=true:=HOK.out.symm
 have hnz:((n:Int)==(s.size:Int))=false:=by rw [beq_eq_false_iff_ne];omega
 obtain ⟨hS,hq⟩:=HF5.out _ _ rfl
 have HQR:=yA (HQ8.out _ _ hq)
 have HSE:=yA hS
 clear hS hq HC HF5 HQ8 HOK
 have hnn:(n:Int)≠(s.size:Int):=by simpa using hnz
 have yfS:(n:Int)<s.size:=by omega
 have HSN:Hid (∀ (j:Nat) (h:j<s.size),l.drop j=s[j]'h::l.drop (j+1)):=yA (fun j h=>by
  have e:s[j]'h=s.data.toList[j]'(by simpa using h):=rfl
  have hl:=HLL.out
  subst hl
  rw [List.drop_eq_getElem_cons (by simpa using h),e])
 have t94:(((s[n]'hlt).toNat:Int) != 94)=false:=by rw [h94];rfl
 have HEX:Hid (uW l=(yc1 (l.drop (n+1))).map fun p=>(⟨r,S,true,p.1,true⟩,n+1+p.2)):=yA (by
  have h:=yaj (l:=l) (t:=l.drop (n+1)) (s:=S) (q:=r) (by rw [HN.out,HFO.out]) (by rw [HN.out,HSN.out n hlt,h94])
  rwa [HN.out] at h)
 obtain ⟨n1,HN1⟩:∃ n1,Hid (n1=n+1):=⟨_,yA rfl⟩
 have hE1:(n:Int)+1=(n1:Int):=by rw [HN1.out];rfl
 have hW1:IntKind.i64.wrap (n1:Int)=(n1:Int):=IntWalk.i64_in _ (by omega)
 have hn1:(n1:Int)≤s.size:=by omega
 rw [← HN1.out] at HEX
 clear h94
 have ycQ:(n1:Int)=(s.size:Int):=by rw [HN1.out];omega
 clear hend0
 have hnl:¬ (n1:Int)<(s.size:Int):=by omega
 have HEND:=yA ycQ
 clear ycQ
 have HD0:Hid (l.drop n1=[]):=yA (List.drop_eq_nil_iff.2 (by rw [HLN.out];have:=HEND.out;omega))
 have HOT:Hid (uW l=none):=yA (by rw [HEX.out,HD0.out];rfl)
 obtain ⟨k,HKE⟩:∃ k,Hid (yF (l.drop n1)=k):=⟨_,yA rfl⟩
 have HRU:Hid (∀ W,Calls Tryz.prog 65 #[.string s,.int .i64 (n1:Int)] W fun e w'=>e=.returned (.int .i64 (k:Int))∧W=w'):=yA (fun W=>by
  have h:=ycK s n1 W (by omega) (by omega)
  rwa [HLL.out,HKE.out] at h)
 have hkb:(n1:Int)+(k:Int)≤s.size:=by
  have h:=vN (l.drop n1)
  rw [List.length_drop,HKE.out,HLN.out] at h
  omega
 obtain ⟨m,HM⟩:∃ m,Hid (m=n1+k):=⟨_,yA rfl⟩
 have hEm:(n1:Int)+(k:Int)=(m:Int):=by rw [HM.out];rfl
 have hWm:IntKind.i64.wrap (m:Int)=(m:Int):=IntWalk.i64_in _ (by omega)
 have hmb:(m:Int)≤s.size:=by omega
 have hPm:(n1:Int)≤(m:Int):=by omega
 obtain ⟨U,hs2⟩:∃ U,s.extract n1 m=U:=⟨_,rfl⟩
 have HUL:Hid (U.data.toList=(l.drop n1).take k):=yA (by
  have hl:=HLL.out
  rw [← hs2,HM.out,← hl]
  simp)
 have HDG:Hid (((l.drop n1).take k).all yG=true):=yA (by rw [← HKE.out];exact yaU _)
 obtain ⟨V,HV⟩:∃ V,Hid (whT U.data.toList=V):=⟨_,yA rfl⟩
 have HVB:Hid (0≤V∧V≤1000):=yA (by
  have h:=ye0 (l:=U.data.toList) (by rw [HUL.out];first|rfl|exact HDG.out)
  rw [HV.out] at h
  omega)
 have hvb0:=HVB.out.1
 have hvb1:=HVB.out.2
 have HWH:Hid (∀ W,Calls Tryz.prog 66 #[.string U] W fun e w'=>e=.returned (.int .i64 V)∧W=w'):=yA (fun W=>by
  have h:=ydO U W (by rw [← hs2];simp<;>omega) (yA (by rw [HUL.out];first|rfl|exact HDG.out))
  rwa [HV.out] at h)
 obtain ⟨_,k19,e19⟩:=ya6.out.slot 19 (by omega)
 obtain ⟨_,k20,e20⟩:=ya6.out.slot 20 (by omega)
 have HK0:Hid (k=0):=yA (by rw [← HKE.out,HD0.out];rfl)
 go_upto_region 15 with fail
 go_wp2_with fail
 refine (HRU.out _).mono ?_
 rintro e w' ⟨rfl,rfl⟩
 go_wp2_with fail
 refine (HWH.out _).mono ?_
 rintro e w' ⟨rfl,rfl⟩
 obtain rfl:=HK0.out
 have hm0:(m:Int)=(n1:Int):=by omega
 go_upto_region 19 with fail
 obtain ⟨WE,HWE⟩:∃ WE,Hid ((W8.setCell ⟨g14,19,none⟩ (.int .i64 V)).setCell ⟨g14,20,none⟩ (.bool true)=WE):=⟨_,yA rfl⟩
 have HST:Hid (St 48 21 g14 W8 WE):=yA (by rw [← HWE.out];exact ((St.refl ya6.out).more 19 (.int .i64 V) (yD _)).more 20 (.bool true) (jI _))
 have HHE:Hid (WE.heap[g14]?=some (.cells #[.int .i64 0,.bool qb,.slice qx qn qc,.slice qy qm qd,.string SW,.int .i64 so,.int .i64 sb,.bool pre,.int .i64 a0,.int .i64 a1,.int .i64 a2,.int .i64 a3,.int .i64 a4,.int .i64 a5,.int .i64 a6,.bool off,.int .i64 z,.int .i64 p,.bool true,.int .i64 V,.bool true] 48 (0,0))):=yA (by rw [← HWE.out];exact yK g14 20 _ 48 _ (yK g14 19 _ 48 _ (HK8.out.one _ (List.mem_cons_self ..))))
 have yfT:Hid (BX 48 21 WE B):=yA (HST.out.other 48 21 B (by have:=HBG.out;omega) HBB.out)
 have yfU:Hid (Keep w WE []):=yA (HST.out.keep w [] (by have:=HBG.out;have:=HBL.out;omega) (fun x hx=>by cases hx) (HK8.out.sub (fun x hx=>by cases hx)))
 have HRE:Hid (WE.rangeAt g14 0 [.int .i64 0,.bool qb,.slice qx qn qc,.slice qy qm qd,.string SW,.int .i64 so,.int .i64 sb,.bool pre,.int .i64 a0,.int .i64 a1,.int .i64 a2,.int .i64 a3,.int .i64 a4,.int .i64 a5,.int .i64 a6,.bool off,.int .i64 z,.int .i64 p,.bool true,.int .i64 V,.bool true]):=yA (fun j v hj=>by
  rw [Nat.zero_add,yB HHE.out];simpa using hj)
 rw [HWE.out]
 clear HWE k19 e19 k20 e20
 go_wp2_with (first|(refine wpList_load_mid rfl 48 (.tmp 14) rfl g14 0 rfl [.int .i64 0,.bool qb,.slice qx qn qc,.slice qy qm qd,.string SW,.int .i64 so,.int .i64 sb,.bool pre,.int .i64 a0,.int .i64 a1,.int .i64 a2,.int .i64 a3,.int .i64 a4,.int .i64 a5,.int .i64 a6,.bool off,.int .i64 z,.int .i64 p,.bool true,.int .i64 V,.bool true] _ HRE.out Tryz.underlying48 rfl (by kernel_rfl) ?_)|(refine zO rfl 48 21 (.tmp 2) (.tmp 107) rfl B [.int .i64 0,.bool qb,.slice qx qn qc,.slice qy qm qd,.string SW,.int .i64 so,.int .i64 sb,.bool pre,.int .i64 a0,.int .i64 a1,.int .i64 a2,.int .i64 a3,.int .i64 a4,.int .i64 a5,.int .i64 a6,.bool off,.int .i64 z,.int .i64 p,.bool true,.int .i64 V,.bool true] rfl rfl yfT.out rfl (by kernel_rfl) (GC _ _ _ _ _ _ _ _ _ _ _ _ _ _ _ _ _ _ _ _ _ _ _ _ _) (by simp [Value.oneCell']) ?_))
 intro W9 h9 st9
 have HBF:=yA (st9.keep w [] HBL.out (fun x hx=>by cases hx) yfU.out).below
 have HQ9:Hid (∀ v r,zH W8 v r→zH W9 v r):=yA (fun v r h=>st9.nums v r (HST.out.nums v r h))
 have H9:=yA h9
 clear h9 st9
 go_wp2_with fail
 refine bodyPost_ret (v:=.tuple #[.agg #[.int .i64 0,.bool qb,.slice qx qn qc,.slice qy qm qd,.string SW,.int .i64 so,.int .i64 sb,.bool pre,.int .i64 a0,.int .i64 a1,.int .i64 a2,.int .i64 a3,.int .i64 a4,.int .i64 a5,.int .i64 a6,.bool off,.int .i64 z,.int .i64 p,.bool true,.int .i64 V,.bool true],.int .i64 (n1:Int),.bool false]) (vI Tryz.results35 rfl (vL (cs:=[.int .i64 0,.bool qb,.slice qx qn qc,.slice qy qm qd,.string SW,.int .i64 so,.int .i64 sb,.bool pre,.int .i64 a0,.int .i64 a1,.int .i64 a2,.int .i64 a3,.int .i64 a4,.int .i64 a5,.int .i64 a6,.bool off,.int .i64 z,.int .i64 p,.bool true,.int .i64 V,.bool true]) H9.out Tryz.underlying48 rfl (by kernel_rfl))) rfl ?_
 exact ⟨qb,qx,qn,qc,qy,qm,qd,SW,so,sb,pre,a0,a1,a2,a3,a4,a5,a6,off,z,p,true,V,true,n1,by rw [HOT.out];rfl,HBF.out,fun f m h=>by rw [HOT.out] at h;cases h⟩
end Go.Proofs.YtfjnipkpfbkegaaGreatDoor
