/- Contracts. -/
import Derived.Test.YtgepehlpjpccaaaGreatDoorWED
set_option maxHeartbeats 4000000
set_option maxRecDepth 100000
namespace Go.Proofs.YtgepehlpjpccaaaGreatDoor
section
open Go.RowKit
open Go.Lib
theorem ynh (gs:List Nat):wdL gs≤64:=ynC _
theorem yrh (p:Oa) (c n len:Nat) (l:Lb) (w:World) (HL:Hid (len=l.length)) (h1:1≤n) (h2:n≤8) (hl:len≤1048576) (hc:len≤c) (hpc:p=none→c=0) (hk0:len/n=0) (hb:Bs w p l) :
  Calls Tryz.prog 100 #[.slice p len c,.int .i64 (n:Int)] w (zR (be 4 0++l) w):=by
 have HA:=h_ (ycv p len c n w h1 h2 hl)
 have HN:=h_ (vM w.heap.size (.slice none 0 0) [] 0 4 w (by decide) (by decide) nl (World.ownsRow_nil w w.heap.size 5 1) (by decide))
 have HB:=h_ hb
 have HPC:=h_ hpc
 have hn1:1≤(n:Int):=by omega
 have hn8:(n:Int)≤8:=by omega
 have hlen:(len:Int)≤1048576:=by omega
 have yan:(len:Int)/(n:Int)=0:=by
  have h3:((len/n:Nat):Int)=0:=by rw [hk0];rfl
  rw [Int.natCast_ediv] at h3;exact h3
 have ynH:IntKind.i64.wrap ((len:Int)/(n:Int))=0:=by rw [yan];rfl
 have hquo2:IntKind.i64.wrap ((len:Int).tdiv (n:Int))=0:=by rw [Int.tdiv_eq_ediv_of_nonneg (by omega)];exact ynH
 have hz:IntKind.u64.wrap 0=0:=rfl
 obtain ⟨R,HR⟩:∃ R,Hid (R=be 4 0++l):=⟨be 4 0++l,h_ rfl⟩
 rw [← HR.out]
 clear hb hpc
 go_in
 go_wp2_with fail
 refine (HA.out).mono ?_
 rintro e w' ⟨rfl,rfl⟩
 go_wp2_with fail
 refine (HN.out).mono ?_
 rintro e w1 ⟨v1,rfl,hg1⟩
 obtain ⟨L1,HL1⟩:∃ L1,Hid (L1=[]++be 4 0):=⟨[]++be 4 0,h_ rfl⟩
 rw [← HL1.out] at hg1
 have G1:=h_ hg1
 have hB1:Hid (Be w w1):=h_ (hg1.below nl (by intro k hk;cases hk))
 have ykU:=h_ (yhc p c n 0 len l w1 h1 h2 HL hl hc HPC.out (by rw [hk0,Nat.zero_mul];rfl) (HB.out.below hB1.out))
 rw [List.drop_zero,Nat.sub_zero] at ykU
 clear hg1
 go_wp2_with fail
 refine (ykU.out).mono ?_
 rintro e w2 ⟨rfl,q,d,rfl,hq⟩
 have HQ:=h_ hq
 have hbl:Hid (L1.length+len≤140737488355328∧w.heap.size≤w1.heap.size):=h_ ⟨by rw [HL1.out];show 4+len≤_;omega,hB1.out.size⟩
 clear hq
 go_wp2_with (at_builtin;refine yG rfl (.tmp 48) (.tmp 51) rfl w.heap.size v1 L1.length L1 rfl rfl G1.out.own q len d l rfl HL.out.symm HQ.out hbl.out.1 hbl.out.2 ?_)
 intro v5 w5 hg5
 have G5:=h_ (G1.out.trans hg5)
 rw [show L1++l=R by rw [HL1.out,HR.out];rfl] at G5
 clear hg5
 go_wp2
 go_ret2
 exact ⟨G5.out.below nl (by intro k hk;cases hk),_,rfl,G5.out.own⟩
theorem yri (p:Oa) (c n len k:Nat) (l:Lb) (w:World) (HL:Hid (len=l.length)) (HK:Hid (k=len/n)) (h1:1≤n) (h2:n≤8) (hl:len≤1048576) (hc:len≤c) (hpc:p=none→c=0) (hk0:0<k) (hb:Bs w p l) :
  Calls Tryz.prog 100 #[.slice p len c,.int .i64 (n:Int)] w (zR (ydQ n (gl n k l) (l.drop (k*n))) w):=by
 have HA:=h_ (ycv p len c n w h1 h2 hl)
 have hkl:k≤len:=by rw [HK.out];exact Nat.div_le_self _ _
 have HKN:Hid (k*n≤len):=h_ (by rw [HK.out];exact Nat.div_mul_le_self _ _)
 have HN:=h_ (vM w.heap.size (.slice none 0 0) [] k 4 w (by decide) (by decide) nl (World.ownsRow_nil w w.heap.size 5 1) (by omega))
 have HB:=h_ hb
 have HPC:=h_ hpc
 have hn1:1≤(n:Int):=by omega
 have hn8:(n:Int)≤8:=by omega
 have hlen:(len:Int)≤1048576:=by omega
 have yan:(len:Int)/(n:Int)=(k:Int):=by rw [HK.out,Int.natCast_ediv]
 have ynH:IntKind.i64.wrap ((len:Int)/(n:Int))=(k:Int):=by rw [yan,IntKind.wrap_i64];omega
 have hquo2:IntKind.i64.wrap ((len:Int).tdiv (n:Int))=(k:Int):=by rw [Int.tdiv_eq_ediv_of_nonneg (by omega)];exact ynH
 have hz:IntKind.u64.wrap (k:Int)=(k:Int):=by rw [IntKind.wrap_u64];omega
 have hki:0<(k:Int):=by omega
 have yu5:(k:Int)≤1048576:=by omega
 obtain ⟨gs,HGS⟩:=ey (gl n k l)
 have hgl:gs.length=k:=by rw [HGS.out,uL]
 obtain ⟨m,HM⟩:=ey (mnL gs)
 obtain ⟨wd,HWD⟩:=ey (wdL gs)
 have hm:m<18446744073709551616:=by rw [HM.out];exact ysR gs
 have hwd:wd≤64:=by rw [HWD.out];exact ynh gs
 obtain ⟨y,HY⟩:∃ y:UInt8,Hid (y=UInt8.ofNat wd):=⟨_,rfl⟩
 have hyw:y.toNat=wd:=by rw [HY.out,UInt8.toNat_ofNat'];omega
 obtain ⟨PK,HPK⟩:=ey (pkF gs)
 obtain ⟨rs,HRS⟩:=ey (l.drop (k*n))
 have hpkl:PK.length≤8388608+1:=by
  have h5:k*wd≤1048576*64:=Nat.mul_le_mul (by omega) hwd
  rw [HPK.out,pkF,vK,hgl,← HWD.out];omega
 obtain ⟨R,HR⟩:=ey (ydQ n gs rs)
 have hR:Hid (be 4 k++be n m++[y]++PK++rs=R):=h_ (by
  rw [HR.out,ydQ,pkB,if_neg (by rw [hgl];omega),hgl,← HM.out,← HWD.out,← HY.out,← HPK.out])
 rw [← HGS.out,← HRS.out,← HR.out]
 clear hb hpc yan
 go_in
 go_wp2_with fail
 refine (HA.out).mono ?_
 rintro e w' ⟨rfl,rfl⟩
 go_wp2_with fail
 refine (HN.out).mono ?_
 rintro e w1 ⟨v1,rfl,hg1⟩
 obtain ⟨L1,HL1⟩:∃ L1,Hid (L1=[]++be 4 k):=⟨[]++be 4 k,h_ rfl⟩
 rw [← HL1.out] at hg1
 have G1:=h_ hg1
 have hB1:Hid (Be w w1):=h_ (hg1.below nl (by intro k hk;cases hk))
 have HS:=h_ (yux p c n len k l w1 HL HK h1 h2 hl hc hk0 (HB.out.below hB1.out))
 clear hg1
 go_wp2_with fail
 refine (HS.out).mono ?_
 rintro e w2 ⟨hb2,rfl⟩
 rw [← HGS.out,← HM.out,← HWD.out]
 have G2:=h_ (G1.out.trans (Grew.of_below G1.out.own hb2))
 have hB2:=th hB1 hb2
 have HN2:=h_ (vM w.heap.size v1 L1 m n w2 h2 (by rw [HL1.out];show 4≤_;decide) hB2.out.size G2.out.own hm)
 clear hb2
 go_wp2_with fail
 refine (HN2.out).mono ?_
 rintro e w3 ⟨v3,rfl,hg3⟩
 obtain ⟨L3,HL3⟩:=ey (L1++be n m)
 rw [← HL3.out] at hg3
 have G3:=h_ (G2.out.trans hg3)
 clear hg3
 have hB3:Hid (Be w w3):=h_ (G3.out.below nl (by intro k hk;cases hk))
 have hL3:Hid (L3.length=4+n):=h_ (by rw [HL3.out,HL1.out,List.length_append,zE];rfl)
 have G3a:=h_ (G3.out.trans (Grew.of_below G3.out.own ((Below.refl _ w3).alloc nl (.cells #[.int .u8 (wd:Int)] 5))))
 have zX:Hid (Bs (w3.alloc (.cells #[.int .u8 (wd:Int)] 5)) (some ⟨w3.heap.size,0,none⟩) [y]):=h_ (by have h:=yng w3 y;rwa [hyw] at h)
 have ycI:Hid (L3.length+1≤140737488355328∧w.heap.size≤(w3.alloc (.cells #[.int .u8 (wd:Int)] 5)).heap.size):=h_ ⟨by rw [hL3.out];omega,by have:=hB3.out.size;simp;omega⟩
 go_wp2_with (at_builtin;refine yG rfl (.tmp 36) (.tmp 39) rfl w.heap.size v3 L3.length L3 rfl rfl G3a.out.own _ 1 1 [y] rfl rfl zX.out ycI.out.1 ycI.out.2 ?_)
 intro v4 w4 hg4
 obtain ⟨L4,HL4⟩:∃ L4,Hid (L4=L3++[y]):=⟨L3++[y],h_ rfl⟩
 rw [← HL4.out] at hg4
 have G4:=h_ (G3a.out.trans hg4)
 clear hg4
 have hB4:Hid (Be w w4):=h_ (G4.out.below nl (by intro k hk;cases hk))
 have HP:=h_ (ypb p c n len k m wd l w4 HL HK h1 h2 hl hc (by rw [← HGS.out,HM.out];intro g hg;exact ygN hg) hwd (HB.out.below hB4.out))
 have ePK:pkL (btF gs m wd) (k*wd)=PK:=by rw [HPK.out,pkF,hgl,← HM.out,← HWD.out]
 rw [← HGS.out,ePK] at HP
 clear ePK
 go_wp2_with fail
 refine (HP.out).mono ?_
 rintro e w5 ⟨v5,rfl,hg5⟩
 have hb5:Be w4 w5:=hg5.below nl (by intro k hk;cases hk)
 obtain ⟨p5,c5,rfl,hs5,-⟩:=yS hg5.own
 obtain ⟨m5,HM5⟩:=ey (PK.length)
 rw [← HM5.out]
 have HS5:=h_ hs5
 have G5:=h_ (G4.out.trans (Grew.of_below G4.out.own hb5))
 have hB5:=th hB4 hb5
 have hL4:Hid (L4.length=4+n+1):=h_ (by rw [HL4.out,List.length_append,hL3.out];rfl)
 have yce:Hid (L4.length+m5≤140737488355328∧w.heap.size≤w5.heap.size):=h_ ⟨by rw [hL4.out,HM5.out];omega,hB5.out.size⟩
 clear hg5 hb5 hs5
 go_wp2_with (at_builtin;refine yG rfl (.tmp 41) (.tmp 46) rfl w.heap.size v4 L4.length L4 rfl rfl G5.out.own p5 m5 c5 PK rfl HM5.out.symm HS5.out yce.out.1 yce.out.2 ?_)
 intro v6 w6 hg6
 obtain ⟨L6,HL6⟩:=ey (L4++PK)
 rw [← HL6.out] at hg6
 have G6:=h_ (G5.out.trans hg6)
 clear hg6
 have hB6:Hid (Be w w6):=h_ (G6.out.below nl (by intro k hk;cases hk))
 obtain ⟨t,HT⟩:=ey (k*n)
 have htl:t≤len:=by rw [HT.out];exact HKN.out
 have ykU:=h_ (yhc p c n t len l w6 h1 h2 HL hl hc HPC.out (by rw [HT.out,HK.out];rfl) (HB.out.below hB6.out))
 rw [show l.drop t=rs by rw [HRS.out,HT.out]] at ykU
 have hrl:rs.length=len-t:=by rw [HRS.out,List.length_drop,← HL.out,HT.out]
 have hL6:Hid (L6.length≤8388640):=h_ (by rw [HL6.out,List.length_append,hL4.out];omega)
 go_wp2_with fail
 refine (ykU.out).mono ?_
 rintro e w7 ⟨rfl,q,d,rfl,hq⟩
 have HQ:=h_ hq
 have yrS:Hid (L6.length+(len-t)≤140737488355328∧w.heap.size≤w6.heap.size):=h_ ⟨by have:=hL6.out;omega,hB6.out.size⟩
 clear hq
 go_wp2_with (at_builtin;refine yG rfl (.tmp 48) (.tmp 51) rfl w.heap.size v6 L6.length L6 rfl rfl G6.out.own q (len-t) d rs rfl hrl HQ.out yrS.out.1 yrS.out.2 ?_)
 intro v8 w8 hg8
 have G8:=h_ (G6.out.trans hg8)
 rw [show L6++rs=R by rw [HL6.out,HL4.out,HL3.out,HL1.out,List.nil_append];exact hR.out] at G8
 clear hg8
 go_wp2
 go_ret2
 exact ⟨G8.out.below nl (by intro k hk;cases hk),_,rfl,G8.out.own⟩
def uU (l:Lb) (n:Nat):Lb:=ydQ n (gl n (l.length/n) l) (l.drop (l.length/n*n))
theorem ylO (p:Oa) (c n len:Nat) (l:Lb) (w:World) (HL:Hid (len=l.length)) (h1:1≤n) (h2:n≤8) (hl:len≤1048576) (hc:Hid (len≤c)) (hpc:Hid (p=none→c=0)) (hb:Bs w p l) :
  Calls Tryz.prog 100 #[.slice p len c,.int .i64 (n:Int)] w (zR (uU l n) w):=by
 have e:=HL.out
 subst e
 unfold uU
 by_cases hk:l.length/n=0
 ·rw [hk,Nat.zero_mul,List.drop_zero,show ydQ n (gl n 0 l) l=be 4 0++l from rfl]
  exact yrh p c n _ l w HL h1 h2 hl hc.out hpc.out hk hb
 ·exact yri p c n _ _ l w HL (h_ rfl) h1 h2 hl hc.out hpc.out (Nat.pos_of_ne_zero hk) hb
def spF:Nat→Lb→Lb
 | 0,_=>[]
 | f+1,l=>if l.length=0 then [] else UInt8.ofNat (min l.length 128-1)::(l.take (min l.length 128)++spF f (l.drop (min l.length 128)))
def spL (l:Lb):Lb:=spF l.length l
theorem yuy:∀ (f:Nat) (l:Lb),l.length≤f→spF f l=spL l:=by
 intro f
 induction f using Nat.strongRecOn with
 | _ f ih =>
  intro l hl
  cases f with
  | zero =>
   have h0:l.length=0:=by omega
   rw [spL,h0]
  | succ f =>
   unfold spL
   by_cases h0:l.length=0
   ·rw [spF,if_pos h0,h0,spF]
   ·obtain ⟨g,hg⟩:∃ g,l.length=g+1:=⟨l.length-1,by omega⟩
    have hd:(l.drop (min l.length 128)).length≤g:=by rw [List.length_drop];omega
    rw [hg,spF,spF,if_neg h0,if_neg h0,ih f (by omega) _ (by omega)]
    by_cases hgf:g=f
    ·rw [hgf,ih f (by omega) _ (by omega)]
    ·rw [ih g (by omega) _ hd]
theorem ygs:spL []=[]:=rfl
theorem ydp {l:Lb} (h:0<l.length):spL l=UInt8.ofNat (min l.length 128-1)::(l.take (min l.length 128)++spL (l.drop (min l.length 128))):=by
 obtain ⟨g,hg⟩:∃ g,l.length=g+1:=⟨l.length-1,by omega⟩
 have hd:(l.drop (min l.length 128)).length≤g:=by rw [List.length_drop];omega
 rw [spL,hg,spF,if_neg (by omega),yuy g _ hd,hg]
def yai (l:Lb) (a d j:Nat):Prop:=a+j<l.length∧l.getD (a+j) 0=l.getD (a+j-d) 0
structure IsRun (l:Lb) (a d n:Nat):Prop where
 le:n≤131
 same:∀ j,j<n→yai l a d j
 stop:n=131∨¬ yai l a d n
theorem IsRun.one {l:Lb} {a d n m:Nat} (h:IsRun l a d n) (k:IsRun l a d m):n=m:=by
 rcases Nat.lt_trichotomy n m with hl|he|hg
 ·rcases h.stop with h1|h1
  ·have:=k.le;omega
  ·exact absurd (k.same n hl) h1
 ·exact he
 ·rcases k.stop with h1|h1
  ·have:=h.le;omega
  ·exact absurd (h.same m hg) h1
theorem ypX (w:World) (y:UInt8):Bs (w.alloc (.cells #[.int .u8 (y.toNat:Int)] 5)) (some ⟨w.heap.size,0,none⟩) [y]:=by
 refine .inr ⟨w.heap.size,0,rfl,by simp,fun j hj=>?_⟩
 obtain rfl:j=0:=by simp at hj;omega
 have:=World.alloc_heap_new w (.cells #[.int .u8 (y.toNat:Int)] 5)
 simp only [World.cell?,this]
 rfl
structure Came (w:World) (p:Oa) (len c:Nat) (l:Lb):Prop where
 hl:l.length=len
 hc:len≤c
 lies:Bs w p l
theorem Came.rest {w:World} {b0 off len c:Nat} {l:Lb} (h:Came w (some ⟨b0,off,none⟩) len c l) {m:Nat} (hm:m≤len) (hc:m<c):Came w (some ⟨b0,off+m,none⟩) (len-m) (c-m) (l.drop m) :=
 ⟨by rw [List.length_drop,h.hl],by have:=h.hc;omega,GZ h.lies m (by rw [h.hl];exact hm) rfl⟩
instance (l:Lb) (a d j:Nat):Decidable (yai l a d j):=by unfold yai;infer_instance
def rnC (l:Lb) (a d:Nat):Nat→Nat
 | 0=>0
 | f+1=>if yai l a d (131-(f+1)) then 1+rnC l a d f else 0
def rn (l:Lb) (a d:Nat):Nat:=rnC l a d 131
theorem ypY (l:Lb) (a d:Nat):∀ f,f≤131→rnC l a d f≤f∧(∀ j,j<rnC l a d f→yai l a d (131-f+j))∧(rnC l a d f=f∨¬ yai l a d (131-f+rnC l a d f))
 | 0,_=>⟨Nat.le_refl _,(fun j h=>by cases h),.inl rfl⟩
 | f+1,hf=>by
  obtain ⟨h1,h2,h3⟩:=ypY l a d f (by omega)
  rw [rnC]
  by_cases h:yai l a d (131-(f+1))
  ·rw [if_pos h]
   refine ⟨by omega,fun j hj=>?_,?_⟩
   ·by_cases hj0:j=0
    ·rw [hj0,Nat.add_zero];exact h
    ·have:=h2 (j-1) (by omega)
     rwa [show 131-f+(j-1)=131-(f+1)+j by omega] at this
   ·rcases h3 with h3|h3
    ·exact .inl (by omega)
    ·exact .inr (by rwa [show 131-f+rnC l a d f=131-(f+1)+(1+rnC l a d f) by omega] at h3)
  ·rw [if_neg h]
   exact ⟨Nat.zero_le _,(fun j hj=>by omega),.inr (by rw [Nat.add_zero];exact h)⟩
theorem ye6 (l:Lb) (a d:Nat):IsRun l a d (rn l a d):=by
 obtain ⟨h1,h2,h3⟩:=ypY l a d 131 nl
 refine ⟨h1,fun j hj=>?_,?_⟩
 ·have:=h2 j hj
  rwa [Nat.sub_self,Nat.zero_add] at this
 ·rcases h3 with h3|h3
  ·exact .inl h3
  ·exact .inr (by rwa [Nat.sub_self,Nat.zero_add] at h3)
theorem ynD (l:Lb) (a d:Nat):rn l a d≤131:=(ye6 l a d).le
def jH (l:Lb) (a:Nat):Nat→Nat × Nat
 | 0=>(0,0)
 | D+1=>if (jH l a D).1<rn l a (D+1) then (rn l a (D+1),D+1) else jH l a D
theorem ycO (l:Lb) (a:Nat):∀ D,(jH l a D).1≤131∧(jH l a D).2≤D
 | 0=>⟨Nat.zero_le _,Nat.le_refl _⟩
 | D+1=>by
  have h:=ycO l a D
  rw [jH]
  split
  ·exact ⟨ynD _ _ _,Nat.le_refl _⟩
  ·exact ⟨h.1,Nat.le_succ_of_le h.2⟩
theorem ygt:∀ (k:Nat) (l:Lb),l.length≤k→(spL l).length≤2*l.length
 | 0,l,h=>by
  obtain rfl:=List.eq_nil_of_length_eq_zero (Nat.le_zero.1 h)
  exact Nat.le_refl _
 | k+1,l,h=>by
  by_cases h0:0<l.length
  ·have h1:=ygt k (l.drop (min l.length 128)) (by rw [List.length_drop];omega)
   rw [List.length_drop] at h1
   rw [ydp h0,List.length_cons,List.length_append,List.length_take];omega
  ·obtain rfl:=List.eq_nil_of_length_eq_zero (by omega:l.length=0)
   exact Nat.le_refl _
theorem ypZ (l:Lb) (a d:Nat) (h:a≤l.length):a+rn l a d≤l.length:=by
 rcases Nat.eq_zero_or_pos (rn l a d) with h0|h0
 ·omega
 ·have:=((ye6 l a d).same (rn l a d-1) (by omega)).1;omega
theorem ycC (l:Lb) (a:Nat) (h:a≤l.length):∀ D,a+(jH l a D).1≤l.length
 | 0=>h
 | D+1=>by
  rw [jH]
  split
  ·exact ypZ l a _ h
  ·exact ycC l a h D
def tok (n d:Nat):Lb:=[UInt8.ofNat (124+n),UInt8.ofNat (d/256),UInt8.ofNat (d%256)]
def dcF (l:Lb):Nat→Nat→Nat→Lb
 | 0,fr,_=>spL (l.drop fr)
 | f+1,fr,a =>
  if a<l.length then
   if (jH l a a).1<4 then dcF l f fr (a+1)
   else spL ((l.drop fr).take (a-fr))++(tok (jH l a a).1 (jH l a a).2++dcF l f (a+(jH l a a).1) (a+(jH l a a).1))
  else spL (l.drop fr)
def ybP (l:Lb):Lb:=dcF l l.length 0 0
theorem ygu {l:Lb} {a:Nat} (h:¬ a<l.length) (f fr:Nat):dcF l f fr a=spL (l.drop fr):=by
 cases f with
 | zero=>rfl
 | succ f=>rw [dcF,if_neg h]
theorem ysS (w:World) (x y z:UInt8):Bs (w.alloc (.cells #[.int .u8 (x.toNat:Int),.int .u8 (y.toNat:Int),.int .u8 (z.toNat:Int)] 5)) (some ⟨w.heap.size,0,none⟩) [x,y,z]:=by
 refine .inr ⟨w.heap.size,0,rfl,by simp,fun j hj=>?_⟩
 have:j=0∨j=1∨j=2:=by simp at hj;omega
 have h:=World.alloc_heap_new w (.cells #[.int .u8 (x.toNat:Int),.int .u8 (y.toNat:Int),.int .u8 (z.toNat:Int)] 5)
 simp only [World.cell?,h]
 rcases this with rfl|rfl|rfl<;>rfl
end
section
open Go.RowKit Go.Shelf
open Go.Lib
attribute [local go_sem] Oper.semAt_some
theorem ylP (m:Nat) (p:Oa) (len c:Nat) (w:World) :
  CallsIn Fence.wide m Tryz.prog 193 #[.slice p len c,.int .i64 128] w fun e w'=>e=.returned (.func (.func 226) #[] #[.pointer (some ⟨w.heap.size,0,none⟩),.pointer (some ⟨w.heap.size+1,0,none⟩)])∧w'=(w.alloc (.cells #[.slice p len c] 39)).alloc (.cells #[.int .i64 128] 3):=by
 refine callsIn_of_wp Tryz.func193 rfl trivial ?_ rfl
 simp only [Tryz.ntmps193,List.size_toArray,List.length_cons,List.length_nil,Nat.reduceAdd,Nat.reduceSub,Array.replicate_succ,Array.replicate_zero,List.push_toArray,List.append_toArray,List.nil_append,List.cons_append]
 gi_wp2
 go_ret
 exact ⟨rfl,rfl⟩
abbrev ptL (len t:Nat):Nat:=min (len-128*t) 128
abbrev ptE (b0 off len k:Nat) (x:Pl k):Array Value:=#[.slice (some ⟨b0,off+128*x.1,none⟩) (ptL len x.1) (ptL len x.1)]
theorem ywO (m:Nat) (hm:1≤m) (lr Bb Bn N0 len k c b0 off:Nat) (HK:Hid (k=(len+127)/128)) (hlen:len≤20000) (hc:len≤c) (J Jx:List (Pl k)→World→Prop)
  (hJd:∀ pre W q,J pre W→J pre (W.drewN q))
  (hY:∀ pre x W,J pre W→pre.length<k→YieldAt Fence.wide (m-1) Tryz.prog lr (ptE b0 off len k x) W fun e W' =>
   (e=.returned (.bool true)∧J (pre++[x]) W'∧vF N0 Bn Bb W W')∨(e=.returned (.bool false)∧Jx (pre++[x]) W'))
  (W:World) (hBn:W.cell? ⟨Bn,0,none⟩=some (.int .i64 128)) (hBb:W.cell? ⟨Bb,0,none⟩=some (.slice (some ⟨b0,off,none⟩) len c)) (h0:J [] W) :
  CallsIn Fence.wide m Tryz.prog 226 #[.func (.yield lr) #[] #[],.pointer (some ⟨Bb,0,none⟩),.pointer (some ⟨Bn,0,none⟩)] W fun e W'=>(∃ v,e=.returned v) ∧
   ((∃ ys,ys.map (·.1)=List.range k∧J ys W')∨(∃ pre,True∧Jx pre W')):=by
 have hli:(len:Int)≤20000:=by omega
 have hci:(len:Int)≤(c:Int):=by omega
 have hkl:k≤157:=by rw [HK.out];omega
 refine callsIn_of_wp Tryz.func226 rfl trivial ?_ rfl
 simp only [Tryz.ntmps226,List.size_toArray,List.length_cons,List.length_nil,Nat.reduceAdd,Nat.reduceSub,Array.replicate_succ,Array.replicate_zero,List.push_toArray,List.append_toArray,List.nil_append,List.cons_append]
 gi_wp2
 have HJ0:=h_ h0
 gi_loopw [4] (fun tv wr=>∃ (t i:Nat) (pre:List (Pl k)),i≤k∧tv=.int .i64 t∧Hid (t=128*i)∧Hid (pre.map (·.1)=List.range i)∧Hid (J pre wr)∧Hid (vF N0 Bn Bb W wr)) (fun tv _=>len+128-(Go.RowKit.intOf tv).toNat)
 case atStart=>exact ⟨0,0,[],Nat.zero_le _,rfl,rfl,rfl,HJ0,h_ (vF.refl _ _ _ _)⟩
 case round =>
  obtain ⟨t,i,pre,hik,rfl,HT,HP,HJ,HB⟩:=hrel
  have hti:(t:Int)≤20096:=by rw [HT.out];omega
  by_cases GP:i<k
  ·have htl:t<len:=by rw [HT.out];have:=HK.out;omega
   have htl':(t:Int)<(len:Int):=by omega
   have htc:(t:Int)<(c:Int):=by omega
   have hcn:=HB.out.c1.trans hBn
   have hcb:=HB.out.c2.trans hBb
   obtain ⟨e,HE⟩:=ey (ptL len i)
   have he1:1≤e:=by rw [HE.out];have:=HT.out;simp only [ptL];omega
   obtain ⟨r,HR⟩:=ey (len-t)
   have fr:len-t=r:=HR.out.symm
   have yjs:(if (r:Int)<128 then (r:Int) else 128)=(e:Int):=by
    rw [HE.out,HR.out];have:=HT.out;simp only [ptL];split<;>omega
   have ynI:min (128:Int) (r:Int)=(e:Int):=by
    rw [HE.out,HR.out];have:=HT.out;simp only [ptL];omega
   have hmin3:min (r:Int) 128=(e:Int):=by rw [Int.min_comm];exact ynI
   have her:e≤len-t:=by rw [HE.out];have:=HT.out;simp only [ptL];omega
   have hei:1≤(e:Int):=by omega
   have hei2:(e:Int)≤128:=by rw [HE.out];simp only [ptL];omega
   obtain ⟨an,HAN⟩:=ey (t+e)
   have han:(t:Int)+(e:Int)=(an:Int):=by rw [HAN.out];omega
   have yu7:(an:Int)≤(len:Int):=by rw [HAN.out];omega
   have hta:(t:Int)<(an:Int):=by omega
   have hta':(t:Int)≤(an:Int):=by omega
   have hac:(an:Int)≤(c:Int):=by omega
   have fan:an-t=e:=by rw [HAN.out];omega
   have hne:¬ an=t:=by omega
   have htle:t≤len:=by omega
   have hct:¬ c=t:=by omega
   have hcb2:wr.drew.cell? ⟨Bb,0,none⟩=some (.slice (some ⟨b0,off,none⟩) len c):=hcb
   have hcn2:wr.drew.cell? ⟨Bn,0,none⟩=some (.int .i64 128):=hcn
   have HJ2:=h_ (hJd pre wr 1 HJ.out)
   have jQ:Hid (vF N0 Bn Bb W wr.drew):=h_ (HB.out.trans ⟨bR.drew,rfl,rfl⟩)
   obtain ⟨fn,tmps,assign,body,hy,hRo⟩:=hY pre ⟨i,GP⟩ wr.drew HJ2.out (by
    have h:=congrArg List.length HP.out
    rw [List.length_map,List.length_range] at h;omega)
   have hy2:(Instr.yield lr #[.slice (some ⟨b0,off+t,none⟩) e e]).run Tryz.prog wr.drew=.ok (.round lr fn tmps assign body) wr.drew:=by
    rw [HT.out,HE.out];exact hy
   clear hy
   gi_wp2
   refine wpIn_wide.2 ?_
   refine wp_region_noPanic ?_
   refine wp_region_held_drew (S:=fun W'=>W'.cell? ⟨Bb,0,none⟩=some (.slice (some ⟨b0,off,none⟩) len c)∧W'.cell? ⟨Bn,0,none⟩=some (.int .i64 128)) (by kernel_rfl) ⟨hcb2,hcn2⟩ (fun hHeld=>?_)
   refine tk (i:=0) (v:=_) rfl (Or.inl ⟨by rfl,by intro W' hSw;obtain ⟨e1,e2⟩:=hSw;go_simp;with_reducible rfl⟩) ?_
   simp only [sl]
   refine tk (i:=1) (v:=_) rfl (Or.inl ⟨by rfl,by intro W' hSw;obtain ⟨e1,e2⟩:=hSw;go_simp;with_reducible rfl⟩) ?_
   simp only [sl]
   refine tk (i:=2) (v:=_) rfl (Or.inl ⟨by rfl,by intro W' hSw;obtain ⟨e1,e2⟩:=hSw;go_simp;with_reducible rfl⟩) ?_
   simp only [sl]
   refine tk (i:=3) (v:=_) rfl (Or.inl ⟨by rfl,by intro W' hSw;obtain ⟨e1,e2⟩:=hSw;go_simp;with_reducible rfl⟩) ?_
   simp only [sl]
   refine tk (i:=4) (v:=_) rfl (Or.inl ⟨by rfl,by intro W' hSw;obtain ⟨e1,e2⟩:=hSw;go_simp;with_reducible rfl⟩) ?_
   simp only [sl]
   refine tk (i:=5) (v:=_) rfl (Or.inl ⟨by rfl,by intro W' hSw;obtain ⟨e1,e2⟩:=hSw;go_simp;with_reducible rfl⟩) ?_
   simp only [sl]
   refine oN (i:=6) rfl fun K hK=>?_
   go_simp
   refine hK.out _ _ (⟨hcb2,hcn2⟩) (fun hHeld=>?_)
   clear hK K
   refine wpAnyH_done (by kernel_rfl) ?_ _
   refine NoPanic.normal ?_
   clear hHeld
   gi_wp2
   refine hRo.mono ?_
   rintro e' W3 (⟨rfl,hJ3,hk3⟩|⟨rfl,yh0⟩)
   ·have HB3:=h_ (jQ.out.trans hk3)
    have HJ3:=h_ hJ3
    have hcn3:=HB3.out.c1.trans hBn
    clear hJ3 hk3 hy2
    gi_wp2
    go_roundw
    case rel=>exact ⟨t+128,i+1,pre++[⟨i,GP⟩],by omega,by go_num,h_ (by rw [HT.out];omega),h_ (by rw [List.map_append,HP.out,List.range_succ];rfl),HJ3,HB3⟩
    case measure=>simp [Go.RowKit.intOf];omega
   ·gi_wp2
    refine bodyPost_ret (results_none rfl _ _ _) rfl ?_
    exact ⟨⟨_,rfl⟩,.inr ⟨_,trivial,yh0⟩⟩
  ·obtain rfl:i=k:=by omega
   have hcb:=HB.out.c2.trans hBb
   have htl:¬ (t:Int)<(len:Int):=by rw [HT.out];have:=HK.out;omega
   gi_wp2
   go_end0
   exact ⟨⟨_,rfl⟩,.inl ⟨pre,HP.out,HJ.out⟩⟩
theorem ymP (m:Nat) (hm:1≤m) (Bb Bn N0 len k c b0 off:Nat) (HK:Hid (k=(len+127)/128)) (hlen:len≤20000) (hc:len≤c) (w:World) (hB1:Bn<w.heap.size) (hB2:Bb<w.heap.size)
  (hBn:w.cell? ⟨Bn,0,none⟩=some (.int .i64 128)) (hBb:w.cell? ⟨Bb,0,none⟩=some (.slice (some ⟨b0,off,none⟩) len c)) :
  SeqStopsK Fence.wide m Tryz.prog 226 #[.pointer (some ⟨Bb,0,none⟩),.pointer (some ⟨Bn,0,none⟩)] (ptE b0 off len k) (vF N0 Bn Bb) (fun ys=>ys.map (·.1)=List.range k) (fun _=>True) k w:=fun lr J Jx W hW hJ _ hY h0 =>
 ywO m hm lr Bb Bn N0 len k c b0 off HK hlen hc J Jx (fun pre W' q hj=>hJ pre W' (W'.drewN q) none hj ⟨rfl,rfl,rfl,Nat.le_refl _,fun _ _ _=>rfl⟩ (fun r e=>by cases e)) hY W
  ((hW.cell (p:=⟨Bn,0,none⟩) hB1).trans hBn) ((hW.cell (p:=⟨Bb,0,none⟩) hB2).trans hBb) h0
end
section
open Go.RowKit Go.Shelf
open Go.Lib
attribute [local go_sem] Oper.semAt_some
def ptT (l:Lb) (len t:Nat):Lb:=UInt8.ofNat (ptL len t-1)::(l.drop (128*t)).take (ptL len t)
def ptD (l:Lb) (len:Nat) (ts:List Nat):Lb:=(ts.map (ptT l len)).flatten
theorem ylQ (l:Lb) (len:Nat) (ts:List Nat) (t:Nat):ptD l len (ts++[t])=ptD l len ts++ptT l len t:=by
 rw [ptD,List.map_append,List.flatten_append];simp [ptD]
theorem yi8 (l:Lb):∀ i,128*i<l.length+128→ptD l l.length (List.range i)++spL (l.drop (128*i))=spL l
 | 0,_=>rfl
 | i+1,h=>by
  have hd:0<(l.drop (128*i)).length:=by rw [List.length_drop];omega
  have h1:=yi8 l i (by omega)
  rw [ydp hd,List.drop_drop] at h1
  have e1:min (l.drop (128*i)).length 128=ptL l.length i:=by rw [List.length_drop]
  rw [e1] at h1
  rw [List.range_succ,ylQ,ptT,← h1,List.append_assoc]
  congr 1
  rw [List.cons_append]
  by_cases hl:l.length-128*i<128
  ·have e2:ptL l.length i=l.length-128*i:=by simp only [ptL];omega
   have e3:l.drop (128*(i+1))=[]:=List.drop_of_length_le (by omega)
   have e4:l.drop (128*i+ptL l.length i)=[]:=List.drop_of_length_le (by rw [e2];omega)
   rw [e3,e4]
  ·have e2:ptL l.length i=128:=by simp only [ptL];omega
   rw [e2,show 128*(i+1)=128*i+128 by omega]
theorem ywP (l:Lb):ptD l l.length (List.range ((l.length+127)/128))=spL l:=by
 have h:=yi8 l ((l.length+127)/128) (by omega)
 rwa [List.drop_of_length_le (by omega),ygs,List.append_nil] at h
theorem yp0 (l:Lb) (len:Nat):∀ ts:List Nat,(ptD l len ts).length≤129*ts.length
 | []=>Nat.le_refl _
 | t::ts=>by
  have h:=yp0 l len ts
  have e:ptD l len (t::ts)=ptT l len t++ptD l len ts:=rfl
  have h2:ptL len t≤128:=by simp only [ptL];omega
  rw [e,List.length_append,ptT,List.length_cons,List.length_take,List.length_cons];omega
structure ApI (B N:Nat) (p:Oa) (len c:Nat) (w:World) (v0 v:Value) (D:Lb) (W:World):Prop where
 old:w.grownBy W v0.ownBlock
 lies:v.ownBlock=v0.ownBlock∨∃ j,v.ownBlock=some j∧w.heap.size≤j
 own:W.ownsRow B 5 1 v D.length (zG D)
 out:W.heap[N]?=some (.cells #[v] 39 (0,0))
 i1:W.heap[N+1]?=some (.cells #[.slice p len c] 39 (0,0))
 i2:W.heap[N+1+1]?=some (.cells #[.int .i64 128] 3 (0,0))
 bel:Below B w W
section
variable {B N : Nat} {p : Oa} {len c : Nat} {w W W' : World} {v0 v v' : Value} {D D' : Lb}
theorem ApI.keep (h:ApI B N p len c w v0 v D W) {row:Option Nat} (hg:W.grownBy W' row) (hr:∀ r,row=some r→w.heap.size≤r∧∃ o:Obj,W.heap[r]?=some o∧o.isCells=false) (hBw:B≤w.heap.size) (hB:B≤W.heap.size):ApI B N p len c w v0 v D W':=by
 have hk:∀ {k:Nat} {o:Obj},W.heap[k]?=some o→o.isCells=true→W'.heap[k]?=some o:=fun h1 h2=>(grownBy_keeps_cells hg (fun r e=>(hr r e).2) h1 h2).trans h1
 exact ⟨⟨hg.os.trans h.old.os,hg.tape.trans h.old.tape,hg.output.trans h.old.output,Nat.le_trans h.old.size hg.size,fun k hk9 hne=>(hg.block k (Nat.lt_of_lt_of_le hk9 h.old.size) (fun e=>by have:=(hr k e.symm).1;omega)).trans (h.old.block k hk9 hne)⟩,h.lies,GJ h.own (fun k cs h1=>hk h1 rfl),hk h.out rfl,hk h.i1 rfl,hk h.i2 rfl,h.bel.grown hg hB (fun k e=>Nat.le_trans hBw (hr k e).1)⟩
theorem ApI.app (h:ApI B N p len c w v0 v D W) (hBW:B≤W.heap.size) (hBN:B≤N) (hwN:w.heap.size≤N) (hg:Grew B W v D' W' v'):W'.ownsRow B 5 1 v' D'.length (zG D')∧ApI B N p len c w v0 v' D' (W'.setCell ⟨N,0,none⟩ v')∧KeepsOthers W (W'.setCell ⟨N,0,none⟩ v')∧W'.heap[N]?=some (.cells #[v] 39 (0,0))∧Below B W (W'.setCell ⟨N,0,none⟩ v'):=by
 have hk:∀ {k:Nat} {cs:Array Value} {t:TypeId},W.heap[k]?=some (.cells cs t (0,0))→t≠5→W'.heap[k]?=some (.cells cs t (0,0)):=fun h1 h2=>(hg.grown.block _ (Array.getElem?_eq_some_iff.1 h1).1 (ybX h.own h1 h2)).trans h1
 have hs:∀ {k:Nat} {o:Obj},k≠N→W'.heap[k]?=some o→(W'.setCell ⟨N,0,none⟩ v').heap[k]?=some o:=fun hne h1=>(Below.heap_setCell W' ⟨N,0,none⟩ _ _ hne).trans h1
 have hO:=hk h.out (by decide)
 have hne:∀ {k:Nat} {cs:Array Value},W'.heap[k]?=some (.cells cs 5 (0,0))→k≠N:=by
  rintro k cs h1 rfl
  rw [hO] at h1;cases h1
 have hb1:Below B w W':=h.bel.grown hg.grown hBW (fun k e=>yaz h.own e)
 have hG:Grew B w v0 D' W' v':=Grew.trans ⟨h.own,h.old,h.lies⟩ hg
 refine ⟨hg.own,⟨⟨hG.grown.os,hG.grown.tape,hG.grown.output,Nat.le_trans hG.grown.size (KeepsOthers.setCell W' ⟨N,0,none⟩ v').size,fun k hk9 hne9=>(Below.heap_setCell W' ⟨N,0,none⟩ _ _ (by show k≠N;omega)).trans (hG.grown.block k hk9 hne9)⟩,hG.lies,GJ hg.own (fun k cs h3=>hs (hne h3) h3),uB hO,hs (by omega) (hk h.i1 (by decide)),hs (by omega) (hk h.i2 (by decide)),hb1.setCell (p:=⟨N,0,none⟩) hBN _⟩,(KeepsOthers.of_grownBy hg.grown (ydL h.own)).trans (KeepsOthers.setCell _ _ _),hO,((Below.refl B W).grown hg.grown hBW (fun k e=>yaz h.own e)).setCell (p:=⟨N,0,none⟩) hBN _⟩
end
theorem yfR (B b0 off len c:Nat) (v0:Value) (D0 l:Lb) (w:World) (hlen:Hid (len=l.length)) (hl:len≤20000) (hc:len≤c) (hD0:D0.length≤100000) (hB:B≤w.heap.size) (yR:w.ownsRow B 5 1 v0 D0.length (zG D0)) (hbs:BsN B w (some ⟨b0,off,none⟩) l) :
  Calls Tryz.prog 154 #[v0,.slice (some ⟨b0,off,none⟩) len c] w (App B w v0 (D0++spL l)):=by
 obtain ⟨k,HK⟩:=ey ((len+127)/128)
 have GU:=h_ hbs
 have HO0:=h_ yR
 obtain ⟨pv,cv,rfl,-,-⟩:=yS yR
 obtain ⟨m0,HM0⟩:=ey (D0.length)
 rw [← HM0.out]
 clear hbs yR
 refine (callsIn_wide (n:=9)).1 ?_
 refine callsIn_of_wp_marks Tryz.func154 rfl trivial ?_ rfl
 simp only [Tryz.ntmps154,List.size_toArray,List.length_cons,List.length_nil,Nat.reduceAdd,Nat.reduceSub,Array.replicate_succ,Array.replicate_zero,List.push_toArray,List.append_toArray,List.nil_append,List.cons_append]
 gi_wp2_with (refine ⟨trivial,?_⟩;gi_at_call 193;refine (ylP _ _ _ _ _).mono ?_;rintro e w' ⟨rfl,rfl⟩)
 obtain ⟨W0,hW0⟩:∃ W0,(((w.alloc (.cells #[.slice pv m0 cv] 39)).alloc (.cells #[.slice (some ⟨b0,off,none⟩) len c] 39)).alloc (.cells #[.int .i64 128] 3))=W0:=⟨_,rfl⟩
 have hs0:W0.heap.size=w.heap.size+3:=by rw [← hW0];simp
 have hbe:Be w W0:=by rw [← hW0];exact (((Below.refl _ w).alloc nl _).alloc (by simp) _).alloc (by simp<;>omega) _
 have hI0:ApI B w.heap.size (some ⟨b0,off,none⟩) len c w (.slice pv m0 cv) (.slice pv m0 cv) D0 W0:=by
  refine ⟨yaJ hbe _,.inl rfl,?_,?_,?_,?_,hbe.mono hB⟩
  ·rw [HM0.out];exact jW HO0.out hbe
  all_goals (rw [← hW0])
  ·exact (Below.heap_alloc _ _ _ (by simp<;>omega)).trans ((Below.heap_alloc _ _ _ (by simp)).trans (World.alloc_heap_new w _))
  ·refine (Below.heap_alloc _ _ _ (by simp)).trans ?_
   have:=World.alloc_heap_new (w.alloc (.cells #[.slice pv m0 cv] 39)) (.cells #[.slice (some ⟨b0,off,none⟩) len c] 39);rwa [World.size_alloc] at this
  ·have:=World.alloc_heap_new ((w.alloc (.cells #[.slice pv m0 cv] 39)).alloc (.cells #[.slice (some ⟨b0,off,none⟩) len c] 39)) (.cells #[.int .i64 128] 3);rwa [World.size_alloc,World.size_alloc] at this
 rw [hW0]
 refine wpIn_rangeFunc_ownF rfl (by omega) (gf:=226) (lb:=#[.pointer (some ⟨w.heap.size+1,0,none⟩),.pointer (some ⟨w.heap.size+1+1,0,none⟩)]) rfl trivial (enters_of Tryz.func226 (by kernel_rfl) rfl)
  (ymP _ (by omega) (w.heap.size+1) (w.heap.size+1+1) B len k c b0 off HK hl hc W0 (by omega) (by omega) (by simp [World.cell?,hI0.i2]) (by simp [World.cell?,hI0.i1])) vF.trans
  (fun W lo o o' hlo ho hc hw=>⟨(Below.refl _ W).grown (grownBy_putObj' W lo o') (by have:=(Array.getElem?_eq_some_iff.1 ho).1;omega) (fun k e=>by cases e;omega),World.putObj_heap_other (by omega),World.putObj_heap_other (by omega)⟩) bR (fun _=>rfl)
  (fun pre W=>(∃ v,ApI B w.heap.size (some ⟨b0,off,none⟩) len c w (.slice pv m0 cv) v (D0++ptD l len (pre.map (·.1))) W)∧B≤W.heap.size)
  (fun _ _ _=>False)
  (fun s W W' row h hg hr=>by obtain ⟨⟨v,h⟩,hB9⟩:=h;exact ⟨⟨v,h.keep hg (fun r e=>⟨by have:=(hr r e).1;omega,(hr r e).2⟩) hB hB9⟩,Nat.le_trans hB9 hg.size⟩)
  (fun _ _ _ _ _ h _ _=>h)
  ⟨⟨_,by rw [show ptD l len (([]:List (Pl k)).map (·.1))=[] from rfl,List.append_nil];exact hI0⟩,by omega⟩ ?a1 ?assign ?body ?done ?stop
 case assign =>
  intro lo x W K hK
  gi_wp2
  exact hK
 case body =>
  rintro lo pre x W ⟨⟨v,hI⟩,hBW⟩ ynP
  obtain ⟨D,HD⟩:=ey (D0++ptD l len (pre.map (·.1)))
  rw [← HD.out] at hI
  have HI:=h_ hI
  obtain ⟨e,HE⟩:=ey (ptL len x.1)
  obtain ⟨t,HT⟩:=ey (128*x.1)
  have hxl:=x.2
  have htl:t<len:=by have:=HK.out;rw [HT.out];omega
  have he1:1≤e:=by rw [HE.out];have:=HT.out;simp only [ptL];omega
  have he2:t+e≤len:=by rw [HE.out];have:=HT.out;simp only [ptL];omega
  have he3:e≤128:=by rw [HE.out];simp only [ptL];omega
  have ee:ptL len x.1=e:=HE.out.symm
  have et:128*x.1=t:=HT.out.symm
  simp only [ee,et]
  have hi1:1≤(e:Int):=by omega
  have hi3:(e:Int)≤128:=by omega
  obtain ⟨y,HY⟩:∃ y:UInt8,Hid (y=UInt8.ofNat (e-1)):=⟨_,rfl⟩
  have hyn:y.toNat=e-1:=by rw [HY.out,UInt8.toNat_ofNat'];omega
  have hyi:(e:Int)-1=((y.toNat:Nat):Int):=by rw [hyn];omega
  have hyl:((y.toNat:Nat):Int)≤127:=by rw [hyn];omega
  obtain ⟨pt,HPT⟩:=ey ((l.drop t).take e)
  have hptl:pt.length=e:=by rw [HPT.out,List.length_take,List.length_drop,← hlen.out];omega
  have yk3:Hid (D++[y]++pt=D0++ptD l len ((pre++[x]).map (·.1))):=h_ (by
   rw [List.map_append,List.map_cons,List.map_nil,ylQ,ptT,ee,et,← HY.out,← HPT.out,HD.out];simp only [List.append_assoc,List.cons_append,List.nil_append])
  have hDl:D.length≤140000000000000:=by
   have h5:=yp0 l len (pre.map (·.1))
   have h6:=HK.out
   rw [List.length_map] at h5
   rw [HD.out,List.length_append];omega
  have cO:W.cell? ⟨w.heap.size,0,none⟩=some v:=by simp [World.cell?,hI.out]
  have HIa:Hid (ApI B w.heap.size (some ⟨b0,off,none⟩) len c w (.slice pv m0 cv) v D (W.alloc (.cells #[.int .u8 ((y.toNat:Nat):Int)] 5))):=h_ (hI.keep (World.grownBy_alloc W _ none) (fun r e=>by cases e) hB hBW)
  have hko:Hid (KeepsOthers W (W.alloc (.cells #[.int .u8 ((y.toNat:Nat):Int)] 5))∧Below B W (W.alloc (.cells #[.int .u8 ((y.toNat:Nat):Int)] 5))):=h_ ⟨KeepsOthers.alloc _ _,bR.alloc hBW _⟩
  have zX:=h_ (ypX W y)
  have hsz:Hid (B≤(W.alloc (.cells #[.int .u8 ((y.toNat:Nat):Int)] 5)).heap.size):=h_ (by simp;omega)
  clear hI hyn
  gi_wp2_with (refine wpListIn_plain (o:=⟨some 15,_,_,_,_,_⟩) rfl fun K hK=>ycY rfl (yag (.tmp 9) (.tmp 14) rfl B v D.length D rfl rfl HIa.out.own _ 1 1 [y] rfl rfl zX.out (by omega) hsz.out ?_))
  intro v5 W5 hg5
  obtain ⟨yP,ycK,ydh,hO5,yce⟩:=HIa.out.app hsz.out hB nl hg5
  have hB5:B≤W5.heap.size:=Nat.le_trans hsz.out hg5.grown.size
  obtain ⟨D5,HD5⟩:∃ D5,Hid (D5=D++[y]):=⟨D++[y],h_ rfl⟩
  rw [← HD5.out] at yP ycK
  obtain ⟨p5,c5,rfl,-,-⟩:=yS yP
  obtain ⟨m5,HM5⟩:=ey (D5.length)
  rw [← HM5.out] at ycK ydh yce ⊢
  have fO:W5.cell? ⟨w.heap.size,0,none⟩=some v:=by simp [World.cell?,hO5]
  have fOz:W5.frozen? ⟨w.heap.size,0,none⟩=false:=by simp [World.frozen?,hO5]
  obtain ⟨W6,hW6⟩:∃ W6,W5.setCell ⟨w.heap.size,0,none⟩ (.slice p5 m5 c5)=W6:=⟨_,rfl⟩
  rw [hW6] at ycK ydh yce
  have HI6:=h_ ycK
  have HK6:Hid (KeepsOthers W W6∧Below B W W6):=h_ ⟨hko.out.1.trans ydh,hko.out.2.trans yce⟩
  have hB6:B≤W6.heap.size:=Nat.le_trans hBW HK6.out.2.size
  have cO6:W6.cell? ⟨w.heap.size,0,none⟩=some (.slice p5 m5 c5):=by have h:=HI6.out.out;simp [World.cell?,h]
  have cO6z:W6.frozen? ⟨w.heap.size,0,none⟩=false:=by have h:=HI6.out.out;simp [World.frozen?,h]
  have yvq:Hid (Bs W6 (some ⟨b0,off+t,none⟩) pt):=h_ (by
   rw [HPT.out];exact yaB ((GU.out.keep HI6.out.bel).bs hB6) t e (by rw [← hlen.out];omega) rfl)
  have hm5l:Hid (m5+e≤140737488355328):=h_ (by rw [HM5.out,HD5.out,List.length_append];show D.length+1+e≤_;omega)
  have yaN:Hid (W6.ownsRow B 5 1 (.slice p5 m5 c5) m5 (zG D5)):=h_ (by have h:=HI6.out.own;rwa [← HM5.out] at h)
  clear yP ycK ydh hO5 yce hg5 cO
  refine hK _ _ ?_
  gi_wp2_with (refine wpListIn_plain (o:=⟨some 18,_,_,_,_,_⟩) rfl fun K hK=>ycY rfl (yag (.tmp 16) (.tmp 17) rfl B (.slice p5 m5 c5) m5 D5 rfl HM5.out yaN.out _ e e pt rfl hptl yvq.out hm5l.out hB6 ?_))
  intro v7 W7 hg7
  obtain ⟨yh9,yk4,yvr,hO7,ykY⟩:=HI6.out.app hB6 hB nl hg7
  obtain ⟨D7,HD7⟩:=ey (D5++pt)
  rw [← HD7.out] at yh9 yk4
  obtain ⟨p7,c7,rfl,-,-⟩:=yS yh9
  obtain ⟨m7,HM7⟩:=ey (D7.length)
  rw [← HM7.out] at yk4 yvr ykY ⊢
  have gO:W7.cell? ⟨w.heap.size,0,none⟩=some (.slice p5 m5 c5):=by simp [World.cell?,hO7]
  have gOz:W7.frozen? ⟨w.heap.size,0,none⟩=false:=by simp [World.frozen?,hO7]
  obtain ⟨W8,hW8⟩:∃ W8,W7.setCell ⟨w.heap.size,0,none⟩ (.slice p7 m7 c7)=W8:=⟨_,rfl⟩
  rw [hW8] at yk4 yvr ykY
  have GB:Hid (KeepsOthers W W8∧vF B (w.heap.size+1+1) (w.heap.size+1) W W8∧(∃ v,ApI B w.heap.size (some ⟨b0,off,none⟩) len c w (.slice pv m0 cv) v (D0++ptD l len ((pre++[x]).map (·.1))) W8)∧B≤W8.heap.size):=h_ (by
   have hb8:=HK6.out.2.trans ykY
   have k1:W8.heap[w.heap.size+1]?=W.heap[w.heap.size+1]?:=yk4.i1.trans HI.out.i1.symm
   have k2:W8.heap[w.heap.size+1+1]?=W.heap[w.heap.size+1+1]?:=yk4.i2.trans HI.out.i2.symm
   have k3:KeepsOthers W W8:=HK6.out.1.trans yvr
   have k4:ApI B w.heap.size (some ⟨b0,off,none⟩) len c w (.slice pv m0 cv) (.slice p7 m7 c7) (D0++ptD l len ((pre++[x]).map (·.1))) W8:=by
    rw [← yk3.out,← HD5.out,← HD7.out];exact yk4
   exact ⟨k3,⟨hb8,k2,k1⟩,⟨_,k4⟩,Nat.le_trans hBW hb8.size⟩)
  clear yh9 yk4 yvr hO7 ykY hg7
  refine hK _ _ ?_
  gi_wp2
  try rw [hW8]
  exact GB.out
 case done =>
  rintro Dd xs W hD hxs ⟨⟨v,hI⟩,hBW⟩ hK
  have eD:D0++ptD l len (xs.map (·.1))=D0++spL l:=by
   rw [hxs,HK.out,hlen.out,ywP]
  rw [eD] at hI
  have cO:W.cell? ⟨w.heap.size,0,none⟩=some v:=by simp [World.cell?,hI.out]
  have hD5:=hI.keep (grownBy_putObj' W Dd (.deferred none)) (fun r e=>by cases e;exact ⟨by omega,_,hK,rfl⟩) hB hBW
  have yD:Grew B w (.slice pv m0 cv) (D0++spL l) (W.putObj Dd (.deferred none)) v:=⟨hD5.own,hD5.old,hD5.lies⟩
  clear hI hD5
  gi_wp2
  refine ⟨by simp,.inl ⟨_,_,rfl,run_takeDeferred hK,?_⟩⟩
  refine ⟨_,?_,v,rfl,yD⟩
  simp [results,Tryz.f154,go_sem]
 case stop =>
  rintro D c pre W hD _ h
  exact h.elim
end
end Go.Proofs.YtgepehlpjpccaaaGreatDoor
