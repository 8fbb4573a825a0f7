/- Contracts. -/
import Derived.Test.YtgepehlpjpccaaaGreatDoorWFT
namespace Go.Proofs.YtgepehlpjpccaaaGreatDoor
set_option maxHeartbeats 4000000
set_option maxRecDepth 100000
section
open Go.RowKit
open Go.Lib
def ypj (l:List UInt8) (b0 off len c:Nat) (w:World) (e:Ending) (w1:World):Prop:=Below w.heap.size w w1∧∃ mo:Option Nat,e=.returned (.agg #[.slice (some ⟨b0,off,none⟩) len c,.map mo]) ∧
 ∀ W,Below w1.heap.size w1 W→∀ a,a<len→Calls Tryz.prog 153 #[.agg #[.slice (some ⟨b0,off,none⟩) len c,.map mo],.int .i64 (a:Int)] W (ydn l a W)
theorem yiw (B b0 off len c:Nat) (v0:Value) (D0 l:List UInt8) (w:World) (hl:len≤20000) (hD0:D0.length≤100000) (hB:B≤w.heap.size) (yW:w.ownsRow B 5 1 v0 D0.length (zS D0)) (hbs:BsN B w (some ⟨b0,off,none⟩) l) (hC:Came w (some ⟨b0,off,none⟩) len c l) :
  Calls Tryz.prog 154 #[v0,.slice (some ⟨b0,off,none⟩) len c] w (App B w v0 (D0++spL l)) :=
 yfj B b0 off len c v0 D0 l w (Lib.hid hC.hl.symm) hl hC.hc hD0 hB yW hbs
theorem yos (b0 off len c:Nat) (l:List UInt8) (w:World) (hl:len≤20000) (h:Came w (some ⟨b0,off,none⟩) len c l) (hidx:Calls Tryz.prog 152 #[.slice (some ⟨b0,off,none⟩) len c] w (ypj l b0 off len c w)) :
  Calls Tryz.prog 101 #[.slice (some ⟨b0,off,none⟩) len c] w (jY (yet l) w):=by
 have H:=Lib.hid h
 have HIDX:=Lib.hid hidx
 have HBN:Hid (BsN w.heap.size w (some ⟨b0,off,none⟩) l):=Lib.hid h.lies.bsN
 have il:(len:Int)≤20000:=by omega
 have HL:=Lib.hid hl
 have hc:=h.hc
 have ic:(len:Int)≤(c:Int):=by omega
 have hlen:=Lib.hid h.hl
 obtain ⟨R,HR⟩:∃ R,Hid (R=yet l):=⟨_,rfl⟩
 rw [← HR.out]
 have HG0:Hid (Grew w.heap.size w (.slice none 0 0) [] w (.slice none 0 0)):=Lib.hid (Grew.refl (l:=[]) (World.ownsRow_nil w w.heap.size 5 1))
 clear h hl hidx
 go_enter Tryz.func101,Tryz.ntmps101
 go_wp2_with fail
 refine (HIDX.out).mono ?_
 rintro e w1 ⟨hb1,mo,rfl,hlong⟩
 have HLONG:=Lib.hid hlong
 have zG:=Lib.hid hb1
 have HBX:Hid (Below w1.heap.size w1 (w1.alloc (.cells #[.slice (some ⟨b0,off,none⟩) len c,.map mo] 152))):=Lib.hid ((Below.refl _ w1).alloc (Nat.le_refl _) _)
 have ydA:Hid ((w1.alloc (.cells #[.slice (some ⟨b0,off,none⟩) len c,.map mo] 152)).heap[w1.heap.size]?=some (.cells #[.slice (some ⟨b0,off,none⟩) len c,.map mo] 152 (0,0))):=Lib.hid (World.alloc_heap_new w1 _)
 have hs1:w1.heap.size<(w1.alloc (.cells #[.slice (some ⟨b0,off,none⟩) len c,.map mo] 152)).heap.size:=by simp
 clear hb1 hlong
 go_wp2_with fail
 revert HBX ydA hs1
 generalize w1.alloc (.cells #[.slice (some ⟨b0,off,none⟩) len c,.map mo] 152)=W0
 intro HBX ydA hs1
 have HG0:Hid (Grew w.heap.size W0 (.slice none 0 0) [] W0 (.slice none 0 0)):=Lib.hid (Grew.refl (l:=[]) (World.ownsRow_nil W0 w.heap.size 5 1))
 have ydC:Hid (Below w.heap.size w W0):=Lib.hid (zG.out.trans (HBX.out.mono zG.out.size))
 go_loopw [5,6,7] (fun ov fv av wr=>∃ (f fr a:Nat) (D:List UInt8),fr≤a∧a≤len∧fv=.int .i64 fr∧av=.int .i64 a∧Hid (len-a≤f)∧Hid (D++dcF l f fr a=R)∧Hid (D.length≤2*fr)∧Hid (Grew w.heap.size W0 (.slice none 0 0) D wr ov)) (fun _ _ av _=>len-(Go.RowKit.intOf av).toNat)
 case atStart=>exact ⟨len,0,0,[],Nat.le_refl _,Nat.zero_le _,rfl,rfl,Lib.hid (Nat.le_refl _),Lib.hid (by rw [HR.out,yet,hlen.out];rfl),Lib.hid (Nat.zero_le _),HG0⟩
 case round =>
  obtain ⟨f,fr,a,D,hfa,hal,rfl,rfl,HF,HD,HDL,HG⟩:=hrel
  have hbW:Hid (Below W0.heap.size W0 wr):=Lib.hid (HG.out.grown |> fun g=>⟨g.os,g.tape,g.output,g.size,fun k hk=>g.block k hk (by intro e;cases e)⟩)
  have hbw:Hid (Below w.heap.size w wr):=Lib.hid (ydC.out.trans (hbW.out.mono ydC.out.size))
  have ia:(a:Int)≤(len:Int):=by omega
  have ifr:(fr:Int)≤(a:Int):=by omega
  have uZ:=(hbW.out.block w1.heap.size hs1).trans ydA.out
  have c0:wr.cell? ⟨w1.heap.size,0,none⟩=some (.slice (some ⟨b0,off,none⟩) len c):=by simp [World.cell?,uZ]
  have c1:wr.cell? ⟨w1.heap.size,1,none⟩=some (.map mo):=by simp [World.cell?,uZ]
  clear uZ
  by_cases hlt:a<len
  ·have ilt:(a:Int)<(len:Int):=by omega
   have HLg:=Lib.hid (HLONG.out wr (HBX.out.trans (hbW.out.mono (Nat.le_of_lt hs1))) a hlt)
   obtain ⟨f1,rfl⟩:∃ f1,f=f1+1:=⟨f-1,by have:=HF.out;omega⟩
   go_wp2_with fail
   refine (HLg.out).mono ?_
   rintro e w2 ⟨hb2,⟨GC,rfl⟩|⟨hge,rfl⟩⟩
   ·have G2:=Lib.hid (HG.out.trans (Grew.of_below HG.out.own hb2))
    have jB:Hid (D++dcF l f1 fr (a+1)=R):=Lib.hid (by rw [← HD.out,dcF,if_pos (by rw [hlen.out];exact hlt),if_pos GC])
    clear hb2 GC
    go_wp2_with fail
    go_roundw
    case rel=>exact ⟨f1,fr,a+1,D,by omega,by omega,rfl,by go_num,Lib.hid (by have:=HF.out;omega),jB,HDL,G2⟩
    case measure=>simp [Go.RowKit.intOf];omega
   ·obtain ⟨n,HN⟩:∃ n,Hid (n=(vB l a a).1):=⟨_,rfl⟩
    obtain ⟨d,HDd⟩:∃ d,Hid (d=(vB l a a).2):=⟨_,rfl⟩
    rw [← HN.out] at hge ⊢
    rw [← HDd.out]
    have hn4:¬ n<4:=by omega
    have hn131:n≤131:=by rw [HN.out];exact (yjj l a a).1
    have hda:d≤a:=by rw [HDd.out];exact (yjj l a a).2
    have ydw:a+n≤len:=by rw [HN.out,← hlen.out];exact ydm l a (by rw [hlen.out];exact hal) a
    have in131:(n:Int)≤131:=by omega
    have id1000:(d:Int)≤20000:=by have:=HL.out;omega
    have in4:¬ (n:Int)=0:=by omega
    have in4b:((n:Int)==0)=false:=by rw [beq_eq_false_iff_ne];exact in4
    have in4c:4≤(n:Int):=by omega
    have G2:=Lib.hid (HG.out.trans (Grew.of_below HG.out.own hb2))
    have hB2:=Lib.hid (hbw.out.trans (hb2.mono hbw.out.size))
    clear hb2
    obtain ⟨k,HK⟩:∃ k,Hid (k=a-fr):=⟨_,rfl⟩
    have fk:a-fr=k:=HK.out.symm
    have ifc:(fr:Int)<(c:Int):=by omega
    have iac:(a:Int)≤(c:Int):=by omega
    obtain ⟨s1,HS1⟩:∃ s1,Hid (s1=(l.drop fr).take k):=⟨_,rfl⟩
    have hs1':Came w2 (some ⟨b0,off+fr,none⟩) k (c-fr) s1:=⟨by rw [HS1.out,List.length_take,List.length_drop,hlen.out,HK.out];omega,by rw [HK.out];omega,by rw [HS1.out];exact ya8 (H.out.lies.below hB2.out) fr k (by rw [hlen.out,HK.out];omega) rfl⟩
    have hsn:BsN w.heap.size w2 (some ⟨b0,off+fr,none⟩) s1:=by
     rcases HBN.out.keep hB2.out with h0|⟨b,o,e,h5,h6⟩
     ·exact .inl (by rw [HS1.out,List.length_take,List.length_drop,h0];omega)
     ·rcases hs1'.lies with h0|⟨b',o',e',h5',h6'⟩
      ·exact .inl h0
      ·cases e;cases e'
       exact .inr ⟨_,_,rfl,h5,h6'⟩
    have hDl:D.length≤40000:=by have:=HDL.out;have:=HL.out;omega
    have HSp:=Lib.hid (yiw w.heap.size b0 (off+fr) k (c-fr) _ D s1 w2 (by rw [HK.out];have:=HL.out;omega) (by omega) hB2.out.size G2.out.own hsn hs1')
    have hspl:Hid ((spL s1).length≤2*k):=Lib.hid (by have:=yo8 k s1 (by rw [hs1'.hl];exact Nat.le_refl _);rwa [hs1'.hl] at this)
    have jB:Hid (D++(spL s1++(tok n d++dcF l f1 (a+n) (a+n)))=R):=Lib.hid (by rw [← HD.out,dcF,if_pos (by rw [hlen.out];exact hlt),← HN.out,if_neg hn4,← HDd.out,HS1.out,HK.out])
    clear hs1' hsn
    go_wp2_with fail
    refine (HSp.out).mono ?_
    rintro e w4 ⟨v4,rfl,hg4⟩
    obtain ⟨S,HS⟩:∃ S,Hid (S=spL s1):=⟨_,rfl⟩
    rw [← HS.out] at hg4 hspl jB
    obtain ⟨D4,HD4⟩:∃ D4,Hid (D4=D++S):=⟨_,rfl⟩
    rw [← HD4.out] at hg4
    have G4:=Lib.hid (G2.out.trans hg4)
    clear hg4
    have hB4:Hid (Below w.heap.size w w4):=Lib.hid (ydC.out.trans ((⟨G4.out.grown.os,G4.out.grown.tape,G4.out.grown.output,G4.out.grown.size,fun k hk=>G4.out.grown.block k hk (by intro e;cases e)⟩:Below W0.heap.size W0 w4).mono ydC.out.size))
    have hD4:Hid (D4.length≤2*a):=Lib.hid (by
     have h1:=HDL.out
     have h2:=hspl.out
     rw [HD4.out,List.length_append];rw [HK.out] at h2;omega)
    obtain ⟨x,HX⟩:∃ x:UInt8,Hid (x=UInt8.ofNat (124+n)):=⟨_,rfl⟩
    obtain ⟨y,HY⟩:∃ y:UInt8,Hid (y=UInt8.ofNat (d/256)):=⟨_,rfl⟩
    obtain ⟨z,HZ⟩:∃ z:UInt8,Hid (z=UInt8.ofNat (d%256)):=⟨_,rfl⟩
    have hx:x.toNat=124+n:=by rw [HX.out,UInt8.toNat_ofNat'];omega
    have hy:y.toNat=d/256:=by rw [HY.out,UInt8.toNat_ofNat'];omega
    have hz:z.toNat=d%256:=by rw [HZ.out,UInt8.toNat_ofNat'];omega
    have G4a:=Lib.hid (G4.out.trans (Grew.of_below G4.out.own ((Below.refl _ w4).alloc (Nat.le_refl _) (.cells #[.int .u8 (128+(n:Int)-4),.int .u8 ((d:Int)/256),.int .u8 ((d:Int)%256)] 5))))
    have htk:Hid (Bs (w4.alloc (.cells #[.int .u8 (128+(n:Int)-4),.int .u8 ((d:Int)/256),.int .u8 ((d:Int)%256)] 5)) (some ⟨w4.heap.size,0,none⟩) [x,y,z]):=Lib.hid (by
     have h:=ywC w4 x y z
     rwa [show ((x.toNat:Nat):Int)=128+(n:Int)-4 by omega,show ((y.toNat:Nat):Int)=(d:Int)/256 by omega,show ((z.toNat:Nat):Int)=(d:Int)%256 by omega] at h)
    have hbl4:Hid (D4.length+3≤140737488355328∧w.heap.size≤(w4.alloc (.cells #[.int .u8 (128+(n:Int)-4),.int .u8 ((d:Int)/256),.int .u8 ((d:Int)%256)] 5)).heap.size):=Lib.hid ⟨by have:=hD4.out;have:=HL.out;omega,by have:=hB4.out.size;simp;omega⟩
    have htok:Hid (tok n d=[x,y,z]):=Lib.hid (by rw [tok,HX.out,HY.out,HZ.out])
    clear hx hy hz
    go_wp2_with (at_builtin;refine zY rfl (.tmp 35) (.tmp 45) rfl w.heap.size v4 D4.length D4 rfl rfl G4a.out.own _ 3 3 [x,y,z] rfl rfl htk.out hbl4.out.1 hbl4.out.2 ?_)
    intro v5 w5 hg5
    have G5:=Lib.hid (G4a.out.trans hg5)
    clear hg5
    obtain ⟨an,HAN⟩:∃ an,Hid (an=a+n):=⟨_,rfl⟩
    have han:(a:Int)+(n:Int)=(an:Int):=by rw [HAN.out];omega
    have hanl:an≤len:=by rw [HAN.out];exact ydw
    have hani:(an:Int)≤20000:=by omega
    have hD5:Hid ((D4++[x,y,z])++dcF l f1 an an=R):=Lib.hid (by rw [← jB.out,HD4.out,htok.out,HAN.out];simp only [List.append_assoc])
    have hDL5:Hid ((D4++[x,y,z]).length≤2*an):=Lib.hid (by
     have h1:=hD4.out
     rw [List.length_append];show D4.length+3≤_
     rw [HAN.out];omega)
    go_wp2_with fail
    go_roundw
    case rel=>exact ⟨f1,an,an,D4++[x,y,z],Nat.le_refl _,hanl,rfl,rfl,Lib.hid (by have:=HF.out;rw [HAN.out];omega),hD5,hDL5,G5⟩
    case measure=>simp [Go.RowKit.intOf];rw [HAN.out];omega
  ·obtain rfl:a=len:=by omega
   have hnl:¬ a<l.length:=by rw [hlen.out];omega
   have e:=HD.out
   rw [yjk hnl] at e
   have ilt:¬ (a:Int)<(a:Int):=by omega
   have ifc:(fr:Int)≤(c:Int):=by omega
   obtain ⟨k,HK⟩:∃ k,Hid (k=a-fr):=⟨_,rfl⟩
   have fk:a-fr=k:=HK.out.symm
   obtain ⟨s1,HS1⟩:∃ s1,Hid (s1=l.drop fr):=⟨_,rfl⟩
   rw [← HS1.out] at e
   have hsl:s1.length=k:=by rw [HS1.out,List.length_drop,hlen.out,HK.out]
   have hDl:D.length≤40000:=by have:=HDL.out;have:=HL.out;omega
   have HE:=Lib.hid e
   have HSp:Hid (∀ o1 c1,Came wr (some ⟨b0,o1,none⟩) k c1 s1→BsN w.heap.size wr (some ⟨b0,o1,none⟩) s1→∀ v,wr.ownsRow w.heap.size 5 1 v D.length (zS D)→Calls Tryz.prog 154 #[v,.slice (some ⟨b0,o1,none⟩) k c1] wr (App w.heap.size wr v R)):=Lib.hid (fun o1 c1 h1 h2 v hv=>by
    have:=yiw w.heap.size b0 o1 k c1 v D s1 wr (by rw [HK.out];have:=HL.out;omega) (by omega) hbw.out.size hv h2 h1
    rwa [HE.out] at this)
   have hbn:∀ o1,Bs wr (some ⟨b0,o1,none⟩) s1→BsN w.heap.size wr (some ⟨b0,o1,none⟩) s1:=fun o1 h=>by
    rcases h with h0|⟨b',o',e',h5',h6'⟩
    ·exact .inl h0
    ·rcases HBN.out.keep hbw.out with h0|⟨b,o,e,h5,h6⟩
     ·exact .inl (by rw [HS1.out,List.length_drop,h0];omega)
     ·cases e;cases e'
      exact .inr ⟨_,_,rfl,h5,h6'⟩
   have HBNN:=Lib.hid hbn
   clear e hbn
   by_cases hcf:c=fr
   ·have hk0:k=0:=by rw [HK.out];omega
    have hCm:Came wr (some ⟨b0,off,none⟩) 0 0 s1:=⟨by rw [hsl];exact hk0,Nat.le_refl _,.inl (by rw [hsl];exact hk0)⟩
    rw [hk0] at HSp
    have HC:=Lib.hid (HSp.out off 0 hCm (HBNN.out _ hCm.lies) _ HG.out.own)
    subst hcf
    obtain rfl:a=c:=by omega
    clear fk hCm
    go_wp2_with fail
    refine (HC.out).mono ?_
    rintro e w4 ⟨v4,rfl,hg4⟩
    have G4:=Lib.hid (HG.out.trans hg4)
    clear hg4
    have hB4:Hid (Below w.heap.size w w4):=Lib.hid (ydC.out.trans ((⟨G4.out.grown.os,G4.out.grown.tape,G4.out.grown.output,G4.out.grown.size,fun k hk=>G4.out.grown.block k hk (by intro e;cases e)⟩:Below W0.heap.size W0 w4).mono ydC.out.size))
    obtain ⟨q4,d4,rfl,-,-⟩:=zE G4.out.own
    obtain ⟨m4,HM4⟩:∃ m4,Hid (m4=R.length):=⟨_,rfl⟩
    have yeJ:Hid (w4.ownsRow w.heap.size 5 1 (.slice q4 R.length d4) R.length (zS R)):=Lib.hid G4.out.own
    rw [← HM4.out] at yeJ ⊢
    go_wp2_with fail
    go_ret2
    exact ⟨hB4.out,_,rfl,by rw [← HM4.out];exact yeJ.out⟩
   ·have ifc':(fr:Int)<(c:Int):=by omega
    have hCm:Came wr (some ⟨b0,off+fr,none⟩) k (c-fr) s1:=⟨hsl,by rw [HK.out];omega,by rw [HS1.out];exact yaA (H.out.lies.below hbw.out) fr (by rw [hlen.out];omega) rfl⟩
    have HC:=Lib.hid (HSp.out _ _ hCm (HBNN.out _ hCm.lies) _ HG.out.own)
    clear hCm
    go_wp2_with fail
    refine (HC.out).mono ?_
    rintro e w4 ⟨v4,rfl,hg4⟩
    have G4:=Lib.hid (HG.out.trans hg4)
    clear hg4
    have hB4:Hid (Below w.heap.size w w4):=Lib.hid (ydC.out.trans ((⟨G4.out.grown.os,G4.out.grown.tape,G4.out.grown.output,G4.out.grown.size,fun k hk=>G4.out.grown.block k hk (by intro e;cases e)⟩:Below W0.heap.size W0 w4).mono ydC.out.size))
    obtain ⟨q4,d4,rfl,-,-⟩:=zE G4.out.own
    obtain ⟨m4,HM4⟩:∃ m4,Hid (m4=R.length):=⟨_,rfl⟩
    have yeJ:Hid (w4.ownsRow w.heap.size 5 1 (.slice q4 R.length d4) R.length (zS R)):=Lib.hid G4.out.own
    rw [← HM4.out] at yeJ ⊢
    go_wp2_with fail
    go_ret2
    exact ⟨hB4.out,_,rfl,by rw [← HM4.out];exact yeJ.out⟩
end
set_option maxHeartbeats 2000000
section
open Go.RowKit Go.Shelf Go.Maps
open Go.Lib
attribute [local go_sem] Oper.semAt_some
theorem ytm (p:Option Addr) (c:Nat) (m:Nat) (lr Bb Bn:Nat) (J Jx:List (Pl 0)→World→Prop) (W:World) (hBb:W.cell? ⟨Bb,0,none⟩=some (.slice p 0 c)) (h0:J [] W) :
  CallsIn Fence.wide m Tryz.prog 226 #[.func (.yield lr) #[] #[],.pointer (some ⟨Bb,0,none⟩),.pointer (some ⟨Bn,0,none⟩)] W fun e W'=>(∃ v,e=.returned v) ∧
   ((∃ ys:List (Pl 0),ys.map (·.1)=List.range 0∧J ys W')∨(∃ pre:List (Pl 0),True∧Jx pre W')):=by
 have H0:=Lib.hid h0
 clear h0
 refine callsIn_of_wp Tryz.func226 rfl trivial ?_ rfl
 simp only [Tryz.ntmps226,List.size_toArray,List.length_cons,List.length_nil,Nat.reduceAdd,Nat.reduceSub,Array.replicate_succ,Array.replicate_zero,List.push_toArray,List.append_toArray,List.nil_append,List.cons_append]
 gi_wp2
 gi_loopw [4] (fun tv wr=>tv=.int .i64 0∧wr=W) (fun _ _=>0)
 case atStart=>exact ⟨rfl,rfl⟩
 case round =>
  obtain ⟨rfl,rfl⟩:=hrel
  gi_wp2
  go_end0
  exact ⟨⟨_,rfl⟩,.inl ⟨[],rfl,H0.out⟩⟩
theorem ygb (p:Option Addr) (c:Nat) (m:Nat) (Bb Bn N0:Nat) (w:World) (hB2:Bb<w.heap.size) (hBb:w.cell? ⟨Bb,0,none⟩=some (.slice p 0 c)) :
  SeqStopsK Fence.wide m Tryz.prog 226 #[.pointer (some ⟨Bb,0,none⟩),.pointer (some ⟨Bn,0,none⟩)] (fun _:Pl 0=>#[.slice p 0 c]) (jO N0 Bn Bb) (fun ys=>ys.map (·.1)=List.range 0) (fun _=>True) 0 w:=fun lr J Jx W hW _ _ _ h0 =>
 ytm p c m lr Bb Bn J Jx W ((hW.cell (p:=⟨Bb,0,none⟩) hB2).trans hBb) h0
theorem ygc (p:Option Addr) (c:Nat) (B:Nat) (w:World) (hB:B≤w.heap.size):Calls Tryz.prog 154 #[.slice none 0 0,.slice p 0 c] w (App B w (.slice none 0 0) (spL [])):=by
 refine (callsIn_wide (n:=9)).1 ?_
 refine callsIn_of_wp_marks Tryz.func154 rfl trivial ?_ rfl
 simp only [Tryz.ntmps154,List.size_toArray,List.length_cons,List.length_nil,Nat.reduceAdd,Nat.reduceSub,Array.replicate_succ,Array.replicate_zero,List.push_toArray,List.append_toArray,List.nil_append,List.cons_append]
 gi_wp2_with (refine ⟨trivial,?_⟩;gi_at_call 193;refine (ylc _ _ _ _ _).mono ?_;rintro e w' ⟨rfl,rfl⟩)
 obtain ⟨W0,hW0⟩:∃ W0,(((w.alloc (.cells #[.slice none 0 0] 39)).alloc (.cells #[.slice p 0 c] 39)).alloc (.cells #[.int .i64 128] 3))=W0:=⟨_,rfl⟩
 have hs0:W0.heap.size=w.heap.size+3:=by rw [← hW0];simp
 have hbe:Below w.heap.size w W0:=by rw [← hW0];exact (((Below.refl _ w).alloc (Nat.le_refl _) _).alloc (by simp) _).alloc (by simp<;>omega) _
 have hO0:W0.heap[w.heap.size]?=some (.cells #[.slice none 0 0] 39 (0,0)):=by
  rw [← hW0];exact (Below.heap_alloc _ _ _ (by simp<;>omega)).trans ((Below.heap_alloc _ _ _ (by simp)).trans (World.alloc_heap_new w _))
 have hI1:W0.heap[w.heap.size+1]?=some (.cells #[.slice p 0 c] 39 (0,0)):=by
  rw [← hW0];refine (Below.heap_alloc _ _ _ (by simp)).trans ?_
  have:=World.alloc_heap_new (w.alloc (.cells #[.slice none 0 0] 39)) (.cells #[.slice p 0 c] 39);rwa [World.size_alloc] at this
 rw [hW0]
 refine wpIn_rangeFunc_ownF rfl (by omega) (gf:=226) (lb:=#[.pointer (some ⟨w.heap.size+1,0,none⟩),.pointer (some ⟨w.heap.size+1+1,0,none⟩)]) rfl trivial (enters_of Tryz.func226 (by kernel_rfl) rfl)
  (ygb p c _ (w.heap.size+1) (w.heap.size+1+1) B W0 (by omega) (by simp [World.cell?,hI1])) jO.trans
  (fun W lo o o' hlo ho hc hw=>⟨(Below.refl _ W).grown (grownBy_putObj' W lo o') (by have:=(Array.getElem?_eq_some_iff.1 ho).1;omega) (fun k e=>by cases e;omega),World.putObj_heap_other (by omega),World.putObj_heap_other (by omega)⟩) (Below.refl _ _) (fun _=>rfl)
  (fun _ W=>Below w.heap.size w W∧W.heap[w.heap.size]?=some (.cells #[.slice none 0 0] 39 (0,0)))
  (fun _ _ _=>False)
  (fun s W W' row h hg hr=>⟨h.1.grown hg h.1.size (fun k e=>by have:=(hr k e).1;omega),(grownBy_keeps_cells hg (fun r e=>(hr r e).2) h.2 rfl).trans h.2⟩)
  (fun _ _ _ _ _ h _ _=>h)
  ⟨hbe,hO0⟩ ?a1 ?assign ?body ?done ?stop
 case assign =>
  intro lo x W K hK
  gi_wp2
  exact hK
 case body =>
  rintro lo pre x W _ h
  exact absurd h (Nat.not_lt_zero _)
 case done =>
  rintro Dd xs W hD hxs ⟨hb,hO⟩ hK
  have cO:W.cell? ⟨w.heap.size,0,none⟩=some (.slice none 0 0):=by simp [World.cell?,hO]
  have hB9:Below w.heap.size w (W.putObj Dd (.deferred none)):=hb.grown (grownBy_putObj' W Dd (.deferred none)) hb.size (fun k e=>by cases e;omega)
  have yD:Grew B w (.slice none 0 0) [] (W.putObj Dd (.deferred none)) (.slice none 0 0):=Grew.of_below (l:=[]) (World.ownsRow_nil w B 5 1) hB9
  clear hb hO hB9
  gi_wp2
  refine ⟨by simp,.inl ⟨_,_,rfl,run_takeDeferred hK,?_⟩⟩
  refine ⟨_,?_,.slice none 0 0,rfl,yD⟩
  simp [results,Tryz.f154,go_sem]
 case stop =>
  rintro D c pre W hD _ h
  exact h.elim
theorem yqe (p:Option Addr) (c:Nat) (w:World):Calls Tryz.prog 152 #[.slice p 0 c] w fun e w1=>Below w.heap.size w w1∧e=.returned (.agg #[.slice p 0 c,.map (some (w.heap.size+1))]):=by
 have hmm:=@run_makeMap Tryz.prog
 obtain ⟨W0,HW0⟩:∃ W0,Hid (((w.alloc (.cells #[.slice none 0 0,.map none] 152)).alloc (.map #[] 0)).alloc (.cells #[.slice p 0 c,.map (some (w.heap.size+1))] 152)=W0):=⟨_,Lib.hid rfl⟩
 have HB0:Hid (Below w.heap.size w W0):=Lib.hid (by
  rw [← HW0.out]
  exact (((Below.refl _ w).alloc (Nat.le_refl _) _).alloc (by simp) _).alloc (by simp;omega) _)
 have HX0:Hid (W0.heap[w.heap.size]?=some (.cells #[.slice none 0 0,.map none] 152 (0,0))∧W0.heap[w.heap.size+1+1]?=some (.cells #[.slice p 0 c,.map (some (w.heap.size+1))] 152 (0,0))):=Lib.hid (by
  rw [← HW0.out]
  constructor
  ·exact (Below.heap_alloc _ _ _ (by simp;omega)).trans ((Below.heap_alloc _ _ _ (by simp)).trans (World.alloc_heap_new w _))
  ·have:=World.alloc_heap_new ((w.alloc (.cells #[.slice none 0 0,.map none] 152)).alloc (.map #[] 0)) (.cells #[.slice p 0 c,.map (some (w.heap.size+1))] 152);rwa [World.size_alloc,World.size_alloc] at this)
 go_enter Tryz.func152,Tryz.ntmps152
 go_wp2_with fail
 rw [HW0.out]
 clear hmm
 go_loopw [4] (fun pv wr=>pv=.int .i64 0∧wr=W0) (fun _ _=>0)
 case atStart=>exact ⟨rfl,rfl⟩
 case round =>
  obtain ⟨rfl,rfl⟩:=hrel
  have c0:wr.cell? ⟨w.heap.size+1+1,0,none⟩=some (.slice p 0 c):=by simp [World.cell?,HX0.out.2]
  have c1:wr.cell? ⟨w.heap.size+1+1,1,none⟩=some (.map (some (w.heap.size+1))):=by simp [World.cell?,HX0.out.2]
  have r0:wr.cell? ⟨w.heap.size,0,none⟩=some (.slice none 0 0):=by simp [World.cell?,HX0.out.1]
  have r1:wr.cell? ⟨w.heap.size,1,none⟩=some (.map none):=by simp [World.cell?,HX0.out.1]
  have z0:wr.frozen? ⟨w.heap.size,0,none⟩=false:=by simp [World.frozen?,HX0.out.1]
  have z1:wr.frozen? ⟨w.heap.size,1,none⟩=false:=by simp [World.frozen?,HX0.out.1]
  have jG:∀ (W:World) (y0 y1 s1 s2:Value),W.heap[w.heap.size]?=some (.cells #[y0,y1] 152 (0,0))→((W.setCell ⟨w.heap.size,0,none⟩ s1).setCell ⟨w.heap.size,1,none⟩ s2).heap[w.heap.size]?=some (.cells #[s1,s2] 152 (0,0)):=fun W y0 y1 s1 s2 h0=>by
   have h1:=setRow_heap W w.heap.size _ (#[y0,y1].setIfInBounds 0 s1) 152 (0,0) h0
   rw [← setCell_eq_setRow W w.heap.size 0 _ 152 (0,0) _ h0] at h1
   have h2:=setRow_heap _ w.heap.size _ ((#[y0,y1].setIfInBounds 0 s1).setIfInBounds 1 s2) 152 (0,0) h1
   rw [← setCell_eq_setRow _ w.heap.size 1 _ 152 (0,0) _ h1] at h2
   exact h2
  have ykA:Hid (Below w.heap.size w ((wr.setCell ⟨w.heap.size,0,none⟩ (.slice p 0 c)).setCell ⟨w.heap.size,1,none⟩ (.map (some (w.heap.size+1))))):=Lib.hid
   ((HB0.out.setCell (p:=⟨w.heap.size,0,none⟩) (Nat.le_refl _) _).setCell (p:=⟨w.heap.size,1,none⟩) (Nat.le_refl _) _)
  have ycT:=Lib.hid (jG wr _ _ (.slice p 0 c) (.map (some (w.heap.size+1))) HX0.out.1)
  clear jG
  go_wp2_with fail
  refine bodyPost_ret (results_cell_row rfl _ _ w.heap.size 152 _ (0,0) _ rfl ycT.out rfl rfl rfl) rfl ?_
  exact ⟨ykA.out,rfl⟩
theorem yqf (p:Option Addr) (c:Nat) (w:World):Calls Tryz.prog 101 #[.slice p 0 c] w (jY (yet []) w):=by
 have HIX:=Lib.hid (yqe p c w)
 have HAP:Hid (∀ W,w.heap.size≤W.heap.size→Calls Tryz.prog 154 #[.slice none 0 0,.slice p 0 c] W (App w.heap.size W (.slice none 0 0) (spL []))):=Lib.hid (fun W h=>ygc p c w.heap.size W h)
 have HE:Hid (yet []=spL []):=Lib.hid rfl
 rw [HE.out]
 obtain ⟨R,HR⟩:∃ R,Hid (R=spL ([]:List UInt8)):=⟨_,rfl⟩
 rw [← HR.out] at HAP ⊢
 clear HE
 go_enter Tryz.func101,Tryz.ntmps101
 go_wp2_with fail
 refine (HIX.out).mono ?_
 rintro e w1 ⟨hb1,rfl⟩
 have zG:=Lib.hid hb1
 clear hb1
 go_wp2_with fail
 have ydC:Hid (Below w.heap.size w (w1.alloc (.cells #[.slice p 0 c,.map (some (w.heap.size+1))] 152))):=Lib.hid (zG.out.trans (((Below.refl _ w1).alloc (Nat.le_refl _) _).mono zG.out.size))
 revert ydC
 generalize w1.alloc (.cells #[.slice p 0 c,.map (some (w.heap.size+1))] 152)=W0
 intro ydC
 go_loopw [5,6,7] (fun ov fv av wr=>ov=.slice none 0 0∧fv=.int .i64 0∧av=.int .i64 0∧wr=W0) (fun _ _ _ _=>0)
 case atStart=>exact ⟨rfl,rfl,rfl,rfl⟩
 case round =>
  obtain ⟨rfl,rfl,rfl,rfl⟩:=hrel
  have HC:=Lib.hid (HAP.out wr ydC.out.size)
  go_wp2_with fail
  refine (HC.out).mono ?_
  rintro e w4 ⟨v4,rfl,hg4⟩
  have hB4:Hid (Below w.heap.size w w4):=Lib.hid (ydC.out.trans ((⟨hg4.grown.os,hg4.grown.tape,hg4.grown.output,hg4.grown.size,fun k hk=>hg4.grown.block k hk (by intro e;cases e)⟩:Below wr.heap.size wr w4).mono ydC.out.size))
  obtain ⟨q4,d4,rfl,-,-⟩:=zE hg4.own
  obtain ⟨m4,HM4⟩:∃ m4,Hid (m4=R.length):=⟨_,rfl⟩
  have yeJ:Hid (w4.ownsRow w.heap.size 5 1 (.slice q4 R.length d4) R.length (zS R)):=Lib.hid hg4.own
  rw [← HM4.out] at yeJ ⊢
  clear hg4
  go_wp2_with fail
  go_ret2
  exact ⟨hB4.out,_,rfl,by rw [← HM4.out];exact yeJ.out⟩
theorem yyq (b0 off len c:Nat) (l:List UInt8) (w:World) (hl:len≤20000) (h:Came w (some ⟨b0,off,none⟩) len c l):Calls Tryz.prog 152 #[.slice (some ⟨b0,off,none⟩) len c] w (ypj l b0 off len c w) :=
 (yp8 b0 off len c l w hl h).mono fun e w1 hI=>by
  obtain ⟨hb,b,base,D,rfl,hG,hO⟩:=hI
  refine ⟨hb,some b,rfl,fun W hW a ha=>?_⟩
  have hC:∀ V,Below w1.heap.size w1 V→Came V (some ⟨b0,off,none⟩) len c l:=fun V hV=>⟨h.hl,h.hc,h.lies.below (hb.trans (hV.mono hb.size))⟩
  refine yj6 b0 off len c a (min 131 (len-a)) (some b) l W hl ha (Lib.hid rfl) (Lib.hid h.hl) (fun V hV n d hst hn=>?_)
  have hV1:=hW.trans (hV.mono hW.size)
  exact ys2 b0 off len c a n d _ b base D l V hl ha (Lib.hid rfl) (hC V hV1) hG (yaY hO hV1) hst hn
theorem yqg (p:Option Addr) (c:Nat) (l:List UInt8) (w:World) (hl:l.length≤20000) (hc:l.length≤c) (hb:Bs w p l):Calls Tryz.prog 101 #[.slice p l.length c] w (jY (yet l) w):=by
 by_cases h0:0<l.length
 ·obtain ⟨b0,off,rfl⟩:∃ b off,p=some ⟨b,off,none⟩:=by
   obtain ⟨b,off,hp,-⟩:=yeb hb h0
   exact ⟨b,off,hp⟩
  have hC:Came w (some ⟨b0,off,none⟩) l.length c l:=⟨rfl,hc,hb⟩
  exact yos b0 off l.length c l w hl hC (yyq b0 off l.length c l w hl hC)
 ·obtain rfl:=List.eq_nil_of_length_eq_zero (Nat.eq_zero_of_not_pos h0)
  exact yqf p c w
end
section
open Go.RowKit
open Go.Lib
theorem ytn {x k:Nat} (h:x<2^k):bl x≤k:=by
 by_cases h64:64≤k
 ·exact Nat.le_trans (yvv x) h64
 ·by_cases h0:x=0
  ·subst h0;show Lib.bitLenAux 64 0≤k;rw [show Lib.bitLenAux 64 0=0 by decide];exact Nat.zero_le _
  ·have hlt:x<2^64:=Nat.lt_of_lt_of_le h (Nat.pow_le_pow_right (by decide) (by omega))
   obtain ⟨h1,h2,-⟩:=Lib.bitLenAux_bounds 64 x hlt h0
   have h3:2^(Lib.bitLenAux 64 x-1)<2^k:=Nat.lt_of_le_of_lt h2 h
   have h4:=(Nat.pow_lt_pow_iff_right (by decide:1<2)).1 h3
   show Lib.bitLenAux 64 x≤k
   omega
theorem yrP {n:Nat}:∀ (k:Nat) (l:List UInt8),∀ x ∈ gl n k l,x<2^(8*n)
 | 0,_,x,h=>by cases h
 | k+1,l,x,h=>by
  unfold gl at h
  rcases List.mem_cons.1 h with rfl|h
  ·have h1:=yeD (l.take n)
   have h2:(l.take n).length≤n:=List.length_take_le _ _
   have e:(256:Nat)=2^8:=rfl
   rw [e,← Nat.pow_mul] at h1
   exact Nat.lt_of_lt_of_le h1 (Nat.pow_le_pow_right (by decide) (by omega))
  ·exact yrP k _ x h
theorem yqh {gs:List Nat} {m:Nat} (h:∀ x ∈ gs,x<2^m):wdL gs≤m:=by
 have h1:mxL gs<2^m:=yd6 gs 0 (Nat.pow_pos (by decide)) h
 exact ytn (Nat.lt_of_le_of_lt (Nat.sub_le _ _) h1)
theorem yqi {l:List UInt8} {n:Nat} (h1:1≤n) (h8:n≤8):(GG l n).length≤l.length+13:=by
 have hk:l.length/n*n≤l.length:=Nat.div_mul_le_self _ _
 have hd:(l.drop (l.length/n*n)).length=l.length-l.length/n*n:=List.length_drop
 unfold GG yku pkB
 rw [List.length_append,hd]
 split
 ·rw [jI];omega
 ·rw [List.length_append,List.length_append,List.length_append,jI,jI,pkF,yaJ,yaD]
  have hw:=yqh (yrP (n:=n) (l.length/n) l)
  have hm:l.length/n*wdL (gl n (l.length/n) l)≤8*(l.length/n*n):=by
   rw [← Nat.mul_assoc,Nat.mul_comm 8,Nat.mul_assoc]
   exact Nat.mul_le_mul_left _ hw
  show 4+n+1+_+_≤_
  omega
def GO (x:Sg) (l:List UInt8):List UInt8:=if x.1=2 then yiK l x.2.1.toNat else if x.1=3 then yaM l x.2.1.toNat else if x.1=5 then GG l x.2.1.toNat else if x.1=4 then yet l else l
def yag (ss:List Sg) (i:Nat) (l:List UInt8):List UInt8:=(ss.take i).foldl (fun l x=>GO x l) l
theorem yix (ss:List Sg) (l:List UInt8):yag ss 0 l=l:=rfl
theorem ydo {ss:List Sg} {i:Nat} (h:i<ss.length) (l:List UInt8):yag ss (i+1) l=GO (ss.getD i (0,0,[])) (yag ss i l):=by
 unfold yag
 rw [List.take_succ_eq_append_getElem h,List.foldl_append,List.getD_eq_getElem?_getD,List.getElem?_eq_getElem h];rfl
def yaB (B:Nat) (L:List UInt8) (w:World) (e:Ending) (w':World):Prop :=
 Below w.heap.size w w'∧∃ v,e=.returned (.tuple #[v,.int .i64 0])∧w'.ownsRow B 5 1 v L.length (zS L)
theorem yeY {W:World} {B B' n:Nat} {v:Value} {xs:List Value} (h:W.ownsRow B' 5 1 v n xs) (hb:B≤B'):W.ownsRow B 5 1 v n xs:=by
 obtain ⟨h1,h2|⟨g,cap,cur,hv,hg,h3⟩⟩:=h
 ·exact ⟨h1,.inl h2⟩
 ·exact ⟨h1,.inr ⟨g,cap,cur,hv,Nat.le_trans hb hg,h3⟩⟩
theorem jY.thr {B:Nat} {L:List UInt8} {w W w':World} {e:Ending} (h:jY L W e w') (hb:Below w.heap.size w W) (hB:B≤w.heap.size):yaB B L w e w':=by
 obtain ⟨h1,v,h2,h3⟩:=h
 exact ⟨hb.trans (h1.mono hb.size),v,h2,yeY h3 (Nat.le_trans hB hb.size)⟩
theorem yq9 (kk:Int) (ff:Nat) (n:Int) (X:ByteArray) (v:Value) (L:List UInt8) (B:Nat) (w:World) (hB:B≤w.heap.size) (hkk:(kk=2∧ff=98)∨(kk=3∧ff=99)∨(kk=5∧ff=100))
  (hc:∀ W,Below w.heap.size w W→Calls Tryz.prog ff #[v,.int .i64 n] W (jY L W)) :
  Calls Tryz.prog 54 #[.agg #[.int .i64 kk,.int .i64 n,.string X],v] w (yaB B L w):=by
 obtain ⟨W1,vK⟩:∃ W1,Hid (w.alloc (.cells #[.int .i64 kk,.int .i64 n,.string X] 45)=W1):=⟨_,Lib.hid rfl⟩
 have zG:Hid (Below w.heap.size w W1):=Lib.hid (by rw [← vK.out];exact (Below.refl _ _).alloc (Nat.le_refl _) _)
 have HC:=Lib.hid (hc W1 zG.out)
 have HBB:=Lib.hid hB
 clear hc hB
 rcases hkk with ⟨rfl,rfl⟩|⟨rfl,rfl⟩|⟨rfl,rfl⟩
 all_goals
  go_enter Tryz.func54,Tryz.ntmps54
  go_wp2_with fail
  try rw [vK.out]
  refine (HC.out).mono ?_
  rintro e w2 ⟨hb2,v2,rfl,ho2⟩
  have HF:Hid (yaB B L w (.returned (.tuple #[v2,.int .i64 0])) w2):=Lib.hid (jY.thr (W:=W1) ⟨hb2,v2,rfl,ho2⟩ zG.out HBB.out)
  clear hb2 ho2
  go_wp2_with fail
  go_ret2
  exact HF.out
theorem yxL (n:Int) (X:ByteArray) (v:Value) (L:List UInt8) (B:Nat) (w:World) (hB:B≤w.heap.size)
  (hc:∀ W,Below w.heap.size w W→Calls Tryz.prog 101 #[v] W (jY L W)) :
  Calls Tryz.prog 54 #[.agg #[.int .i64 4,.int .i64 n,.string X],v] w (yaB B L w):=by
 obtain ⟨W1,vK⟩:∃ W1,Hid (w.alloc (.cells #[.int .i64 4,.int .i64 n,.string X] 45)=W1):=⟨_,Lib.hid rfl⟩
 have zG:Hid (Below w.heap.size w W1):=Lib.hid (by rw [← vK.out];exact (Below.refl _ _).alloc (Nat.le_refl _) _)
 have HC:=Lib.hid (hc W1 zG.out)
 have HBB:=Lib.hid hB
 clear hc hB
 go_enter Tryz.func54,Tryz.ntmps54
 go_wp2_with fail
 try rw [vK.out]
 refine (HC.out).mono ?_
 rintro e w2 ⟨hb2,v2,rfl,ho2⟩
 have HF:Hid (yaB B L w (.returned (.tuple #[v2,.int .i64 0])) w2):=Lib.hid (jY.thr (W:=W1) ⟨hb2,v2,rfl,ho2⟩ zG.out HBB.out)
 clear hb2 ho2
 go_wp2_with fail
 go_ret2
 exact HF.out
theorem yxM (n:Int) (X:ByteArray) (v:Value) (L:List UInt8) (B:Nat) (w:World) (ho:w.ownsRow B 5 1 v L.length (zS L)) :
  Calls Tryz.prog 54 #[.agg #[.int .i64 1,.int .i64 n,.string X],v] w (yaB B L w):=by
 have HF:Hid (yaB B L w (.returned (.tuple #[v,.int .i64 0])) (w.alloc (.cells #[.int .i64 1,.int .i64 n,.string X] 45))):=Lib.hid (by
  have hb:Below w.heap.size w (w.alloc (.cells #[.int .i64 1,.int .i64 n,.string X] 45)):=(Below.refl _ _).alloc (Nat.le_refl _) _
  exact ⟨hb,v,rfl,GK ho hb⟩)
 clear ho
 go_enter Tryz.func54,Tryz.ntmps54
 go_wp2_with fail
 go_ret2
 exact HF.out
theorem ygJ {x:Sg} (h:ydr x=true):(x.1=1∨x.1=4)∨((x.1=2∨x.1=3∨x.1=5)∧1≤x.2.1∧x.2.1≤8):=by
 unfold ydr at h
 by_cases h1:x.1=1
 ·exact .inl (.inl h1)
 ·rw [if_neg h1] at h
  by_cases h2:x.1=2∨x.1=3∨x.1=5
  ·rw [if_pos h2,Bool.and_eq_true] at h
   have h3:=h.1
   unfold gsB at h3
   rw [Bool.and_eq_true,decide_eq_true_eq,decide_eq_true_eq] at h3
   exact .inr ⟨h2,h3⟩
  ·rw [if_neg h2] at h
   by_cases h4:x.1=4
   ·exact .inl (.inr h4)
   ·rw [if_neg h4] at h;cases h
theorem ypk {x:Sg} {l:List UInt8} (h:ydr x=true) (hl:l.length≤10000):(GO x l).length≤l.length+100:=by
 unfold GO
 rcases ygJ h with h1|⟨h2,h3,h4⟩
 ·rw [if_neg (by omega),if_neg (by omega),if_neg (by omega)]
  split
  ·have:=yle l;omega
  ·omega
 ·split
  ·rw [yfw];omega
  ·split
   ·rw [jX];omega
   ·split
    ·have:=yqi (l:=l) (n:=x.2.1.toNat) (by omega) (by omega);omega
    ·split
     ·have:=yle l;omega
     ·omega
theorem ybs {ss:List Sg} {l:List UInt8} (h:∀ i,i<ss.length→ydr (ss.getD i (0,0,[]))=true) (hl:l.length≤9000) (hs:ss.length≤4):∀ i,i≤ss.length→(yag ss i l).length≤l.length+100*i
 | 0,_=>by rw [yix];omega
 | i+1,hi=>by
  have ih:=ybs h hl hs i (by omega)
  rw [ydo (by omega)]
  have:=ypk (l:=yag ss i l) (h i (by omega)) (by omega)
  omega
theorem yfy (x:Sg) (v:Value) (l:List UInt8) (B:Nat) (w:World) (hB:B≤w.heap.size) (hok:ydr x=true) (hl:l.length≤20000) (ho:w.ownsRow B 5 1 v l.length (zS l)) :
  Calls Tryz.prog 54 #[.agg #[.int .i64 x.1,.int .i64 x.2.1,.string ⟨x.2.2.toArray⟩],v] w (yaB B (GO x l) w):=by
 obtain ⟨k,n,s⟩:=x
 obtain ⟨p,c,rfl,hbs,hc⟩:=zE ho
 have hnc:=ybe ho
 rcases ygJ hok with (h1|h4)|⟨h2,h3,h8⟩
 ·have h1:k=1:=h1
  subst h1
  have e:GO (1,n,s) l=l:=by unfold GO;rw [if_neg (by show ¬ (1:Int)=2;decide),if_neg (by show ¬ (1:Int)=3;decide),if_neg (by show ¬ (1:Int)=5;decide),if_neg (by show ¬ (1:Int)=4;decide)]
  rw [e]
  exact yxM n _ _ l B w ho
 ·have h4:k=4:=h4
  subst h4
  have e:GO (4,n,s) l=yet l:=by unfold GO;rw [if_neg (by show ¬ (4:Int)=2;decide),if_neg (by show ¬ (4:Int)=3;decide),if_neg (by show ¬ (4:Int)=5;decide),if_pos (by show (4:Int)=4;rfl)]
  rw [e]
  exact yxL n _ _ _ B w hB (fun W hW=>yqg p c l W hl hc (hbs.below hW))
 ·have h3:1≤n:=h3
  have h8:n≤8:=h8
  obtain ⟨m,rfl⟩:∃ m:Nat,n=m:=⟨n.toNat,by omega⟩
  have m1:1≤m:=by omega
  have m8:m≤8:=by omega
  have h2:k=2∨k=3∨k=5:=h2
  rcases h2 with rfl|rfl|rfl
  ·have e:GO (2,(m:Int),s) l=yiK l m:=by unfold GO;rw [if_pos (by show (2:Int)=2;rfl)];rfl
   rw [e]
   exact yq9 2 98 m _ _ _ B w hB (.inl ⟨rfl,rfl⟩) (fun W hW=>ysT p c m l W m1 m8 hl hc hnc (hbs.below hW))
  ·have e:GO (3,(m:Int),s) l=yaM l m:=by unfold GO;rw [if_neg (by show ¬ (3:Int)=2;decide),if_pos (by show (3:Int)=3;rfl)];rfl
   rw [e]
   exact yq9 3 99 m _ _ _ B w hB (.inr (.inl ⟨rfl,rfl⟩)) (fun W hW=>yoc p c m l W m1 m8 hl (hbs.below hW))
  ·have e:GO (5,(m:Int),s) l=GG l m:=by unfold GO;rw [if_neg (by show ¬ (5:Int)=2;decide),if_neg (by show ¬ (5:Int)=3;decide),if_pos (by show (5:Int)=5;rfl)];rfl
   rw [e]
   exact yq9 5 100 m _ _ _ B w hB (.inr (.inr ⟨rfl,rfl⟩)) (fun W hW=>ylb p c m l.length l W (Lib.hid rfl) m1 m8 (by omega) (Lib.hid hc) (Lib.hid hnc) (hbs.below hW))
end
end Go.Proofs.YtgepehlpjpccaaaGreatDoor
