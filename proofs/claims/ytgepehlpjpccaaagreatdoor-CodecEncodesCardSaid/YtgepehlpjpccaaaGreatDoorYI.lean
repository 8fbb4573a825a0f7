/- Contracts. -/
import Derived.Test.YtgepehlpjpccaaaGreatDoorWFT
set_option maxHeartbeats 4000000
set_option maxRecDepth 100000
namespace Go.Proofs.YtgepehlpjpccaaaGreatDoor
section
open Go.RowKit
open Go.Lib
def yqd (l:Lb) (b0 off len c:Nat) (w:World) (e:Ending) (w1:World):Prop:=Be w w1∧∃ mo:Option Nat,e=.returned (.agg #[.slice (some ⟨b0,off,none⟩) len c,.map mo]) ∧
 ∀ W,Be w1 W→∀ a,a<len→Calls Tryz.prog 153 #[.agg #[.slice (some ⟨b0,off,none⟩) len c,.map mo],.int .i64 (a:Int)] W (ydM l a W)
theorem yjc (B b0 off len c:Nat) (v0:Value) (D0 l:Lb) (w:World) (hl:len≤20000) (hD0:D0.length≤100000) (hB:B≤w.heap.size) (yR:w.ownsRow B 5 1 v0 D0.length (zG D0)) (hbs:BsN B w (some ⟨b0,off,none⟩) l) (hC:Came w (some ⟨b0,off,none⟩) len c l) :
  Calls Tryz.prog 154 #[v0,.slice (some ⟨b0,off,none⟩) len c] w (App B w v0 (D0++spL l)) :=
 yfR B b0 off len c v0 D0 l w (h_ hC.hl.symm) hl hC.hc hD0 hB yR hbs
theorem ypm (b0 off len c:Nat) (l:Lb) (w:World) (hl:len≤20000) (h:Came w (some ⟨b0,off,none⟩) len c l) (hidx:Calls Tryz.prog 152 #[.slice (some ⟨b0,off,none⟩) len c] w (yqd l b0 off len c w)) :
  Calls Tryz.prog 101 #[.slice (some ⟨b0,off,none⟩) len c] w (zR (ybP l) w):=by
 have H:=h_ h
 have HIDX:=h_ hidx
 have HBN:Hid (BsN w.heap.size w (some ⟨b0,off,none⟩) l):=h_ h.lies.bsN
 have il:(len:Int)≤20000:=by omega
 have HL:=h_ hl
 have hc:=h.hc
 have ic:(len:Int)≤(c:Int):=by omega
 have hlen:=h_ h.hl
 obtain ⟨R,HR⟩:=ey (ybP l)
 rw [← HR.out]
 have HG0:Hid (Grew w.heap.size w (.slice none 0 0) [] w (.slice none 0 0)):=h_ (Grew.refl (l:=[]) (World.ownsRow_nil w w.heap.size 5 1))
 clear h hl hidx
 go_in
 go_wp2_with fail
 refine (HIDX.out).mono ?_
 rintro e w1 ⟨hb1,mo,rfl,hlong⟩
 have HLONG:=h_ hlong
 have yX:=h_ hb1
 have HBX:Hid (Be w1 (w1.alloc (.cells #[.slice (some ⟨b0,off,none⟩) len c,.map mo] 152))):=h_ ((Below.refl _ w1).alloc nl _)
 have ydV:Hid ((w1.alloc (.cells #[.slice (some ⟨b0,off,none⟩) len c,.map mo] 152)).heap[w1.heap.size]?=some (.cells #[.slice (some ⟨b0,off,none⟩) len c,.map mo] 152 (0,0))):=h_ (World.alloc_heap_new w1 _)
 have hs1:w1.heap.size<(w1.alloc (.cells #[.slice (some ⟨b0,off,none⟩) len c,.map mo] 152)).heap.size:=by simp
 clear hb1 hlong
 go_wp2_with fail
 revert HBX ydV hs1
 generalize w1.alloc (.cells #[.slice (some ⟨b0,off,none⟩) len c,.map mo] 152)=W0
 intro HBX ydV hs1
 have HG0:Hid (Grew w.heap.size W0 (.slice none 0 0) [] W0 (.slice none 0 0)):=h_ (Grew.refl (l:=[]) (World.ownsRow_nil W0 w.heap.size 5 1))
 have ydX:Hid (Be w W0):=h_ (tr yX.out HBX.out)
 go_loopw [5,6,7] (fun ov fv av wr=>∃ (f fr a:Nat) (D:Lb),fr≤a∧a≤len∧fv=.int .i64 fr∧av=.int .i64 a∧Hid (len-a≤f)∧Hid (D++dcF l f fr a=R)∧Hid (D.length≤2*fr)∧Hid (Grew w.heap.size W0 (.slice none 0 0) D wr ov)) (fun _ _ av _=>len-(Go.RowKit.intOf av).toNat)
 case atStart=>exact ⟨len,0,0,[],Nat.le_refl _,Nat.zero_le _,rfl,rfl,h_ nl,h_ (by rw [HR.out,ybP,hlen.out];rfl),h_ (Nat.zero_le _),HG0⟩
 case round =>
  obtain ⟨f,fr,a,D,hfa,hal,rfl,rfl,HF,HD,HDL,HG⟩:=hrel
  have hbW:Hid (Be W0 wr):=h_ (HG.out.grown |> fun g=>⟨g.os,g.tape,g.output,g.size,fun k hk=>g.block k hk (by intro e;cases e)⟩)
  have hbw:Hid (Be w wr):=h_ (tr ydX.out hbW.out)
  have ia:(a:Int)≤(len:Int):=by omega
  have ifr:(fr:Int)≤(a:Int):=by omega
  have yaV:=(hbW.out.block w1.heap.size hs1).trans ydV.out
  have c0:wr.cell? ⟨w1.heap.size,0,none⟩=some (.slice (some ⟨b0,off,none⟩) len c):=by simp [World.cell?,yaV]
  have c1:wr.cell? ⟨w1.heap.size,1,none⟩=some (.map mo):=by simp [World.cell?,yaV]
  clear yaV
  by_cases hlt:a<len
  ·have ilt:(a:Int)<(len:Int):=by omega
   have HLg:=h_ (HLONG.out wr (HBX.out.trans (hbW.out.mono (Nat.le_of_lt hs1))) a hlt)
   obtain ⟨f1,rfl⟩:∃ f1,f=f1+1:=⟨f-1,by have:=HF.out;omega⟩
   go_wp2_with fail
   refine (HLg.out).mono ?_
   rintro e w2 ⟨hb2,⟨GW,rfl⟩|⟨hge,rfl⟩⟩
   ·have G2:=h_ (HG.out.trans (Grew.of_below HG.out.own hb2))
    have jE:Hid (D++dcF l f1 fr (a+1)=R):=h_ (by rw [← HD.out,dcF,if_pos (by rw [hlen.out];exact hlt),if_pos GW])
    clear hb2 GW
    go_wp2
    go_roundw
    case rel=>exact ⟨f1,fr,a+1,D,by omega,by omega,rfl,by go_num,h_ (by have:=HF.out;omega),jE,HDL,G2⟩
    case measure=>simp [Go.RowKit.intOf];omega
   ·obtain ⟨n,HN⟩:=ey ((jH l a a).1)
    obtain ⟨d,HDd⟩:=ey ((jH l a a).2)
    rw [← HN.out] at hge ⊢
    rw [← HDd.out]
    have hn4:¬ n<4:=by omega
    have ysi:n≤131:=by rw [HN.out];exact (ycO l a a).1
    have hda:d≤a:=by rw [HDd.out];exact (ycO l a a).2
    have ycd:a+n≤len:=by rw [HN.out,← hlen.out];exact ycC l a (by rw [hlen.out];exact hal) a
    have in131:(n:Int)≤131:=by omega
    have id1000:(d:Int)≤20000:=by have:=HL.out;omega
    have in4:¬ (n:Int)=0:=by omega
    have in4b:((n:Int)==0)=false:=by rw [beq_eq_false_iff_ne];exact in4
    have in4c:4≤(n:Int):=by omega
    have G2:=h_ (HG.out.trans (Grew.of_below HG.out.own hb2))
    have hB2:=th hbw hb2
    clear hb2
    obtain ⟨k,HK⟩:=ey (a-fr)
    have fk:a-fr=k:=HK.out.symm
    have ifc:(fr:Int)<(c:Int):=by omega
    have iac:(a:Int)≤(c:Int):=by omega
    obtain ⟨s1,HS1⟩:=ey ((l.drop fr).take k)
    have hs1':Came w2 (some ⟨b0,off+fr,none⟩) k (c-fr) s1:=⟨by rw [HS1.out,List.length_take,List.length_drop,hlen.out,HK.out];omega,by rw [HK.out];omega,by rw [HS1.out];exact yaB (H.out.lies.below hB2.out) fr k (by rw [hlen.out,HK.out];omega) rfl⟩
    have hsn:BsN w.heap.size w2 (some ⟨b0,off+fr,none⟩) s1:=by
     rcases HBN.out.keep hB2.out with h0|⟨b,o,e,h5,h6⟩
     ·exact .inl (by rw [HS1.out,List.length_take,List.length_drop,h0];omega)
     ·rcases hs1'.lies with h0|⟨b',o',e',h5',h6'⟩
      ·exact .inl h0
      ·cases e;cases e'
       exact .inr ⟨_,_,rfl,h5,h6'⟩
    have hDl:D.length≤40000:=by have:=HDL.out;have:=HL.out;omega
    have HSp:=h_ (yjc w.heap.size b0 (off+fr) k (c-fr) _ D s1 w2 (by rw [HK.out];have:=HL.out;omega) (by omega) hB2.out.size G2.out.own hsn hs1')
    have yhX:Hid ((spL s1).length≤2*k):=h_ (by have:=ygt k s1 (by rw [hs1'.hl];exact Nat.le_refl _);rwa [hs1'.hl] at this)
    have jE:Hid (D++(spL s1++(tok n d++dcF l f1 (a+n) (a+n)))=R):=h_ (by rw [← HD.out,dcF,if_pos (by rw [hlen.out];exact hlt),← HN.out,if_neg hn4,← HDd.out,HS1.out,HK.out])
    clear hs1' hsn
    go_wp2_with fail
    refine (HSp.out).mono ?_
    rintro e w4 ⟨v4,rfl,hg4⟩
    obtain ⟨S,HS⟩:=ey (spL s1)
    rw [← HS.out] at hg4 yhX jE
    obtain ⟨D4,HD4⟩:=ey (D++S)
    rw [← HD4.out] at hg4
    have G4:=h_ (G2.out.trans hg4)
    clear hg4
    have hB4:Hid (Be w w4):=h_ (ydX.out.trans ((⟨G4.out.grown.os,G4.out.grown.tape,G4.out.grown.output,G4.out.grown.size,fun k hk=>G4.out.grown.block k hk (by intro e;cases e)⟩:Be W0 w4).mono ydX.out.size))
    have hD4:Hid (D4.length≤2*a):=h_ (by
     have h1:=HDL.out
     have h2:=yhX.out
     rw [HD4.out,List.length_append];rw [HK.out] at h2;omega)
    obtain ⟨x,HX⟩:∃ x:UInt8,Hid (x=UInt8.ofNat (124+n)):=⟨_,rfl⟩
    obtain ⟨y,HY⟩:∃ y:UInt8,Hid (y=UInt8.ofNat (d/256)):=⟨_,rfl⟩
    obtain ⟨z,HZ⟩:∃ z:UInt8,Hid (z=UInt8.ofNat (d%256)):=⟨_,rfl⟩
    have hx:x.toNat=124+n:=by rw [HX.out,UInt8.toNat_ofNat'];omega
    have hy:y.toNat=d/256:=by rw [HY.out,UInt8.toNat_ofNat'];omega
    have hz:z.toNat=d%256:=by rw [HZ.out,UInt8.toNat_ofNat'];omega
    have G4a:=h_ (G4.out.trans (Grew.of_below G4.out.own ((Below.refl _ w4).alloc nl (.cells #[.int .u8 (128+(n:Int)-4),.int .u8 ((d:Int)/256),.int .u8 ((d:Int)%256)] 5))))
    have htk:Hid (Bs (w4.alloc (.cells #[.int .u8 (128+(n:Int)-4),.int .u8 ((d:Int)/256),.int .u8 ((d:Int)%256)] 5)) (some ⟨w4.heap.size,0,none⟩) [x,y,z]):=h_ (by
     have h:=ysS w4 x y z
     rwa [show ((x.toNat:Nat):Int)=128+(n:Int)-4 by omega,show ((y.toNat:Nat):Int)=(d:Int)/256 by omega,show ((z.toNat:Nat):Int)=(d:Int)%256 by omega] at h)
    have yju:Hid (D4.length+3≤140737488355328∧w.heap.size≤(w4.alloc (.cells #[.int .u8 (128+(n:Int)-4),.int .u8 ((d:Int)/256),.int .u8 ((d:Int)%256)] 5)).heap.size):=h_ ⟨by have:=hD4.out;have:=HL.out;omega,by have:=hB4.out.size;simp;omega⟩
    have yxB:Hid (tok n d=[x,y,z]):=h_ (by rw [tok,HX.out,HY.out,HZ.out])
    clear hx hy hz
    go_wp2_with (at_builtin;refine yG rfl (.tmp 35) (.tmp 45) rfl w.heap.size v4 D4.length D4 rfl rfl G4a.out.own _ 3 3 [x,y,z] rfl rfl htk.out yju.out.1 yju.out.2 ?_)
    intro v5 w5 hg5
    have G5:=h_ (G4a.out.trans hg5)
    clear hg5
    obtain ⟨an,HAN⟩:=ey (a+n)
    have han:(a:Int)+(n:Int)=(an:Int):=by rw [HAN.out];omega
    have yu7:an≤len:=by rw [HAN.out];exact ycd
    have yxA:(an:Int)≤20000:=by omega
    have hD5:Hid ((D4++[x,y,z])++dcF l f1 an an=R):=h_ (by rw [← jE.out,HD4.out,yxB.out,HAN.out];simp only [List.append_assoc])
    have ynK:Hid ((D4++[x,y,z]).length≤2*an):=h_ (by
     have h1:=hD4.out
     rw [List.length_append];show D4.length+3≤_
     rw [HAN.out];omega)
    go_wp2
    go_roundw
    case rel=>exact ⟨f1,an,an,D4++[x,y,z],Nat.le_refl _,yu7,rfl,rfl,h_ (by have:=HF.out;rw [HAN.out];omega),hD5,ynK,G5⟩
    case measure=>simp [Go.RowKit.intOf];rw [HAN.out];omega
  ·obtain rfl:a=len:=by omega
   have hnl:¬ a<l.length:=by rw [hlen.out];omega
   have e:=HD.out
   rw [ygu hnl] at e
   have ilt:¬ (a:Int)<(a:Int):=by omega
   have ifc:(fr:Int)≤(c:Int):=by omega
   obtain ⟨k,HK⟩:=ey (a-fr)
   have fk:a-fr=k:=HK.out.symm
   obtain ⟨s1,HS1⟩:=ey (l.drop fr)
   rw [← HS1.out] at e
   have hsl:s1.length=k:=by rw [HS1.out,List.length_drop,hlen.out,HK.out]
   have hDl:D.length≤40000:=by have:=HDL.out;have:=HL.out;omega
   have HE:=h_ e
   have HSp:Hid (∀ o1 c1,Came wr (some ⟨b0,o1,none⟩) k c1 s1→BsN w.heap.size wr (some ⟨b0,o1,none⟩) s1→∀ v,wr.ownsRow w.heap.size 5 1 v D.length (zG D)→Calls Tryz.prog 154 #[v,.slice (some ⟨b0,o1,none⟩) k c1] wr (App w.heap.size wr v R)):=h_ (fun o1 c1 h1 h2 v hv=>by
    have:=yjc w.heap.size b0 o1 k c1 v D s1 wr (by rw [HK.out];have:=HL.out;omega) (by omega) hbw.out.size hv h2 h1
    rwa [HE.out] at this)
   have hbn:∀ o1,Bs wr (some ⟨b0,o1,none⟩) s1→BsN w.heap.size wr (some ⟨b0,o1,none⟩) s1:=fun o1 h=>by
    rcases h with h0|⟨b',o',e',h5',h6'⟩
    ·exact .inl h0
    ·rcases HBN.out.keep hbw.out with h0|⟨b,o,e,h5,h6⟩
     ·exact .inl (by rw [HS1.out,List.length_drop,h0];omega)
     ·cases e;cases e'
      exact .inr ⟨_,_,rfl,h5,h6'⟩
   have HBNN:=h_ hbn
   clear e hbn
   by_cases hcf:c=fr
   ·have hk0:k=0:=by rw [HK.out];omega
    have hCm:Came wr (some ⟨b0,off,none⟩) 0 0 s1:=⟨by rw [hsl];exact hk0,Nat.le_refl _,.inl (by rw [hsl];exact hk0)⟩
    rw [hk0] at HSp
    have HC:=h_ (HSp.out off 0 hCm (HBNN.out _ hCm.lies) _ HG.out.own)
    subst hcf
    obtain rfl:a=c:=by omega
    clear fk hCm
    go_wp2_with fail
    refine (HC.out).mono ?_
    rintro e w4 ⟨v4,rfl,hg4⟩
    have G4:=h_ (HG.out.trans hg4)
    clear hg4
    have hB4:Hid (Be w w4):=h_ (ydX.out.trans ((⟨G4.out.grown.os,G4.out.grown.tape,G4.out.grown.output,G4.out.grown.size,fun k hk=>G4.out.grown.block k hk (by intro e;cases e)⟩:Be W0 w4).mono ydX.out.size))
    obtain ⟨q4,d4,rfl,-,-⟩:=yS G4.out.own
    obtain ⟨m4,HM4⟩:=ey (R.length)
    have yfk:Hid (w4.ownsRow w.heap.size 5 1 (.slice q4 R.length d4) R.length (zG R)):=h_ G4.out.own
    rw [← HM4.out] at yfk ⊢
    go_wp2
    go_ret2
    exact ⟨hB4.out,_,rfl,by rw [← HM4.out];exact yfk.out⟩
   ·have ifc':(fr:Int)<(c:Int):=by omega
    have hCm:Came wr (some ⟨b0,off+fr,none⟩) k (c-fr) s1:=⟨hsl,by rw [HK.out];omega,by rw [HS1.out];exact GZ (H.out.lies.below hbw.out) fr (by rw [hlen.out];omega) rfl⟩
    have HC:=h_ (HSp.out _ _ hCm (HBNN.out _ hCm.lies) _ HG.out.own)
    clear hCm
    go_wp2_with fail
    refine (HC.out).mono ?_
    rintro e w4 ⟨v4,rfl,hg4⟩
    have G4:=h_ (HG.out.trans hg4)
    clear hg4
    have hB4:Hid (Be w w4):=h_ (ydX.out.trans ((⟨G4.out.grown.os,G4.out.grown.tape,G4.out.grown.output,G4.out.grown.size,fun k hk=>G4.out.grown.block k hk (by intro e;cases e)⟩:Be W0 w4).mono ydX.out.size))
    obtain ⟨q4,d4,rfl,-,-⟩:=yS G4.out.own
    obtain ⟨m4,HM4⟩:=ey (R.length)
    have yfk:Hid (w4.ownsRow w.heap.size 5 1 (.slice q4 R.length d4) R.length (zG R)):=h_ G4.out.own
    rw [← HM4.out] at yfk ⊢
    go_wp2
    go_ret2
    exact ⟨hB4.out,_,rfl,by rw [← HM4.out];exact yfk.out⟩
end
section
open Go.RowKit Go.Shelf Go.Maps
open Go.Lib
attribute [local go_sem] Oper.semAt_some
theorem yuY (p:Oa) (c:Nat) (m:Nat) (lr Bb Bn:Nat) (J Jx:List (Pl 0)→World→Prop) (W:World) (hBb:W.cell? ⟨Bb,0,none⟩=some (.slice p 0 c)) (h0:J [] W) :
  CallsIn Fence.wide m Tryz.prog 226 #[.func (.yield lr) #[] #[],.pointer (some ⟨Bb,0,none⟩),.pointer (some ⟨Bn,0,none⟩)] W fun e W'=>(∃ v,e=.returned v) ∧
   ((∃ ys:List (Pl 0),ys.map (·.1)=List.range 0∧J ys W')∨(∃ pre:List (Pl 0),True∧Jx pre W')):=by
 have H0:=h_ h0
 clear h0
 refine callsIn_of_wp Tryz.func226 rfl trivial ?_ rfl
 simp only [Tryz.ntmps226,List.size_toArray,List.length_cons,List.length_nil,Nat.reduceAdd,Nat.reduceSub,Array.replicate_succ,Array.replicate_zero,List.push_toArray,List.append_toArray,List.nil_append,List.cons_append]
 gi_wp2
 gi_loopw [4] (fun tv wr=>tv=.int .i64 0∧wr=W) (fun _ _=>0)
 case atStart=>exact ⟨rfl,rfl⟩
 case round =>
  obtain ⟨rfl,rfl⟩:=hrel
  gi_wp2
  go_end0
  exact ⟨⟨_,rfl⟩,.inl ⟨[],rfl,H0.out⟩⟩
theorem ygK (p:Oa) (c:Nat) (m:Nat) (Bb Bn N0:Nat) (w:World) (hB2:Bb<w.heap.size) (hBb:w.cell? ⟨Bb,0,none⟩=some (.slice p 0 c)) :
  SeqStopsK Fence.wide m Tryz.prog 226 #[.pointer (some ⟨Bb,0,none⟩),.pointer (some ⟨Bn,0,none⟩)] (fun _:Pl 0=>#[.slice p 0 c]) (vF N0 Bn Bb) (fun ys=>ys.map (·.1)=List.range 0) (fun _=>True) 0 w:=fun lr J Jx W hW _ _ _ h0 =>
 yuY p c m lr Bb Bn J Jx W ((hW.cell (p:=⟨Bb,0,none⟩) hB2).trans hBb) h0
theorem ygL (p:Oa) (c:Nat) (B:Nat) (w:World) (hB:B≤w.heap.size):Calls Tryz.prog 154 #[.slice none 0 0,.slice p 0 c] w (App B w (.slice none 0 0) (spL [])):=by
 refine (callsIn_wide (n:=9)).1 ?_
 refine callsIn_of_wp_marks Tryz.func154 rfl trivial ?_ rfl
 simp only [Tryz.ntmps154,List.size_toArray,List.length_cons,List.length_nil,Nat.reduceAdd,Nat.reduceSub,Array.replicate_succ,Array.replicate_zero,List.push_toArray,List.append_toArray,List.nil_append,List.cons_append]
 gi_wp2_with (refine ⟨trivial,?_⟩;gi_at_call 193;refine (ylP _ _ _ _ _).mono ?_;rintro e w' ⟨rfl,rfl⟩)
 obtain ⟨W0,hW0⟩:∃ W0,(((w.alloc (.cells #[.slice none 0 0] 39)).alloc (.cells #[.slice p 0 c] 39)).alloc (.cells #[.int .i64 128] 3))=W0:=⟨_,rfl⟩
 have hs0:W0.heap.size=w.heap.size+3:=by rw [← hW0];simp
 have hbe:Be w W0:=by rw [← hW0];exact (((Below.refl _ w).alloc nl _).alloc (by simp) _).alloc (by simp<;>omega) _
 have hO0:W0.heap[w.heap.size]?=some (.cells #[.slice none 0 0] 39 (0,0)):=by
  rw [← hW0];exact (Below.heap_alloc _ _ _ (by simp<;>omega)).trans ((Below.heap_alloc _ _ _ (by simp)).trans (World.alloc_heap_new w _))
 have hI1:W0.heap[w.heap.size+1]?=some (.cells #[.slice p 0 c] 39 (0,0)):=by
  rw [← hW0];refine (Below.heap_alloc _ _ _ (by simp)).trans ?_
  have:=World.alloc_heap_new (w.alloc (.cells #[.slice none 0 0] 39)) (.cells #[.slice p 0 c] 39);rwa [World.size_alloc] at this
 rw [hW0]
 refine wpIn_rangeFunc_ownF rfl (by omega) (gf:=226) (lb:=#[.pointer (some ⟨w.heap.size+1,0,none⟩),.pointer (some ⟨w.heap.size+1+1,0,none⟩)]) rfl trivial (enters_of Tryz.func226 (by kernel_rfl) rfl)
  (ygK p c _ (w.heap.size+1) (w.heap.size+1+1) B W0 (by omega) (by simp [World.cell?,hI1])) vF.trans
  (fun W lo o o' hlo ho hc hw=>⟨(Below.refl _ W).grown (grownBy_putObj' W lo o') (by have:=(Array.getElem?_eq_some_iff.1 ho).1;omega) (fun k e=>by cases e;omega),World.putObj_heap_other (by omega),World.putObj_heap_other (by omega)⟩) bR (fun _=>rfl)
  (fun _ W=>Be w W∧W.heap[w.heap.size]?=some (.cells #[.slice none 0 0] 39 (0,0)))
  (fun _ _ _=>False)
  (fun s W W' row h hg hr=>⟨h.1.grown hg h.1.size (fun k e=>by have:=(hr k e).1;omega),(grownBy_keeps_cells hg (fun r e=>(hr r e).2) h.2 rfl).trans h.2⟩)
  (fun _ _ _ _ _ h _ _=>h)
  ⟨hbe,hO0⟩ ?a1 ?assign ?body ?done ?stop
 case assign =>
  intro lo x W K hK
  gi_wp2
  exact hK
 case body =>
  rintro lo pre x W _ h
  exact absurd h (Nat.not_lt_zero _)
 case done =>
  rintro Dd xs W hD hxs ⟨hb,hO⟩ hK
  have cO:W.cell? ⟨w.heap.size,0,none⟩=some (.slice none 0 0):=by simp [World.cell?,hO]
  have hB9:Be w (W.putObj Dd (.deferred none)):=hb.grown (grownBy_putObj' W Dd (.deferred none)) hb.size (fun k e=>by cases e;omega)
  have yD:Grew B w (.slice none 0 0) [] (W.putObj Dd (.deferred none)) (.slice none 0 0):=Grew.of_below (l:=[]) (World.ownsRow_nil w B 5 1) hB9
  clear hb hO hB9
  gi_wp2
  refine ⟨by simp,.inl ⟨_,_,rfl,run_takeDeferred hK,?_⟩⟩
  refine ⟨_,?_,.slice none 0 0,rfl,yD⟩
  simp [results,Tryz.f154,go_sem]
 case stop =>
  rintro D c pre W hD _ h
  exact h.elim
theorem yrv (p:Oa) (c:Nat) (w:World):Calls Tryz.prog 152 #[.slice p 0 c] w fun e w1=>Be w w1∧e=.returned (.agg #[.slice p 0 c,.map (some (w.heap.size+1))]):=by
 have hmm:=@run_makeMap Tryz.prog
 obtain ⟨W0,HW0⟩:∃ W0,Hid (((w.alloc (.cells #[.slice none 0 0,.map none] 152)).alloc (.map #[] 0)).alloc (.cells #[.slice p 0 c,.map (some (w.heap.size+1))] 152)=W0):=⟨_,h_ rfl⟩
 have GU:Hid (Be w W0):=h_ (by
  rw [← HW0.out]
  exact (((Below.refl _ w).alloc nl _).alloc (by simp) _).alloc (by simp;omega) _)
 have HX0:Hid (W0.heap[w.heap.size]?=some (.cells #[.slice none 0 0,.map none] 152 (0,0))∧W0.heap[w.heap.size+1+1]?=some (.cells #[.slice p 0 c,.map (some (w.heap.size+1))] 152 (0,0))):=h_ (by
  rw [← HW0.out]
  constructor
  ·exact (Below.heap_alloc _ _ _ (by simp;omega)).trans ((Below.heap_alloc _ _ _ (by simp)).trans (World.alloc_heap_new w _))
  ·have:=World.alloc_heap_new ((w.alloc (.cells #[.slice none 0 0,.map none] 152)).alloc (.map #[] 0)) (.cells #[.slice p 0 c,.map (some (w.heap.size+1))] 152);rwa [World.size_alloc,World.size_alloc] at this)
 go_in
 go_wp2_with fail
 rw [HW0.out]
 clear hmm
 go_loopw [4] (fun pv wr=>pv=.int .i64 0∧wr=W0) (fun _ _=>0)
 case atStart=>exact ⟨rfl,rfl⟩
 case round =>
  obtain ⟨rfl,rfl⟩:=hrel
  have c0:wr.cell? ⟨w.heap.size+1+1,0,none⟩=some (.slice p 0 c):=by simp [World.cell?,HX0.out.2]
  have c1:wr.cell? ⟨w.heap.size+1+1,1,none⟩=some (.map (some (w.heap.size+1))):=by simp [World.cell?,HX0.out.2]
  have r0:wr.cell? ⟨w.heap.size,0,none⟩=some (.slice none 0 0):=by simp [World.cell?,HX0.out.1]
  have r1:wr.cell? ⟨w.heap.size,1,none⟩=some (.map none):=by simp [World.cell?,HX0.out.1]
  have z0:wr.frozen? ⟨w.heap.size,0,none⟩=false:=by simp [World.frozen?,HX0.out.1]
  have z1:wr.frozen? ⟨w.heap.size,1,none⟩=false:=by simp [World.frozen?,HX0.out.1]
  have vB:∀ (W:World) (y0 y1 s1 s2:Value),W.heap[w.heap.size]?=some (.cells #[y0,y1] 152 (0,0))→((W.setCell ⟨w.heap.size,0,none⟩ s1).setCell ⟨w.heap.size,1,none⟩ s2).heap[w.heap.size]?=some (.cells #[s1,s2] 152 (0,0)):=fun W y0 y1 s1 s2 h0=>by
   have h1:=setRow_heap W w.heap.size _ (#[y0,y1].setIfInBounds 0 s1) 152 (0,0) h0
   rw [← setCell_eq_setRow W w.heap.size 0 _ 152 (0,0) _ h0] at h1
   have h2:=setRow_heap _ w.heap.size _ ((#[y0,y1].setIfInBounds 0 s1).setIfInBounds 1 s2) 152 (0,0) h1
   rw [← setCell_eq_setRow _ w.heap.size 1 _ 152 (0,0) _ h1] at h2
   exact h2
  have yk3:Hid (Be w ((wr.setCell ⟨w.heap.size,0,none⟩ (.slice p 0 c)).setCell ⟨w.heap.size,1,none⟩ (.map (some (w.heap.size+1))))):=h_
   ((GU.out.setCell (p:=⟨w.heap.size,0,none⟩) nl _).setCell (p:=⟨w.heap.size,1,none⟩) nl _)
  have ydi:=h_ (vB wr _ _ (.slice p 0 c) (.map (some (w.heap.size+1))) HX0.out.1)
  clear vB
  go_wp2
  refine bodyPost_ret (results_cell_row rfl _ _ w.heap.size 152 _ (0,0) _ rfl ydi.out rfl rfl rfl) rfl ?_
  exact ⟨yk3.out,rfl⟩
theorem yrw (p:Oa) (c:Nat) (w:World):Calls Tryz.prog 101 #[.slice p 0 c] w (zR (ybP []) w):=by
 have HIX:=h_ (yrv p c w)
 have HAP:Hid (∀ W,w.heap.size≤W.heap.size→Calls Tryz.prog 154 #[.slice none 0 0,.slice p 0 c] W (App w.heap.size W (.slice none 0 0) (spL []))):=h_ (fun W h=>ygL p c w.heap.size W h)
 have HE:Hid (ybP []=spL []):=h_ rfl
 rw [HE.out]
 obtain ⟨R,HR⟩:=ey (spL ([]:Lb))
 rw [← HR.out] at HAP ⊢
 clear HE
 go_in
 go_wp2_with fail
 refine (HIX.out).mono ?_
 rintro e w1 ⟨hb1,rfl⟩
 have yX:=h_ hb1
 clear hb1
 go_wp2_with fail
 have ydX:Hid (Be w (w1.alloc (.cells #[.slice p 0 c,.map (some (w.heap.size+1))] 152))):=h_ (yX.out.trans (((Below.refl _ w1).alloc nl _).mono yX.out.size))
 revert ydX
 generalize w1.alloc (.cells #[.slice p 0 c,.map (some (w.heap.size+1))] 152)=W0
 intro ydX
 go_loopw [5,6,7] (fun ov fv av wr=>ov=.slice none 0 0∧fv=.int .i64 0∧av=.int .i64 0∧wr=W0) (fun _ _ _ _=>0)
 case atStart=>exact ⟨rfl,rfl,rfl,rfl⟩
 case round =>
  obtain ⟨rfl,rfl,rfl,rfl⟩:=hrel
  have HC:=h_ (HAP.out wr ydX.out.size)
  go_wp2_with fail
  refine (HC.out).mono ?_
  rintro e w4 ⟨v4,rfl,hg4⟩
  have hB4:Hid (Be w w4):=h_ (ydX.out.trans ((⟨hg4.grown.os,hg4.grown.tape,hg4.grown.output,hg4.grown.size,fun k hk=>hg4.grown.block k hk (by intro e;cases e)⟩:Be wr w4).mono ydX.out.size))
  obtain ⟨q4,d4,rfl,-,-⟩:=yS hg4.own
  obtain ⟨m4,HM4⟩:=ey (R.length)
  have yfk:Hid (w4.ownsRow w.heap.size 5 1 (.slice q4 R.length d4) R.length (zG R)):=h_ hg4.own
  rw [← HM4.out] at yfk ⊢
  clear hg4
  go_wp2
  go_ret2
  exact ⟨hB4.out,_,rfl,by rw [← HM4.out];exact yfk.out⟩
theorem yAu (b0 off len c:Nat) (l:Lb) (w:World) (hl:len≤20000) (h:Came w (some ⟨b0,off,none⟩) len c l):Calls Tryz.prog 152 #[.slice (some ⟨b0,off,none⟩) len c] w (yqd l b0 off len c w) :=
 (yrl b0 off len c l w hl h).mono fun e w1 hI=>by
  obtain ⟨hb,b,base,D,rfl,hG,hO⟩:=hI
  refine ⟨hb,some b,rfl,fun W hW a ha=>?_⟩
  have hC:∀ V,Be w1 V→Came V (some ⟨b0,off,none⟩) len c l:=fun V hV=>⟨h.hl,h.hc,h.lies.below (tr hb hV)⟩
  refine ykv b0 off len c a (min 131 (len-a)) (some b) l W hl ha (h_ rfl) (h_ h.hl) (fun V hV n d hst hn=>?_)
  have hV1:=tr hW hV
  exact yuE b0 off len c a n d _ b base D l V hl ha (h_ rfl) (hC V hV1) hG (ybe hO hV1) hst hn
theorem yrx (p:Oa) (c:Nat) (l:Lb) (w:World) (hl:l.length≤20000) (hc:l.length≤c) (hb:Bs w p l):Calls Tryz.prog 101 #[.slice p l.length c] w (zR (ybP l) w):=by
 by_cases h0:0<l.length
 ·obtain ⟨b0,off,rfl⟩:∃ b off,p=some ⟨b,off,none⟩:=by
   obtain ⟨b,off,hp,-⟩:=ybl hb h0
   exact ⟨b,off,hp⟩
  have hC:Came w (some ⟨b0,off,none⟩) l.length c l:=⟨rfl,hc,hb⟩
  exact ypm b0 off l.length c l w hl hC (yAu b0 off l.length c l w hl hC)
 ·obtain rfl:=List.eq_nil_of_length_eq_zero (Nat.eq_zero_of_not_pos h0)
  exact yrw p c w
end
section
open Go.RowKit
open Go.Lib
theorem yuZ {x k:Nat} (h:x<2^k):bl x≤k:=by
 by_cases h64:64≤k
 ·exact Nat.le_trans (ynC x) h64
 ·by_cases h0:x=0
  ·subst h0;show Lib.bitLenAux 64 0≤k;rw [show Lib.bitLenAux 64 0=0 by decide];exact Nat.zero_le _
  ·have hlt:x<2^64:=Nat.lt_of_lt_of_le h (Nat.pow_le_pow_right (by decide) (by omega))
   obtain ⟨h1,h2,-⟩:=Lib.bitLenAux_bounds 64 x hlt h0
   have h3:2^(Lib.bitLenAux 64 x-1)<2^k:=Nat.lt_of_le_of_lt h2 h
   have h4:=(Nat.pow_lt_pow_iff_right (by decide:1<2)).1 h3
   show Lib.bitLenAux 64 x≤k
   omega
theorem ysX {n:Nat}:∀ (k:Nat) (l:Lb),∀ x ∈ gl n k l,x<2^(8*n)
 | 0,_,x,h=>by cases h
 | k+1,l,x,h=>by
  unfold gl at h
  rcases List.mem_cons.1 h with rfl|h
  ·have h1:=ye8 (l.take n)
   have h2:(l.take n).length≤n:=List.length_take_le _ _
   have e:(256:Nat)=2^8:=rfl
   rw [e,← Nat.pow_mul] at h1
   exact Nat.lt_of_lt_of_le h1 (Nat.pow_le_pow_right (by decide) (by omega))
  ·exact ysX k _ x h
theorem yry {gs:List Nat} {m:Nat} (h:∀ x ∈ gs,x<2^m):wdL gs≤m:=by
 have h1:mxL gs<2^m:=yev gs 0 (Nat.pow_pos (by decide)) h
 exact yuZ (Nat.lt_of_le_of_lt (Nat.sub_le _ _) h1)
theorem yrz {l:Lb} {n:Nat} (h1:1≤n) (h8:n≤8):(uU l n).length≤l.length+13:=by
 have hk:l.length/n*n≤l.length:=Nat.div_mul_le_self _ _
 have hd:(l.drop (l.length/n*n)).length=l.length-l.length/n*n:=List.length_drop
 unfold uU ydQ pkB
 rw [List.length_append,hd]
 split
 ·rw [zE];omega
 ·rw [List.length_append,List.length_append,List.length_append,zE,zE,pkF,vK,uL]
  have hw:=yry (ysX (n:=n) (l.length/n) l)
  have hm:l.length/n*wdL (gl n (l.length/n) l)≤8*(l.length/n*n):=by
   rw [← Nat.mul_assoc,Nat.mul_comm 8,Nat.mul_assoc]
   exact Nat.mul_le_mul_left _ hw
  show 4+n+1+_+_≤_
  omega
def uG (x:Sg) (l:Lb):Lb:=if x.1=2 then yeV l x.2.1.toNat else if x.1=3 then yaj l x.2.1.toNat else if x.1=5 then uU l x.2.1.toNat else if x.1=4 then ybP l else l
def yaC (ss:List Sg) (i:Nat) (l:Lb):Lb:=(ss.take i).foldl (fun l x=>uG x l) l
theorem yjd (ss:List Sg) (l:Lb):yaC ss 0 l=l:=rfl
theorem ydO {ss:List Sg} {i:Nat} (h:i<ss.length) (l:Lb):yaC ss (i+1) l=uG (ss.getD i (0,0,[])) (yaC ss i l):=by
 unfold yaC
 rw [List.take_succ_eq_append_getElem h,List.foldl_append,List.getD_eq_getElem?_getD,List.getElem?_eq_getElem h];rfl
def uI (B:Nat) (L:Lb) (w:World) (e:Ending) (w':World):Prop :=
 Be w w'∧∃ v,e=.returned (.tuple #[v,.int .i64 0])∧w'.ownsRow B 5 1 v L.length (zG L)
theorem ycD {W:World} {B B' n:Nat} {v:Value} {xs:List Value} (h:W.ownsRow B' 5 1 v n xs) (hb:B≤B'):W.ownsRow B 5 1 v n xs:=by
 obtain ⟨h1,h2|⟨g,cap,cur,hv,hg,h3⟩⟩:=h
 ·exact ⟨h1,.inl h2⟩
 ·exact ⟨h1,.inr ⟨g,cap,cur,hv,Nat.le_trans hb hg,h3⟩⟩
theorem zR.thr {B:Nat} {L:Lb} {w W w':World} {e:Ending} (h:zR L W e w') (hb:Be w W) (hB:B≤w.heap.size):uI B L w e w':=by
 obtain ⟨h1,v,h2,h3⟩:=h
 exact ⟨tr hb h1,v,h2,ycD h3 (Nat.le_trans hB hb.size)⟩
theorem ysg (kk:Int) (ff:Nat) (n:Int) (X:ByteArray) (v:Value) (L:Lb) (B:Nat) (w:World) (hB:B≤w.heap.size) (hkk:(kk=2∧ff=98)∨(kk=3∧ff=99)∨(kk=5∧ff=100))
  (hc:∀ W,Be w W→Calls Tryz.prog ff #[v,.int .i64 n] W (zR L W)) :
  Calls Tryz.prog 54 #[.agg #[.int .i64 kk,.int .i64 n,.string X],v] w (uI B L w):=by
 obtain ⟨W1,vI⟩:∃ W1,Hid (w.alloc (.cells #[.int .i64 kk,.int .i64 n,.string X] 45)=W1):=⟨_,h_ rfl⟩
 have yX:Hid (Be w W1):=h_ (by rw [← vI.out];exact bR.alloc nl _)
 have HC:=h_ (hc W1 yX.out)
 have HBB:=h_ hB
 clear hc hB
 rcases hkk with ⟨rfl,rfl⟩|⟨rfl,rfl⟩|⟨rfl,rfl⟩
 all_goals
  go_in
  go_wp2_with fail
  try rw [vI.out]
  refine (HC.out).mono ?_
  rintro e w2 ⟨hb2,v2,rfl,ho2⟩
  have HF:Hid (uI B L w (.returned (.tuple #[v2,.int .i64 0])) w2):=h_ (zR.thr (W:=W1) ⟨hb2,v2,rfl,ho2⟩ yX.out HBB.out)
  clear hb2 ho2
  go_wp2
  go_ret2
  exact HF.out
theorem yzO (n:Int) (X:ByteArray) (v:Value) (L:Lb) (B:Nat) (w:World) (hB:B≤w.heap.size)
  (hc:∀ W,Be w W→Calls Tryz.prog 101 #[v] W (zR L W)) :
  Calls Tryz.prog 54 #[.agg #[.int .i64 4,.int .i64 n,.string X],v] w (uI B L w):=by
 obtain ⟨W1,vI⟩:∃ W1,Hid (w.alloc (.cells #[.int .i64 4,.int .i64 n,.string X] 45)=W1):=⟨_,h_ rfl⟩
 have yX:Hid (Be w W1):=h_ (by rw [← vI.out];exact bR.alloc nl _)
 have HC:=h_ (hc W1 yX.out)
 have HBB:=h_ hB
 clear hc hB
 go_in
 go_wp2_with fail
 try rw [vI.out]
 refine (HC.out).mono ?_
 rintro e w2 ⟨hb2,v2,rfl,ho2⟩
 have HF:Hid (uI B L w (.returned (.tuple #[v2,.int .i64 0])) w2):=h_ (zR.thr (W:=W1) ⟨hb2,v2,rfl,ho2⟩ yX.out HBB.out)
 clear hb2 ho2
 go_wp2
 go_ret2
 exact HF.out
theorem yzP (n:Int) (X:ByteArray) (v:Value) (L:Lb) (B:Nat) (w:World) (ho:w.ownsRow B 5 1 v L.length (zG L)) :
  Calls Tryz.prog 54 #[.agg #[.int .i64 1,.int .i64 n,.string X],v] w (uI B L w):=by
 have HF:Hid (uI B L w (.returned (.tuple #[v,.int .i64 0])) (w.alloc (.cells #[.int .i64 1,.int .i64 n,.string X] 45))):=h_ (by
  have hb:Be w (w.alloc (.cells #[.int .i64 1,.int .i64 n,.string X] 45)):=bR.alloc nl _
  exact ⟨hb,v,rfl,jW ho hb⟩)
 clear ho
 go_in
 go_wp2
 go_ret2
 exact HF.out
theorem yeS {x:Sg} (h:yde x=true):(x.1=1∨x.1=4)∨((x.1=2∨x.1=3∨x.1=5)∧1≤x.2.1∧x.2.1≤8):=by
 unfold yde at h
 by_cases h1:x.1=1
 ·exact .inl (.inl h1)
 ·rw [if_neg h1] at h
  by_cases h2:x.1=2∨x.1=3∨x.1=5
  ·rw [if_pos h2,Bool.and_eq_true] at h
   have h3:=h.1
   unfold gsB at h3
   rw [Bool.and_eq_true,decide_eq_true_eq,decide_eq_true_eq] at h3
   exact .inr ⟨h2,h3⟩
  ·rw [if_neg h2] at h
   by_cases h4:x.1=4
   ·exact .inl (.inr h4)
   ·rw [if_neg h4] at h;cases h
theorem yqe {x:Sg} {l:Lb} (h:yde x=true) (hl:l.length≤10000):(uG x l).length≤l.length+100:=by
 unfold uG
 rcases yeS h with h1|⟨h2,h3,h4⟩
 ·rw [if_neg (by omega),if_neg (by omega),if_neg (by omega)]
  split
  ·have:=ylR l;omega
  ·omega
 ·split
  ·rw [yf7];omega
  ·split
   ·rw [vN];omega
   ·split
    ·have:=yrz (l:=l) (n:=x.2.1.toNat) (by omega) (by omega);omega
    ·split
     ·have:=ylR l;omega
     ·omega
theorem ybH {ss:List Sg} {l:Lb} (h:∀ i,i<ss.length→yde (ss.getD i (0,0,[]))=true) (hl:l.length≤9000) (hs:ss.length≤4):∀ i,i≤ss.length→(yaC ss i l).length≤l.length+100*i
 | 0,_=>by rw [yjd];omega
 | i+1,hi=>by
  have ih:=ybH h hl hs i (by omega)
  rw [ydO (by omega)]
  have:=yqe (l:=yaC ss i l) (h i (by omega)) (by omega)
  omega
theorem ym3 (x:Sg) (v:Value) (l:Lb) (B:Nat) (w:World) (hB:B≤w.heap.size) (hok:yde x=true) (hl:l.length≤20000) (ho:w.ownsRow B 5 1 v l.length (zG l)) :
  Calls Tryz.prog 54 #[.agg #[.int .i64 x.1,.int .i64 x.2.1,.string ⟨x.2.2.toArray⟩],v] w (uI B (uG x l) w):=by
 obtain ⟨k,n,s⟩:=x
 obtain ⟨p,c,rfl,hbs,hc⟩:=yS ho
 have hnc:=yaX ho
 rcases yeS hok with (h1|h4)|⟨h2,h3,h8⟩
 ·have h1:k=1:=h1
  subst h1
  have e:uG (1,n,s) l=l:=by unfold uG;rw [if_neg (by show ¬ (1:Int)=2;decide),if_neg (by show ¬ (1:Int)=3;decide),if_neg (by show ¬ (1:Int)=5;decide),if_neg (by show ¬ (1:Int)=4;decide)]
  rw [e]
  exact yzP n _ _ l B w ho
 ·have h4:k=4:=h4
  subst h4
  have e:uG (4,n,s) l=ybP l:=by unfold uG;rw [if_neg (by show ¬ (4:Int)=2;decide),if_neg (by show ¬ (4:Int)=3;decide),if_neg (by show ¬ (4:Int)=5;decide),if_pos (by show (4:Int)=4;rfl)]
  rw [e]
  exact yzO n _ _ _ B w hB (fun W hW=>yrx p c l W hl hc (hbs.below hW))
 ·have h3:1≤n:=h3
  have h8:n≤8:=h8
  obtain ⟨m,rfl⟩:∃ m:Nat,n=m:=⟨n.toNat,by omega⟩
  have m1:1≤m:=by omega
  have m8:m≤8:=by omega
  have h2:k=2∨k=3∨k=5:=h2
  rcases h2 with rfl|rfl|rfl
  ·have e:uG (2,(m:Int),s) l=yeV l m:=by unfold uG;rw [if_pos (by show (2:Int)=2;rfl)];rfl
   rw [e]
   exact ysg 2 98 m _ _ _ B w hB (.inl ⟨rfl,rfl⟩) (fun W hW=>yuw p c m l W m1 m8 hl hc hnc (hbs.below hW))
  ·have e:uG (3,(m:Int),s) l=yaj l m:=by unfold uG;rw [if_neg (by show ¬ (3:Int)=2;decide),if_pos (by show (3:Int)=3;rfl)];rfl
   rw [e]
   exact ysg 3 99 m _ _ _ B w hB (.inr (.inl ⟨rfl,rfl⟩)) (fun W hW=>yo8 p c m l W m1 m8 hl (hbs.below hW))
  ·have e:uG (5,(m:Int),s) l=uU l m:=by unfold uG;rw [if_neg (by show ¬ (5:Int)=2;decide),if_neg (by show ¬ (5:Int)=3;decide),if_pos (by show (5:Int)=5;rfl)];rfl
   rw [e]
   exact ysg 5 100 m _ _ _ B w hB (.inr (.inr ⟨rfl,rfl⟩)) (fun W hW=>ylO p c m l.length l W (h_ rfl) m1 m8 (by omega) (h_ hc) (h_ hnc) (hbs.below hW))
end
end Go.Proofs.YtgepehlpjpccaaaGreatDoor
