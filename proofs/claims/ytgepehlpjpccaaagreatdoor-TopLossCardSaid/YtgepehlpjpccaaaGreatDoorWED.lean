/- Contracts. -/
import Derived.Test.YtgepehlpjpccaaaGreatDoorWEC
namespace Go.Proofs.YtgepehlpjpccaaaGreatDoor
open Go.RowKit Go.Shelf
open Go.Lib
set_option maxHeartbeats 4000000
set_option maxRecDepth 100000
section
attribute [local go_sem] Oper.semAt_some
theorem yp3 {w W:World} {v:Value} {L:List UInt8} (h:W.ownsRow w.heap.size 5 1 v L.length (zS L)) (hb:Below w.heap.size w W):Grew w.heap.size w (.slice none 0 0) L W v:=by
 refine ⟨h,⟨hb.os,hb.tape,hb.output,hb.size,fun k hk _=>hb.block k hk⟩,?_⟩
 cases e:v.ownBlock with
 | none=>exact .inl rfl
 | some j=>exact .inr ⟨j,rfl,GR h e⟩
theorem yo6 {d e:Nat} (hd:d<jM):IntKind.u8.wrap (bits .and .u64 ((d:Int)/2^e) 1)=((d/2^e%2:Nat):Int):=by
 have h0:d/2^e<18446744073709551616:=Nat.lt_of_le_of_lt (Nat.div_le_self _ _) hd
 have h1:(d:Int)/2^e=((d/2^e:Nat):Int):=by rw [Int.natCast_ediv,Int.natCast_pow];rfl
 have h2:=u64_and_nat (d/2^e) 1 h0 (by decide)
 rw [nat_mask1] at h2
 rw [h1,show (1:Int)=((1:Nat):Int) from rfl,h2,IntKind.wrap_u8']
 omega
theorem yrK (w:World) (y:UInt8):Bs (w.alloc (.cells #[.int .u8 (y.toNat:Int)] 5)) (some ⟨w.heap.size,0,none⟩) [y]:=by
 refine .inr ⟨w.heap.size,0,rfl,by simp,fun j hj=>?_⟩
 obtain rfl:j=0:=by simp at hj;omega
 have:=World.alloc_heap_new w (.cells #[.int .u8 (y.toNat:Int)] 5)
 simp only [World.cell?,this]
 rfl
theorem yb4 {W:World} {o:Obj} {k:Nat} (h:W.heap.size=k):(W.alloc o).heap[k]?=some o:=by subst h;exact World.alloc_heap_new W o
theorem jK {W:World} {o o':Obj} {k:Nat} (h:W.heap[k]?=some o'):(W.alloc o).heap[k]?=some o':=(Below.heap_alloc W o k (Array.getElem?_eq_some_iff.1 h).1).trans h
theorem yog (p:Option Addr) (c n len k m wd:Nat) (l:List UInt8) (w:World) (HL:Hid (len=l.length)) (HK:Hid (k=len/n)) (h1:1≤n) (h2:n≤8) (hl:len≤1048576) (hc:len≤c) (hm:∀ g ∈ gl n k l,m≤g) (hwd:wd≤64) (hbs:Bs w p l) :
  Calls Tryz.prog 150 #[.slice p len c,.int .i64 (n:Int),.int .u64 (m:Int),.int .i64 (wd:Int)] w (App w.heap.size w (.slice none 0 0) (pkL (btF (gl n k l) m wd) (k*wd))):=by
 have HBS:Hid (BsN w.heap.size w p l):=Lib.hid hbs.bsN
 have HM:=Lib.hid hm
 have hkl:k≤len:=by rw [HK.out];exact Nat.div_le_self _ _
 obtain ⟨R,HR⟩:∃ R,Hid (R=pkL (btF (gl n k l) m wd) (k*wd)):=⟨_,rfl⟩
 rw [← HR.out]
 clear hbs hm
 refine (callsIn_wide (n:=9)).1 ?_
 refine callsIn_of_wp_marks Tryz.func150 rfl trivial ?_ rfl
 simp only [Tryz.ntmps150,List.size_toArray,List.length_cons,List.length_nil,Nat.reduceAdd,Nat.reduceSub,Array.replicate_succ,Array.replicate_zero,List.push_toArray,List.append_toArray,List.nil_append,List.cons_append]
 gi_wp2_with (refine ⟨trivial,?_⟩;gi_at_call 188;refine (ycz _ _ _ _ _ _).mono ?_;rintro e w' ⟨rfl,rfl⟩)
 obtain ⟨W0,hW0⟩:∃ W0,((((((w.alloc (.cells #[.int .u64 (m:Int)] 86)).alloc (.cells #[.int .i64 (wd:Int)] 3)).alloc (.cells #[.slice none 0 0] 39)).alloc (.cells #[.int .i64 0] 3)).alloc (.cells #[.slice p len c] 39)).alloc (.cells #[.int .i64 (n:Int)] 3))=W0:=⟨_,rfl⟩
 have hs0:W0.heap.size=w.heap.size+6:=by rw [← hW0];simp
 have hI0:PkI w.heap.size n p len c m wd w (.slice none 0 0) [] 0 W0:=by
  have hb:Below w.heap.size w W0:=by rw [← hW0];exact ((((((Below.refl _ w).alloc (Nat.le_refl _) _).alloc (by simp) _).alloc (by simp<;>omega) _).alloc (by simp<;>omega) _).alloc (by simp<;>omega) _).alloc (by simp<;>omega) _
  rw [← hW0] at hb ⊢
  exact ⟨⟨rfl,.inl ⟨rfl,rfl⟩⟩,(jK (jK (jK (jK (jK (yb4 (rfl))))))),(jK (jK (jK (jK (yb4 (by simp)))))),(jK (jK (jK (yb4 (by simp))))),(jK (jK (yb4 (by simp)))),(jK (yb4 (by simp))),(yb4 (by simp)),hb⟩
 rw [hW0]
 refine wpIn_rangeFunc_ownF rfl (by omega) (gf:=222) (lb:=#[.pointer (some ⟨w.heap.size+1+1+1+1+1,0,none⟩),.pointer (some ⟨w.heap.size+1+1+1+1,0,none⟩)]) rfl trivial (enters_of Tryz.func222 (by kernel_rfl) rfl)
  (yaU _ (by omega) (w.heap.size+1+1+1+1+1) (w.heap.size+1+1+1+1) w.heap.size n len k c l p HL HK h1 h2 hl hc W0 (by omega) (by omega) (by omega) (by simp [World.cell?,hI0.i2]) (by simp [World.cell?,hI0.i1]) (HBS.out.keep hI0.bel)) jO.trans
  (fun W lo o o' hlo ho hc hw=>⟨(Below.refl _ W).grown (grownBy_putObj' W lo o') (by have:=(Array.getElem?_eq_some_iff.1 ho).1;omega) (fun k e=>by cases e;omega),World.putObj_heap_other (by omega),World.putObj_heap_other (by omega)⟩) (Below.refl _ _) (fun _=>rfl)
  (fun pre W=>∃ v,PkI w.heap.size n p len c m wd w v (pkL (btF (gP l n pre) m wd) (pre.length*wd)) (pre.length*wd) W)
  (fun _ _ _=>False)
  (fun s W W' row h hg hr=>by obtain ⟨v,h⟩:=h;exact ⟨v,h.keep hg (fun r e=>⟨by have:=(hr r e).1;omega,(hr r e).2⟩) h.lt⟩)
  (fun _ _ _ _ _ h _ _=>h)
  ⟨_,by rw [show ([]:List (Pl k)).length=0 from rfl,Nat.zero_mul];exact hI0⟩ ?a1 ?assign ?body ?done ?stop
 case assign =>
  intro lo x W K hK
  gi_wp2
  exact hK
 case body =>
  rintro lo pre x W ⟨v,hI⟩ hlen
  obtain ⟨g,HG⟩:∃ g,Hid (g=gN l n x.1):=⟨_,rfl⟩
  have e10:(nb ((l.drop (x.1*n)).take n))=g:=HG.out.symm
  obtain ⟨gs1,HG1⟩:∃ gs1,Hid (gs1=gP l n pre++[g]):=⟨_,rfl⟩
  obtain ⟨T0,HT0⟩:∃ T0,Hid (T0=pre.length*wd):=⟨_,rfl⟩
  obtain ⟨b,HB⟩:∃ b,Hid (b=btF gs1 m wd):=⟨_,rfl⟩
  have uV:Hid (∀ t,b t<2):=Lib.hid (fun t=>by rw [HB.out];exact yrI _ _ _ _)
  obtain ⟨d,HD⟩:∃ d,Hid (d=g-m):=⟨_,rfl⟩
  have hg:g<jM:=by rw [HG.out];exact ymV l h2 _
  have hgm:m≤g:=HM.out g (by rw [← ygB,HG.out];exact List.mem_map_of_mem (List.mem_range.2 x.2))
  have hd:d<jM:=by rw [HD.out];omega
  have ydx:IntKind.u64.wrap ((g:Int)-(m:Int))=(d:Int):=by
   rw [IntKind.wrap_u64,HD.out];unfold jM at hg;omega
  have HBT:Hid (∀ j,j<wd→b (T0+j)=d/2^(wd-1-j)%2):=Lib.hid (fun j hj=>by
   rw [HB.out,HT0.out,yrJ _ _ hj,HD.out,HG1.out,List.getD_eq_getElem?_getD,List.getElem?_append_right (by rw [ycb];exact Nat.le_refl _),ycb,Nat.sub_self];rfl)
  have hI1:PkI w.heap.size n p len c m wd w v (pkL b T0) T0 W:=by
   rw [← HT0.out,yp2 (b':=b) (fun t ht=>by
    rw [HB.out,HG1.out];exact (yof (by rw [ycb,← HT0.out];exact ht)).symm)] at hI
   exact hI
  have HI1:=Lib.hid hI1
  have ykA:Hid (∀ v W3,PkI w.heap.size n p len c m wd w v (pkL b (T0+wd)) (T0+wd) W3→KeepsOthers W W3→Below w.heap.size W W3→KeepsOthers W W3∧jO w.heap.size (w.heap.size+1+1+1+1+1) (w.heap.size+1+1+1+1) W W3 ∧
    ∃ v,PkI w.heap.size n p len c m wd w v (pkL (btF (gP l n (pre++[x])) m wd) ((pre++[x]).length*wd)) ((pre++[x]).length*wd) W3):=Lib.hid (fun v W3 k1 k2 k3=>by
   refine ⟨k2,⟨k3,k1.i2.trans HI1.out.i2.symm,k1.i1.trans HI1.out.i1.symm⟩,v,?_⟩
   rw [yfX,← HG.out,← HG1.out,← HB.out,List.length_append,show [x].length=1 from rfl,Nat.succ_mul,← HT0.out]
   exact k1)
  have hT0:T0≤67108864:=by
   have h5:pre.length*wd≤1048576*64:=Nat.mul_le_mul (by omega) hwd
   rw [HT0.out];omega
  have c7:W.cell? ⟨w.heap.size+1,0,none⟩=some (.int .i64 (wd:Int)):=by simp [World.cell?,hI1.b7]
  have hwi:(wd:Int)≤64:=by omega
  have hwp:wrap64 ((wd:Int)-1)=(wd:Int)-1-((0:Nat):Int):=by unfold wrap64;omega
  simp only [e10]
  clear hI hI1 e10
  gi_wp2
  gi_loopw [12] (fun tv wr=>∃ (j:Nat) (v:Value),j≤wd∧tv=.int .i64 ((wd:Int)-1-(j:Int))∧Hid (PkI w.heap.size n p len c m wd w v (pkL b (T0+j)) (T0+j) wr)∧Hid (KeepsOthers W wr∧Below w.heap.size W wr)) (fun tv _=>(Go.RowKit.intOf tv+1).toNat)
  case atStart=>exact ⟨0,v,Nat.zero_le _,by congr 1;omega,Lib.hid (by rw [Nat.add_zero];exact HI1.out),Lib.hid ⟨KeepsOthers.refl _,Below.refl _ _⟩⟩
  case round =>
   clear c7
   obtain ⟨j,v,hj,rfl,HI,HK2⟩:=hrel
   obtain ⟨T,HT⟩:∃ T,Hid (T=T0+j):=⟨_,rfl⟩
   rw [← HT.out] at HI
   by_cases hjw:j<wd
   ·obtain ⟨bit,ytJ⟩:∃ bit:Nat,Hid (bit=wd-1-j):=⟨_,rfl⟩
    have ebit:(wd:Int)-1-(j:Int)=(bit:Int):=by rw [ytJ.out];omega
    have hTl:(T:Int)≤67108928:=by rw [HT.out];omega
    have hbit:(bit:Int)≤63:=by omega
    have HbT:Hid (b T=d/2^bit%2):=Lib.hid (by rw [HT.out,ytJ.out];exact HBT.out j hjw)
    rw [ebit]
    have c10:wr.cell? ⟨w.heap.size+1+1+1,0,none⟩=some (.int .i64 (T:Int)):=by simp [World.cell?,HI.out.b10]
    have cO:wr.cell? ⟨w.heap.size+1+1,0,none⟩=some v:=by simp [World.cell?,HI.out.out]
    obtain ⟨L,HLL⟩:∃ L,Hid (L=pkL b T):=⟨_,rfl⟩
    rw [← HLL.out] at HI
    have hLl:Hid (L.length=(T+7)/8):=Lib.hid (by rw [HLL.out,yaJ])
    by_cases h8:T%8=0
    ·have h8':(T:Int)%8=0:=by omega
     have HIa:Hid (PkI w.heap.size n p len c m wd w v L T (wr.alloc (.cells #[.int .u8 (((0:UInt8).toNat:Nat):Int)] 5))):=Lib.hid (HI.out.keep (World.grownBy_alloc wr _ none) (fun r e=>by cases e) HI.out.lt)
     have hko:Hid (KeepsOthers wr (wr.alloc (.cells #[.int .u8 (((0:UInt8).toNat:Nat):Int)] 5))∧Below w.heap.size wr (wr.alloc (.cells #[.int .u8 (((0:UInt8).toNat:Nat):Int)] 5))):=Lib.hid ⟨KeepsOthers.alloc _ _,(Below.refl _ _).alloc HI.out.lt _⟩
     have hbs0:=Lib.hid (yrK wr 0)
     have hlens:Hid (L.length+1≤140737488355328∧w.heap.size≤(wr.alloc (.cells #[.int .u8 (((0:UInt8).toNat:Nat):Int)] 5)).heap.size):=Lib.hid ⟨by rw [hLl.out];omega,HIa.out.lt⟩
     gi_wp2_with (refine wpListIn_plain (o:=⟨some 28,_,_,_,_,_⟩) rfl fun K hK=>ycy rfl (uQ (.tmp 26) (.tmp 27) rfl w.heap.size v L.length L rfl rfl HIa.out.own _ 1 1 [0] rfl rfl hbs0.out hlens.out.1 hlens.out.2 ?_))
     intro v5 W5 hg5
     obtain ⟨yQ,yaF,ya3,hO5,yay⟩:=HIa.out.app hg5
     obtain ⟨L1,HL1⟩:∃ L1,Hid (L1=L++[0]):=⟨L++[0],Lib.hid rfl⟩
     rw [← HL1.out] at yQ yaF
     obtain ⟨p5,c5,rfl,-,-⟩:=zE yQ
     obtain ⟨m5,HM5⟩:∃ m5,Hid (m5=L1.length):=⟨_,rfl⟩
     rw [← HM5.out] at yaF ya3 yay ⊢
     have fO:W5.cell? ⟨w.heap.size+1+1,0,none⟩=some v:=by simp [World.cell?,hO5]
     have fOz:W5.frozen? ⟨w.heap.size+1+1,0,none⟩=false:=by simp [World.frozen?,hO5]
     obtain ⟨W6,hW6⟩:∃ W6,W5.setCell ⟨w.heap.size+1+1,0,none⟩ (.slice p5 m5 c5)=W6:=⟨_,rfl⟩
     rw [hW6] at yaF ya3 yay
     have HI6:=Lib.hid yaF
     have HK6:Hid (KeepsOthers W W6∧Below w.heap.size W W6):=Lib.hid ⟨(HK2.out.1.trans hko.out.1).trans ya3,(HK2.out.2.trans hko.out.2).trans yay⟩
     have hl1:Hid (L1.length=T/8+1):=Lib.hid (by rw [HL1.out,List.length_append,hLl.out];show (T+7)/8+1=_;omega)
     have hg1:Hid (L1.getD (T/8) 0=UInt8.ofNat (bv b (T/8) (T%8))):=Lib.hid (by
      rw [HL1.out,List.getD_eq_getElem?_getD,List.getElem?_append_right (by rw [hLl.out];omega),hLl.out,show T/8-(T+7)/8=0 by omega,h8];rfl)
     have hs1:Hid (L1.set (T/8) (UInt8.ofNat (bv b (T/8) (T%8+1)))=pkL b (T+1)):=Lib.hid (by
      rw [yuV b h8,HL1.out,HLL.out,h8,List.set_append_right _ _ (by rw [yaJ];omega),yaJ,show T/8-(T+7)/8=0 by omega];rfl)
     clear yQ yaF ya3 hO5 yay hg5
     refine hK _ _ ?_
     gi_wp2
     try rw [hW6]
     clear fO fOz hW6 hK
     clear c10 cO
     obtain ⟨gb,cap,hv6,hcap,vH,yb6,yhl,yfb⟩:=HI6.out.drew.set (by rw [hl1.out];omega)
     injection hv6 with q1 q2 q3
     have q4:=q3.symm
     subst q1
     subst q2
     subst q4
     have yqY:=Lib.hid yfb
     obtain ⟨m1,HM1⟩:∃ m1,Hid (m1=L1.length):=⟨_,rfl⟩
     have hm1:T/8<m1:=by rw [HM1.out,hl1.out];omega
     obtain ⟨X,HX⟩:∃ X,Hid (X=bv b (T/8) (T%8)):=⟨_,rfl⟩
     obtain ⟨Y,HY⟩:∃ Y:UInt8,Hid (Y=UInt8.ofNat (bv b (T/8) (T%8+1))):=⟨_,rfl⟩
     obtain ⟨q,HQ⟩:∃ q,Hid (q=T/8):=⟨_,rfl⟩
     have hq:IntKind.i64.wrap ((T:Int)/8)=(q:Int):=by rw [HQ.out,IntKind.wrap_i64];omega
     have hq1:(q:Int)<(m1:Int):=by rw [HQ.out];omega
     rw [← HQ.out] at hm1
     have c33:W6.drew.cell? ⟨gb,q,none⟩=some (.int .u8 (X:Int)):=by
      have h:=vH (T/8) (by rw [hl1.out];omega)
      rw [hg1.out,ykd b uV.out _ (by omega),← HX.out,← HQ.out] at h;exact h
     have f33:W6.drew.frozen? ⟨gb,q,none⟩=false:=yb6 _
     have hXl:X<256:=by
      have h:=ymW b uV.out (T/8) (T%8) (by omega)
      have h5:0<2^(8-T%8):=Nat.pow_pos (by decide)
      rw [HX.out];omega
     have d6:W6.drew.cell? ⟨w.heap.size,0,none⟩=some (.int .u64 (m:Int)):=by
      have h:=HI6.out.drew.b6;simp [World.cell?,h]
     have dO:W6.drew.cell? ⟨w.heap.size+1+1,0,none⟩=some (.slice (some ⟨gb,0,none⟩) m1 cap):=by
      have h:=HI6.out.drew.out;rw [← HM1.out] at h;simp [World.cell?,h]
     have d10:W6.drew.cell? ⟨w.heap.size+1+1+1,0,none⟩=some (.int .i64 (T:Int)):=by
      have h:=HI6.out.drew.b10;simp [World.cell?,h]
     have g0:=yhl w.heap.size (by omega) (by omega)
     have g2:=yhl (w.heap.size+1+1) (by omega) (by omega)
     have g3:=yhl (w.heap.size+1+1+1) (by omega) (by omega)
     obtain ⟨bt,HBt⟩:∃ bt,Hid (bt=b T):=⟨_,rfl⟩
     have ywc:bt<2:=by rw [HBt.out];exact uV.out T
     obtain ⟨r7,HR7⟩:∃ r7,Hid (r7=7-T%8):=⟨_,rfl⟩
     have ytB:r7≤7:=by rw [HR7.out];omega
     have hr7:IntKind.i64.wrap (7-(T:Int).tmod 8)=(r7:Int):=by
      rw [Int.tmod_eq_emod_of_nonneg (by omega),IntKind.wrap_i64,HR7.out];omega
     have hr70:0≤(r7:Int):=by omega
     have yiQ:IntKind.u8.wrap (bits .and .u64 ((d:Int)/2^bit) 1)=(bt:Int):=by rw [yo6 hd,HBt.out,HbT.out]
     have hpw:bt*2^r7<256:=by
      have h6:2^r7≤2^7:=Nat.pow_le_pow_right (by decide) ytB
      have h7:bt*2^r7≤1*2^r7:=Nat.mul_le_mul_right _ (by omega)
      omega
     have ywd:IntKind.u8.wrap ((bt:Int)*2^r7)=((bt*2^r7:Nat):Int):=by
      rw [IntKind.wrap_u8',show (bt:Int)*2^r7=((bt*2^r7:Nat):Int) by rw [Int.natCast_mul,Int.natCast_pow];rfl];omega
     have hor:bits .or .u8 (X:Int) ((bt*2^r7:Nat):Int)=((Y.toNat:Nat):Int):=by
      rw [u8_or_nat X _ hXl hpw,HX.out,HBt.out,HR7.out,HY.out,ykd b uV.out _ (by omega),← yvu b uV.out (T/8) (by omega),show 8*(T/8)+T%8=T by omega]
     obtain ⟨sh,HSH⟩:∃ sh,Hid (sh=bt*2^r7):=⟨_,rfl⟩
     rw [← HSH.out] at ywd hor
     obtain ⟨W7,hW7⟩:∃ W7,W6.drew.setCell ⟨gb,q,none⟩ (.int .u8 ((Y.toNat:Nat):Int))=W7:=⟨_,rfl⟩
     have HI7:Hid (PkI w.heap.size n p len c m wd w (.slice (some ⟨gb,0,none⟩) m1 cap) (pkL b (T+1)) T W7):=Lib.hid (by
      have h:=(yqY.out q Y (by rw [← HM1.out];omega)).1
      rw [hW7] at h
      rwa [← hs1.out,← HY.out,← HQ.out,HM1.out])
     have HK7:Hid (KeepsOthers W W7∧Below w.heap.size W W7):=Lib.hid (by
      have h:=(yqY.out q Y (by rw [← HM1.out];omega)).2
      rw [hW7] at h
      exact ⟨HK6.out.1.trans ((KeepsOthers.drew W6).trans (by rw [← hW7];exact KeepsOthers.setCell _ _ _)),HK6.out.2.trans (((Below.refl _ W6).drew).trans h)⟩)
     have k6:W7.cell? ⟨w.heap.size,0,none⟩=some (.int .u64 (m:Int)):=by have h:=HI7.out.b6;simp [World.cell?,h]
     have kO:W7.cell? ⟨w.heap.size+1+1,0,none⟩=some (.slice (some ⟨gb,0,none⟩) m1 cap):=by have h:=HI7.out.out;simp [World.cell?,h]
     have k10:W7.cell? ⟨w.heap.size+1+1+1,0,none⟩=some (.int .i64 (T:Int)):=by have h:=HI7.out.b10;simp [World.cell?,h]
     have k10z:W7.frozen? ⟨w.heap.size+1+1+1,0,none⟩=false:=by have h:=HI7.out.b10;simp [World.frozen?,h]
     have HI8:=Lib.hid (HI7.out.put10 (T+1))
     have HK8:Hid (KeepsOthers W (W7.setCell ⟨w.heap.size+1+1+1,0,none⟩ (.int .i64 ((T+1:Nat):Int)))∧Below w.heap.size W (W7.setCell ⟨w.heap.size+1+1+1,0,none⟩ (.int .i64 ((T+1:Nat):Int)))):=Lib.hid ⟨HK7.out.1.trans (KeepsOthers.setCell _ _ _),HK7.out.2.trans ((Below.refl _ W7).setCell (p:=⟨w.heap.size+1+1+1,0,none⟩) (by show w.heap.size≤w.heap.size+1+1+1;omega) _)⟩
     clear yfb vH yb6 yhl hXl ywc hpw
     refine yaw (S:=fun W'=>W'.cell? ⟨w.heap.size,0,none⟩=some (.int .u64 (m:Int))∧W'.cell? ⟨w.heap.size+1+1,0,none⟩=some (.slice (some ⟨gb,0,none⟩) m1 cap)∧W'.cell? ⟨w.heap.size+1+1+1,0,none⟩=some (.int .i64 (T:Int))) (by kernel_rfl) (by kernel_rfl) (fun ⟨_,_,h⟩=>h) ⟨d6,dO,d10⟩ (fun hHeld=>?_)
     refine wpAnyH_take (i:=0) (v:=?v1) rfl (by kernel_rfl) (by kernel_rfl) (by kernel_rfl) (fun _ _ _ h=>h) (Or.inl ⟨by rfl,?hy1⟩) (by assumption) ?rest1
     case hy1 =>
      intro W' hSw
      obtain ⟨e6,eO,e10⟩:=hSw
      go_simp
      with_reducible rfl
     simp only [List.getElem_toArray,List.getElem_cons_zero,Act.put,List.setIfInBounds_toArray,List.set_cons_zero,List.set_cons_succ]
     refine wpAnyH_take (i:=1) (v:=?v2) rfl (by kernel_rfl) (by kernel_rfl) (by kernel_rfl) (fun _ _ _ h=>h) (Or.inl ⟨by rfl,?hy2⟩) (by assumption) ?rest2
     case hy2 =>
      intro W' hSw
      obtain ⟨e6,eO,e10⟩:=hSw
      go_simp
      with_reducible rfl
     simp only [List.getElem_toArray,List.getElem_cons_zero,List.getElem_cons_succ,Act.put,List.setIfInBounds_toArray,List.set_cons_zero,List.set_cons_succ]
     refine wpAnyH_take (i:=2) (v:=?v3) rfl (by kernel_rfl) (by kernel_rfl) (by kernel_rfl) (fun _ _ _ h=>h) (Or.inl ⟨by rfl,?hy3⟩) (by assumption) ?rest3
     case hy3 =>
      intro W' hSw
      obtain ⟨e6,eO,e10⟩:=hSw
      go_simp
      with_reducible rfl
     simp only [List.getElem_toArray,List.getElem_cons_zero,List.getElem_cons_succ,Act.put,List.setIfInBounds_toArray,List.set_cons_zero,List.set_cons_succ]
     refine wpAnyH_take (i:=3) (v:=?v4) rfl (by kernel_rfl) (by kernel_rfl) (by kernel_rfl) (fun _ _ _ h=>h) (Or.inl ⟨by rfl,?hy4⟩) (by assumption) ?rest4
     case hy4 =>
      intro W' hSw
      obtain ⟨e6,eO,e10⟩:=hSw
      go_simp
      with_reducible rfl
     simp only [List.getElem_toArray,List.getElem_cons_zero,List.getElem_cons_succ,Act.put,List.setIfInBounds_toArray,List.set_cons_zero,List.set_cons_succ]
     refine wpAnyH_take (i:=5) (v:=?v5) rfl (by kernel_rfl) (by kernel_rfl) (by kernel_rfl) (fun _ _ _ h=>h) (Or.inl ⟨by rfl,?hy5⟩) (by assumption) ?rest5
     case hy5 =>
      intro W' hSw
      obtain ⟨e6,eO,e10⟩:=hSw
      go_simp
      with_reducible rfl
     simp only [List.getElem_toArray,List.getElem_cons_zero,List.getElem_cons_succ,Act.put,List.setIfInBounds_toArray,List.set_cons_zero,List.set_cons_succ]
     refine wpAnyH_take (i:=6) (v:=?v6) rfl (by kernel_rfl) (by kernel_rfl) (by kernel_rfl) (fun _ _ _ h=>h) (Or.inl ⟨by rfl,?hy6⟩) (by assumption) ?rest6
     case hy6 =>
      intro W' hSw
      obtain ⟨e6,eO,e10⟩:=hSw
      go_simp
      with_reducible rfl
     simp only [List.getElem_toArray,List.getElem_cons_zero,List.getElem_cons_succ,Act.put,List.setIfInBounds_toArray,List.set_cons_zero,List.set_cons_succ]
     refine wpAnyH_take (i:=7) (v:=?v7) rfl (by kernel_rfl) (by kernel_rfl) (by kernel_rfl) (fun _ _ _ h=>h) (Or.inl ⟨by rfl,?hy7⟩) (by assumption) ?rest7
     case hy7 =>
      intro W' hSw
      obtain ⟨e6,eO,e10⟩:=hSw
      go_simp
      with_reducible rfl
     simp only [List.getElem_toArray,List.getElem_cons_zero,List.getElem_cons_succ,Act.put,List.setIfInBounds_toArray,List.set_cons_zero,List.set_cons_succ]
     refine wpAnyH_take (i:=8) (v:=?v8) rfl (by kernel_rfl) (by kernel_rfl) (by kernel_rfl) (fun _ _ _ h=>h) (Or.inl ⟨by rfl,?hy8⟩) (by assumption) ?rest8
     case hy8 =>
      intro W' hSw
      obtain ⟨e6,eO,e10⟩:=hSw
      go_simp
      with_reducible rfl
     simp only [List.getElem_toArray,List.getElem_cons_zero,List.getElem_cons_succ,Act.put,List.setIfInBounds_toArray,List.set_cons_zero,List.set_cons_succ]
     refine wpAnyH_take (i:=9) (v:=?v9) rfl (by kernel_rfl) (by kernel_rfl) (by kernel_rfl) (fun _ _ _ h=>h) (Or.inl ⟨by rfl,?hy9⟩) (by assumption) ?rest9
     case hy9 =>
      intro W' hSw
      obtain ⟨e6,eO,e10⟩:=hSw
      go_simp
      with_reducible rfl
     simp only [List.getElem_toArray,List.getElem_cons_zero,List.getElem_cons_succ,Act.put,List.setIfInBounds_toArray,List.set_cons_zero,List.set_cons_succ]
     refine wpAnyH_take (i:=10) (v:=?v10) rfl (by kernel_rfl) (by kernel_rfl) (by kernel_rfl) (fun _ _ _ h=>h) (Or.inl ⟨by rfl,?hy10⟩) (by assumption) ?rest10
     case hy10=>
      intro W' hSw
      obtain ⟨e6,eO,e10⟩:=hSw
      go_simp
      with_reducible rfl
     simp only [List.getElem_toArray,List.getElem_cons_zero,List.getElem_cons_succ,Act.put,List.setIfInBounds_toArray,List.set_cons_zero,List.set_cons_succ]
     refine wpAnyH_take (i:=11) (v:=?v11) rfl (by kernel_rfl) (by kernel_rfl) (by kernel_rfl) (fun _ _ _ h=>h) (Or.inl ⟨by rfl,?hy11⟩) (by assumption) ?rest11
     case hy11=>
      intro W' hSw
      obtain ⟨e6,eO,e10⟩:=hSw
      go_simp
      with_reducible rfl
     simp only [List.getElem_toArray,List.getElem_cons_zero,List.getElem_cons_succ,Act.put,List.setIfInBounds_toArray,List.set_cons_zero,List.set_cons_succ]
     refine wpAnyH_take (i:=12) (v:=?v12) rfl (by kernel_rfl) (by kernel_rfl) (by kernel_rfl) (fun _ _ _ h=>h) (Or.inl ⟨by rfl,?hy12⟩) (by assumption) ?rest12
     case hy12=>
      intro W' hSw
      obtain ⟨e6,eO,e10⟩:=hSw
      go_simp
      with_reducible rfl
     simp only [List.getElem_toArray,List.getElem_cons_zero,List.getElem_cons_succ,Act.put,List.setIfInBounds_toArray,List.set_cons_zero,List.set_cons_succ]
     refine wpAnyH_take (i:=13) (v:=?v13) rfl (by kernel_rfl) (by kernel_rfl) (by kernel_rfl) (fun _ _ _ h=>h) (Or.inl ⟨by rfl,?hy13⟩) (by assumption) ?rest13
     case hy13 =>
      intro W' hSw
      obtain ⟨e6,eO,e10⟩:=hSw
      go_simp
      with_reducible rfl
     simp only [List.getElem_toArray,List.getElem_cons_zero,List.getElem_cons_succ,Act.put,List.setIfInBounds_toArray,List.set_cons_zero,List.set_cons_succ]
     refine wpAnyH_take (i:=14) (v:=?v14) rfl (by kernel_rfl) (by kernel_rfl) (by kernel_rfl) (fun _ _ _ h=>h) (Or.inl ⟨by rfl,?hy14⟩) (by assumption) ?rest14
     case hy14 =>
      intro W' hSw
      obtain ⟨e6,eO,e10⟩:=hSw
      go_simp
      with_reducible rfl
     simp only [List.getElem_toArray,List.getElem_cons_zero,List.getElem_cons_succ,Act.put,List.setIfInBounds_toArray,List.set_cons_zero,List.set_cons_succ]
     refine wpAnyH_take (i:=15) (v:=?v15) rfl (by kernel_rfl) (by kernel_rfl) (by kernel_rfl) (fun _ _ _ h=>h) (Or.inl ⟨by rfl,?hy15⟩) (by assumption) ?rest15
     case hy15 =>
      intro W' hSw
      obtain ⟨e6,eO,e10⟩:=hSw
      go_simp
      with_reducible rfl
     simp only [List.getElem_toArray,List.getElem_cons_zero,List.getElem_cons_succ,Act.put,List.setIfInBounds_toArray,List.set_cons_zero,List.set_cons_succ]
     refine wpAnyH_ready (rs:=[4]) (by kernel_rfl) (by simp) ?_
     refine AllReadyH.cons (i:=4) rfl (fun K hK=>?_) AllReadyH.nil
     go_simp
     refine hK.out _ _ (⟨d6,dO,d10⟩) (fun hHeld=>?_)
     clear hK K
     refine wpAnyH_ready (rs:=[16]) (by kernel_rfl) (by simp) ?_
     refine AllReadyH.cons (i:=16) rfl (fun K hK=>?_) AllReadyH.nil
     go_simp
     try rw [hor]
     refine hK.out _ _ (⟨d6,dO,d10⟩) (fun hHeld=>?_)
     clear hK K
     refine wpAnyH_take (i:=17) (v:=?v16) rfl (by kernel_rfl) (by kernel_rfl) (by kernel_rfl) (fun _ _ _ h=>h) (Or.inl ⟨by rfl,?hy16⟩) (by assumption) ?rest16
     case hy16 =>
      intro W' hSw
      obtain ⟨e6,eO,e10⟩:=hSw
      go_simp
      with_reducible rfl
     simp only [List.getElem_toArray,List.getElem_cons_zero,List.getElem_cons_succ,Act.put,List.setIfInBounds_toArray,List.set_cons_zero,List.set_cons_succ]
     refine wpAnyH_ready (rs:=[18]) (by kernel_rfl) (by simp) ?_
     refine AllReadyH.cons (i:=18) rfl (fun K hK=>?_) AllReadyH.nil
     go_simp
     try rw [hW7]
     refine hK.out _ _ (⟨k6,kO,k10⟩) (fun hHeld=>?_)
     clear hK K
     refine wpAnyH_done (by kernel_rfl) ?_ _
     clear hHeld d6 dO d10 c33 f33 hW7
     gi_wp2
     go_roundw
     case rel =>
      have e1:((T+1:Nat):Int)=(T:Int)+1:=by omega
      rw [e1] at HI8 HK8
      exact ⟨j+1,_,by omega,by congr 1;rw [ytJ.out];omega,Lib.hid (by rw [show T0+(j+1)=T+1 by rw [HT.out];omega];exact HI8.out),HK8⟩
     case measure=>simp [Go.RowKit.intOf]
    ·have h8':¬ (T:Int)%8=0:=by omega
     gi_wp2
     obtain ⟨W6,hW6⟩:∃ W6,wr=W6:=⟨_,rfl⟩
     obtain ⟨L1,HL1⟩:∃ L1,Hid (L1=L):=⟨_,rfl⟩
     have HI6:Hid (PkI w.heap.size n p len c m wd w v L1 T W6):=Lib.hid (by rw [← hW6,HL1.out];exact HI.out)
     have HK6:Hid (KeepsOthers W W6∧Below w.heap.size W W6):=Lib.hid (by rw [← hW6];exact HK2.out)
     have hl1:Hid (L1.length=T/8+1):=Lib.hid (by rw [HL1.out,hLl.out];omega)
     have hg1:Hid (L1.getD (T/8) 0=UInt8.ofNat (bv b (T/8) (T%8))):=Lib.hid (by
      rw [HL1.out,HLL.out,yrF b (by omega),show min 8 (T-8*(T/8))=T%8 by omega])
     have hs1:Hid (L1.set (T/8) (UInt8.ofNat (bv b (T/8) (T%8+1)))=pkL b (T+1)):=Lib.hid (by
      rw [yuW b h8,HL1.out,HLL.out])
     rw [hW6]
     clear hW6
     clear c10 cO
     obtain ⟨gb,cap,hv6,hcap,vH,yb6,yhl,yfb⟩:=HI6.out.drew.set (by rw [hl1.out];omega)
     subst hv6
     have yqY:=Lib.hid yfb
     obtain ⟨m1,HM1⟩:∃ m1,Hid (m1=L1.length):=⟨_,rfl⟩
     have hm1:T/8<m1:=by rw [HM1.out,hl1.out];omega
     obtain ⟨X,HX⟩:∃ X,Hid (X=bv b (T/8) (T%8)):=⟨_,rfl⟩
     obtain ⟨Y,HY⟩:∃ Y:UInt8,Hid (Y=UInt8.ofNat (bv b (T/8) (T%8+1))):=⟨_,rfl⟩
     obtain ⟨q,HQ⟩:∃ q,Hid (q=T/8):=⟨_,rfl⟩
     have hq:IntKind.i64.wrap ((T:Int)/8)=(q:Int):=by rw [HQ.out,IntKind.wrap_i64];omega
     have hq1:(q:Int)<(m1:Int):=by rw [HQ.out];omega
     rw [← HQ.out] at hm1
     have c33:W6.drew.cell? ⟨gb,q,none⟩=some (.int .u8 (X:Int)):=by
      have h:=vH (T/8) (by rw [hl1.out];omega)
      rw [hg1.out,ykd b uV.out _ (by omega),← HX.out,← HQ.out] at h;exact h
     have f33:W6.drew.frozen? ⟨gb,q,none⟩=false:=yb6 _
     have hXl:X<256:=by
      have h:=ymW b uV.out (T/8) (T%8) (by omega)
      have h5:0<2^(8-T%8):=Nat.pow_pos (by decide)
      rw [HX.out];omega
     have d6:W6.drew.cell? ⟨w.heap.size,0,none⟩=some (.int .u64 (m:Int)):=by
      have h:=HI6.out.drew.b6;simp [World.cell?,h]
     have dO:W6.drew.cell? ⟨w.heap.size+1+1,0,none⟩=some (.slice (some ⟨gb,0,none⟩) m1 cap):=by
      have h:=HI6.out.drew.out;rw [← HM1.out] at h;simp [World.cell?,h]
     have d10:W6.drew.cell? ⟨w.heap.size+1+1+1,0,none⟩=some (.int .i64 (T:Int)):=by
      have h:=HI6.out.drew.b10;simp [World.cell?,h]
     have g0:=yhl w.heap.size (by omega) (by omega)
     have g2:=yhl (w.heap.size+1+1) (by omega) (by omega)
     have g3:=yhl (w.heap.size+1+1+1) (by omega) (by omega)
     obtain ⟨bt,HBt⟩:∃ bt,Hid (bt=b T):=⟨_,rfl⟩
     have ywc:bt<2:=by rw [HBt.out];exact uV.out T
     obtain ⟨r7,HR7⟩:∃ r7,Hid (r7=7-T%8):=⟨_,rfl⟩
     have ytB:r7≤7:=by rw [HR7.out];omega
     have hr7:IntKind.i64.wrap (7-(T:Int).tmod 8)=(r7:Int):=by
      rw [Int.tmod_eq_emod_of_nonneg (by omega),IntKind.wrap_i64,HR7.out];omega
     have hr70:0≤(r7:Int):=by omega
     have yiQ:IntKind.u8.wrap (bits .and .u64 ((d:Int)/2^bit) 1)=(bt:Int):=by rw [yo6 hd,HBt.out,HbT.out]
     have hpw:bt*2^r7<256:=by
      have h6:2^r7≤2^7:=Nat.pow_le_pow_right (by decide) ytB
      have h7:bt*2^r7≤1*2^r7:=Nat.mul_le_mul_right _ (by omega)
      omega
     have ywd:IntKind.u8.wrap ((bt:Int)*2^r7)=((bt*2^r7:Nat):Int):=by
      rw [IntKind.wrap_u8',show (bt:Int)*2^r7=((bt*2^r7:Nat):Int) by rw [Int.natCast_mul,Int.natCast_pow];rfl];omega
     have hor:bits .or .u8 (X:Int) ((bt*2^r7:Nat):Int)=((Y.toNat:Nat):Int):=by
      rw [u8_or_nat X _ hXl hpw,HX.out,HBt.out,HR7.out,HY.out,ykd b uV.out _ (by omega),← yvu b uV.out (T/8) (by omega),show 8*(T/8)+T%8=T by omega]
     obtain ⟨sh,HSH⟩:∃ sh,Hid (sh=bt*2^r7):=⟨_,rfl⟩
     rw [← HSH.out] at ywd hor
     obtain ⟨W7,hW7⟩:∃ W7,W6.drew.setCell ⟨gb,q,none⟩ (.int .u8 ((Y.toNat:Nat):Int))=W7:=⟨_,rfl⟩
     have HI7:Hid (PkI w.heap.size n p len c m wd w (.slice (some ⟨gb,0,none⟩) m1 cap) (pkL b (T+1)) T W7):=Lib.hid (by
      have h:=(yqY.out q Y (by rw [← HM1.out];omega)).1
      rw [hW7] at h
      rwa [← hs1.out,← HY.out,← HQ.out,HM1.out])
     have HK7:Hid (KeepsOthers W W7∧Below w.heap.size W W7):=Lib.hid (by
      have h:=(yqY.out q Y (by rw [← HM1.out];omega)).2
      rw [hW7] at h
      exact ⟨HK6.out.1.trans ((KeepsOthers.drew W6).trans (by rw [← hW7];exact KeepsOthers.setCell _ _ _)),HK6.out.2.trans (((Below.refl _ W6).drew).trans h)⟩)
     have k6:W7.cell? ⟨w.heap.size,0,none⟩=some (.int .u64 (m:Int)):=by have h:=HI7.out.b6;simp [World.cell?,h]
     have kO:W7.cell? ⟨w.heap.size+1+1,0,none⟩=some (.slice (some ⟨gb,0,none⟩) m1 cap):=by have h:=HI7.out.out;simp [World.cell?,h]
     have k10:W7.cell? ⟨w.heap.size+1+1+1,0,none⟩=some (.int .i64 (T:Int)):=by have h:=HI7.out.b10;simp [World.cell?,h]
     have k10z:W7.frozen? ⟨w.heap.size+1+1+1,0,none⟩=false:=by have h:=HI7.out.b10;simp [World.frozen?,h]
     have HI8:=Lib.hid (HI7.out.put10 (T+1))
     have HK8:Hid (KeepsOthers W (W7.setCell ⟨w.heap.size+1+1+1,0,none⟩ (.int .i64 ((T+1:Nat):Int)))∧Below w.heap.size W (W7.setCell ⟨w.heap.size+1+1+1,0,none⟩ (.int .i64 ((T+1:Nat):Int)))):=Lib.hid ⟨HK7.out.1.trans (KeepsOthers.setCell _ _ _),HK7.out.2.trans ((Below.refl _ W7).setCell (p:=⟨w.heap.size+1+1+1,0,none⟩) (by show w.heap.size≤w.heap.size+1+1+1;omega) _)⟩
     clear yfb vH yb6 yhl hXl ywc hpw
     refine yaw (S:=fun W'=>W'.cell? ⟨w.heap.size,0,none⟩=some (.int .u64 (m:Int))∧W'.cell? ⟨w.heap.size+1+1,0,none⟩=some (.slice (some ⟨gb,0,none⟩) m1 cap)∧W'.cell? ⟨w.heap.size+1+1+1,0,none⟩=some (.int .i64 (T:Int))) (by kernel_rfl) (by kernel_rfl) (fun ⟨_,_,h⟩=>h) ⟨d6,dO,d10⟩ (fun hHeld=>?_)
     refine wpAnyH_take (i:=0) (v:=?v17) rfl (by kernel_rfl) (by kernel_rfl) (by kernel_rfl) (fun _ _ _ h=>h) (Or.inl ⟨by rfl,?hy17⟩) (by assumption) ?rest17
     case hy17 =>
      intro W' hSw
      obtain ⟨e6,eO,e10⟩:=hSw
      go_simp
      with_reducible rfl
     simp only [List.getElem_toArray,List.getElem_cons_zero,Act.put,List.setIfInBounds_toArray,List.set_cons_zero,List.set_cons_succ]
     refine wpAnyH_take (i:=1) (v:=?v18) rfl (by kernel_rfl) (by kernel_rfl) (by kernel_rfl) (fun _ _ _ h=>h) (Or.inl ⟨by rfl,?hy18⟩) (by assumption) ?rest18
     case hy18 =>
      intro W' hSw
      obtain ⟨e6,eO,e10⟩:=hSw
      go_simp
      with_reducible rfl
     simp only [List.getElem_toArray,List.getElem_cons_zero,List.getElem_cons_succ,Act.put,List.setIfInBounds_toArray,List.set_cons_zero,List.set_cons_succ]
     refine wpAnyH_take (i:=2) (v:=?v19) rfl (by kernel_rfl) (by kernel_rfl) (by kernel_rfl) (fun _ _ _ h=>h) (Or.inl ⟨by rfl,?hy19⟩) (by assumption) ?rest19
     case hy19 =>
      intro W' hSw
      obtain ⟨e6,eO,e10⟩:=hSw
      go_simp
      with_reducible rfl
     simp only [List.getElem_toArray,List.getElem_cons_zero,List.getElem_cons_succ,Act.put,List.setIfInBounds_toArray,List.set_cons_zero,List.set_cons_succ]
     refine wpAnyH_take (i:=3) (v:=?v20) rfl (by kernel_rfl) (by kernel_rfl) (by kernel_rfl) (fun _ _ _ h=>h) (Or.inl ⟨by rfl,?hy20⟩) (by assumption) ?rest20
     case hy20 =>
      intro W' hSw
      obtain ⟨e6,eO,e10⟩:=hSw
      go_simp
      with_reducible rfl
     simp only [List.getElem_toArray,List.getElem_cons_zero,List.getElem_cons_succ,Act.put,List.setIfInBounds_toArray,List.set_cons_zero,List.set_cons_succ]
     refine wpAnyH_take (i:=5) (v:=?v21) rfl (by kernel_rfl) (by kernel_rfl) (by kernel_rfl) (fun _ _ _ h=>h) (Or.inl ⟨by rfl,?hy21⟩) (by assumption) ?rest21
     case hy21 =>
      intro W' hSw
      obtain ⟨e6,eO,e10⟩:=hSw
      go_simp
      with_reducible rfl
     simp only [List.getElem_toArray,List.getElem_cons_zero,List.getElem_cons_succ,Act.put,List.setIfInBounds_toArray,List.set_cons_zero,List.set_cons_succ]
     refine wpAnyH_take (i:=6) (v:=?v22) rfl (by kernel_rfl) (by kernel_rfl) (by kernel_rfl) (fun _ _ _ h=>h) (Or.inl ⟨by rfl,?hy22⟩) (by assumption) ?rest22
     case hy22 =>
      intro W' hSw
      obtain ⟨e6,eO,e10⟩:=hSw
      go_simp
      with_reducible rfl
     simp only [List.getElem_toArray,List.getElem_cons_zero,List.getElem_cons_succ,Act.put,List.setIfInBounds_toArray,List.set_cons_zero,List.set_cons_succ]
     refine wpAnyH_take (i:=7) (v:=?v23) rfl (by kernel_rfl) (by kernel_rfl) (by kernel_rfl) (fun _ _ _ h=>h) (Or.inl ⟨by rfl,?hy23⟩) (by assumption) ?rest23
     case hy23 =>
      intro W' hSw
      obtain ⟨e6,eO,e10⟩:=hSw
      go_simp
      with_reducible rfl
     simp only [List.getElem_toArray,List.getElem_cons_zero,List.getElem_cons_succ,Act.put,List.setIfInBounds_toArray,List.set_cons_zero,List.set_cons_succ]
     refine wpAnyH_take (i:=8) (v:=?v24) rfl (by kernel_rfl) (by kernel_rfl) (by kernel_rfl) (fun _ _ _ h=>h) (Or.inl ⟨by rfl,?hy24⟩) (by assumption) ?rest24
     case hy24 =>
      intro W' hSw
      obtain ⟨e6,eO,e10⟩:=hSw
      go_simp
      with_reducible rfl
     simp only [List.getElem_toArray,List.getElem_cons_zero,List.getElem_cons_succ,Act.put,List.setIfInBounds_toArray,List.set_cons_zero,List.set_cons_succ]
     refine wpAnyH_take (i:=9) (v:=?v25) rfl (by kernel_rfl) (by kernel_rfl) (by kernel_rfl) (fun _ _ _ h=>h) (Or.inl ⟨by rfl,?hy25⟩) (by assumption) ?rest25
     case hy25 =>
      intro W' hSw
      obtain ⟨e6,eO,e10⟩:=hSw
      go_simp
      with_reducible rfl
     simp only [List.getElem_toArray,List.getElem_cons_zero,List.getElem_cons_succ,Act.put,List.setIfInBounds_toArray,List.set_cons_zero,List.set_cons_succ]
     refine wpAnyH_take (i:=10) (v:=?v26) rfl (by kernel_rfl) (by kernel_rfl) (by kernel_rfl) (fun _ _ _ h=>h) (Or.inl ⟨by rfl,?hy26⟩) (by assumption) ?rest26
     case hy26 =>
      intro W' hSw
      obtain ⟨e6,eO,e10⟩:=hSw
      go_simp
      with_reducible rfl
     simp only [List.getElem_toArray,List.getElem_cons_zero,List.getElem_cons_succ,Act.put,List.setIfInBounds_toArray,List.set_cons_zero,List.set_cons_succ]
     refine wpAnyH_take (i:=11) (v:=?v27) rfl (by kernel_rfl) (by kernel_rfl) (by kernel_rfl) (fun _ _ _ h=>h) (Or.inl ⟨by rfl,?hy27⟩) (by assumption) ?rest27
     case hy27 =>
      intro W' hSw
      obtain ⟨e6,eO,e10⟩:=hSw
      go_simp
      with_reducible rfl
     simp only [List.getElem_toArray,List.getElem_cons_zero,List.getElem_cons_succ,Act.put,List.setIfInBounds_toArray,List.set_cons_zero,List.set_cons_succ]
     refine wpAnyH_take (i:=12) (v:=?v28) rfl (by kernel_rfl) (by kernel_rfl) (by kernel_rfl) (fun _ _ _ h=>h) (Or.inl ⟨by rfl,?hy28⟩) (by assumption) ?rest28
     case hy28 =>
      intro W' hSw
      obtain ⟨e6,eO,e10⟩:=hSw
      go_simp
      with_reducible rfl
     simp only [List.getElem_toArray,List.getElem_cons_zero,List.getElem_cons_succ,Act.put,List.setIfInBounds_toArray,List.set_cons_zero,List.set_cons_succ]
     refine wpAnyH_take (i:=13) (v:=?v29) rfl (by kernel_rfl) (by kernel_rfl) (by kernel_rfl) (fun _ _ _ h=>h) (Or.inl ⟨by rfl,?hy29⟩) (by assumption) ?rest29
     case hy29 =>
      intro W' hSw
      obtain ⟨e6,eO,e10⟩:=hSw
      go_simp
      with_reducible rfl
     simp only [List.getElem_toArray,List.getElem_cons_zero,List.getElem_cons_succ,Act.put,List.setIfInBounds_toArray,List.set_cons_zero,List.set_cons_succ]
     refine wpAnyH_take (i:=14) (v:=?v30) rfl (by kernel_rfl) (by kernel_rfl) (by kernel_rfl) (fun _ _ _ h=>h) (Or.inl ⟨by rfl,?hy30⟩) (by assumption) ?rest30
     case hy30 =>
      intro W' hSw
      obtain ⟨e6,eO,e10⟩:=hSw
      go_simp
      with_reducible rfl
     simp only [List.getElem_toArray,List.getElem_cons_zero,List.getElem_cons_succ,Act.put,List.setIfInBounds_toArray,List.set_cons_zero,List.set_cons_succ]
     refine wpAnyH_take (i:=15) (v:=?v31) rfl (by kernel_rfl) (by kernel_rfl) (by kernel_rfl) (fun _ _ _ h=>h) (Or.inl ⟨by rfl,?hy31⟩) (by assumption) ?rest31
     case hy31 =>
      intro W' hSw
      obtain ⟨e6,eO,e10⟩:=hSw
      go_simp
      with_reducible rfl
     simp only [List.getElem_toArray,List.getElem_cons_zero,List.getElem_cons_succ,Act.put,List.setIfInBounds_toArray,List.set_cons_zero,List.set_cons_succ]
     refine wpAnyH_ready (rs:=[4]) (by kernel_rfl) (by simp) ?_
     refine AllReadyH.cons (i:=4) rfl (fun K hK=>?_) AllReadyH.nil
     go_simp
     refine hK.out _ _ (⟨d6,dO,d10⟩) (fun hHeld=>?_)
     clear hK K
     refine wpAnyH_ready (rs:=[16]) (by kernel_rfl) (by simp) ?_
     refine AllReadyH.cons (i:=16) rfl (fun K hK=>?_) AllReadyH.nil
     go_simp
     try rw [hor]
     refine hK.out _ _ (⟨d6,dO,d10⟩) (fun hHeld=>?_)
     clear hK K
     refine wpAnyH_take (i:=17) (v:=?v32) rfl (by kernel_rfl) (by kernel_rfl) (by kernel_rfl) (fun _ _ _ h=>h) (Or.inl ⟨by rfl,?hy32⟩) (by assumption) ?rest32
     case hy32 =>
      intro W' hSw
      obtain ⟨e6,eO,e10⟩:=hSw
      go_simp
      with_reducible rfl
     simp only [List.getElem_toArray,List.getElem_cons_zero,List.getElem_cons_succ,Act.put,List.setIfInBounds_toArray,List.set_cons_zero,List.set_cons_succ]
     refine wpAnyH_ready (rs:=[18]) (by kernel_rfl) (by simp) ?_
     refine AllReadyH.cons (i:=18) rfl (fun K hK=>?_) AllReadyH.nil
     go_simp
     try rw [hW7]
     refine hK.out _ _ (⟨k6,kO,k10⟩) (fun hHeld=>?_)
     clear hK K
     refine wpAnyH_done (by kernel_rfl) ?_ _
     clear hHeld d6 dO d10 c33 f33 hW7
     gi_wp2
     go_roundw
     case rel =>
      have e1:((T+1:Nat):Int)=(T:Int)+1:=by omega
      rw [e1] at HI8 HK8
      exact ⟨j+1,_,by omega,by congr 1;rw [ytJ.out];omega,Lib.hid (by rw [show T0+(j+1)=T+1 by rw [HT.out];omega];exact HI8.out),HK8⟩
     case measure=>simp [Go.RowKit.intOf]
   ·obtain rfl:j=wd:=by omega
    have ebit:(j:Int)-1-(j:Int)=-1:=by omega
    rw [ebit]
    gi_wp2
    exact ykA.out _ _ (by rw [← HT.out];exact HI.out) HK2.out.1 HK2.out.2
 case done =>
  rintro D xs W hD hxs ⟨v,hI⟩ hK
  have hxl:xs.length=k:=by have h:=congrArg List.length hxs;rwa [List.length_map,List.length_range] at h
  rw [yiE l n xs hxs,hxl,← HR.out] at hI
  have cO:W.cell? ⟨w.heap.size+1+1,0,none⟩=some v:=by simp [World.cell?,hI.out]
  have hD5:=hI.keep (grownBy_putObj' W D (.deferred none)) (fun r e=>by cases e;exact ⟨by omega,_,hK,rfl⟩) hI.lt
  have yD:=yp3 hD5.own hD5.bel
  clear hI hD5
  gi_wp2
  refine ⟨by simp,.inl ⟨_,_,rfl,run_takeDeferred hK,?_⟩⟩
  refine ⟨_,?_,v,rfl,yD⟩
  simp [results,Tryz.f150,go_sem]
 case stop =>
  rintro D c pre W hD _ h
  exact h.elim
end
end Go.Proofs.YtgepehlpjpccaaaGreatDoor
