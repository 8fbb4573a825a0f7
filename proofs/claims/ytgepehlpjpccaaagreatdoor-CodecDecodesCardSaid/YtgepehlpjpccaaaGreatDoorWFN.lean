/- Contracts. -/
import Derived.Test.YtgepehlpjpccaaaGreatDoorWEC
set_option maxHeartbeats 4000000
set_option maxRecDepth 100000
namespace Go.Proofs.YtgepehlpjpccaaaGreatDoor
section
open Go.RowKit Go.Shelf
open Go.Lib
attribute [local go_sem] Oper.semAt_some
theorem yoZ {w W:World} {v:Value} {L:Lb} (h:W.ownsRow w.heap.size 5 1 v L.length (zN L)) (hb:Be w W):Grew w.heap.size w (.slice none 0 0) L W v:=by
 refine ⟨h,⟨hb.os,hb.tape,hb.output,hb.size,fun k hk _=>hb.block k hk⟩,?_⟩
 cases e:v.ownBlock with
 | none=>exact .inl rfl
 | some j=>exact .inr ⟨j,rfl,yal h e⟩
theorem ytW {d e:Nat} (hd:d<zR):IntKind.u8.wrap (bits .and .u64 ((d:Int)/2^e) 1)=((d/2^e%2:Nat):Int):=by
 have h0:d/2^e<18446744073709551616:=Nat.lt_of_le_of_lt (Nat.div_le_self _ _) hd
 have h1:(d:Int)/2^e=((d/2^e:Nat):Int):=by rw [Int.natCast_ediv,Int.natCast_pow];rfl
 have h2:=u64_and_nat (d/2^e) 1 h0 (by decide)
 rw [nat_mask1] at h2
 rw [h1,show (1:Int)=((1:Nat):Int) from rfl,h2,IntKind.wrap_u8']
 omega
theorem yli (w:World) (y:UInt8):Bs (w.alloc (.cells #[.int .u8 (y.toNat:Int)] 5)) (some ⟨w.heap.size,0,none⟩) [y]:=by
 refine .inr ⟨w.heap.size,0,rfl,by simp,fun j hj=>?_⟩
 obtain rfl:j=0:=by simp at hj;omega
 have:=World.alloc_heap_new w (.cells #[.int .u8 (y.toNat:Int)] 5)
 simp only [World.cell?,this]
 rfl
theorem ybY {W:World} {o:Obj} {k:Nat} (h:W.heap.size=k):(W.alloc o).heap[k]?=some o:=by subst h;exact World.alloc_heap_new W o
theorem jM {W:World} {o o':Obj} {k:Nat} (h:W.heap[k]?=some o'):(W.alloc o).heap[k]?=some o':=(Below.heap_alloc W o k (Array.getElem?_eq_some_iff.1 h).1).trans h
theorem ymV (p:Oa) (c n len k m wd:Nat) (l:Lb) (w:World) (HL:Hid (len=l.length)) (HK:Hid (k=len/n)) (h1:1≤n) (h2:n≤8) (hl:len≤1048576) (hc:len≤c) (hm:∀ g ∈ gl n k l,m≤g) (hwd:wd≤64) (hbs:Bs w p l) :
  Calls Tryz.prog 150 #[.slice p len c,.int .i64 (n:Int),.int .u64 (m:Int),.int .i64 (wd:Int)] w (App w.heap.size w (.slice none 0 0) (pkL (btF (gl n k l) m wd) (k*wd))):=by
 have HBS:Hid (BsN w.heap.size w p l):=h_ hbs.bsN
 have HM:=h_ hm
 have hkl:k≤len:=by rw [HK.out];exact Nat.div_le_self _ _
 obtain ⟨R,HR⟩:=ey (pkL (btF (gl n k l) m wd) (k*wd))
 rw [← HR.out]
 clear hbs hm
 refine (callsIn_wide (n:=9)).1 ?_
 refine callsIn_of_wp_marks Tryz.func150 rfl trivial ?_ rfl
 simp only [Tryz.ntmps150,List.size_toArray,List.length_cons,List.length_nil,Nat.reduceAdd,Nat.reduceSub,Array.replicate_succ,Array.replicate_zero,List.push_toArray,List.append_toArray,List.nil_append,List.cons_append]
 gi_wp2_with (refine ⟨trivial,?_⟩;gi_at_call 188;refine (ydN _ _ _ _ _ _).mono ?_;rintro e w' ⟨rfl,rfl⟩)
 obtain ⟨W0,hW0⟩:∃ W0,((((((w.alloc (.cells #[.int .u64 (m:Int)] 86)).alloc (.cells #[.int .i64 (wd:Int)] 3)).alloc (.cells #[.slice none 0 0] 39)).alloc (.cells #[.int .i64 0] 3)).alloc (.cells #[.slice p len c] 39)).alloc (.cells #[.int .i64 (n:Int)] 3))=W0:=⟨_,rfl⟩
 have hs0:W0.heap.size=w.heap.size+6:=by rw [← hW0];simp
 have hI0:PkI w.heap.size n p len c m wd w (.slice none 0 0) [] 0 W0:=by
  have hb:Be w W0:=by rw [← hW0];exact ((((((Below.refl _ w).alloc nl _).alloc (by simp) _).alloc (by simp<;>omega) _).alloc (by simp<;>omega) _).alloc (by simp<;>omega) _).alloc (by simp<;>omega) _
  rw [← hW0] at hb ⊢
  exact ⟨⟨rfl,.inl ⟨rfl,rfl⟩⟩,(jM (jM (jM (jM (jM (ybY (rfl))))))),(jM (jM (jM (jM (ybY (by simp)))))),(jM (jM (jM (ybY (by simp))))),(jM (jM (ybY (by simp)))),(jM (ybY (by simp))),(ybY (by simp)),hb⟩
 rw [hW0]
 refine wpIn_rangeFunc_ownF rfl (by omega) (gf:=222) (lb:=#[.pointer (some ⟨w.heap.size+1+1+1+1+1,0,none⟩),.pointer (some ⟨w.heap.size+1+1+1+1,0,none⟩)]) rfl trivial (enters_of Tryz.func222 (by kernel_rfl) rfl)
  (ybS _ (by omega) (w.heap.size+1+1+1+1+1) (w.heap.size+1+1+1+1) w.heap.size n len k c l p HL HK h1 h2 hl hc W0 (by omega) (by omega) (by omega) (by simp [World.cell?,hI0.i2]) (by simp [World.cell?,hI0.i1]) (HBS.out.keep hI0.bel)) GE.trans
  (fun W lo o o' hlo ho hc hw=>⟨(Below.refl _ W).grown (grownBy_putObj' W lo o') (by have:=(Array.getElem?_eq_some_iff.1 ho).1;omega) (fun k e=>by cases e;omega),World.putObj_heap_other (by omega),World.putObj_heap_other (by omega)⟩) bR (fun _=>rfl)
  (fun pre W=>∃ v,PkI w.heap.size n p len c m wd w v (pkL (btF (gP l n pre) m wd) (pre.length*wd)) (pre.length*wd) W)
  (fun _ _ _=>False)
  (fun s W W' row h hg hr=>by obtain ⟨v,h⟩:=h;exact ⟨v,h.keep hg (fun r e=>⟨by have:=(hr r e).1;omega,(hr r e).2⟩) h.lt⟩)
  (fun _ _ _ _ _ h _ _=>h)
  ⟨_,by rw [show ([]:List (Pl k)).length=0 from rfl,Nat.zero_mul];exact hI0⟩ ?a1 ?assign ?body ?done ?stop
 case assign =>
  intro lo x W K hK
  gi_wp2
  exact hK
 case body =>
  rintro lo pre x W ⟨v,hI⟩ hlen
  obtain ⟨g,HG⟩:=ey (gN l n x.1)
  have e10:(nb ((l.drop (x.1*n)).take n))=g:=HG.out.symm
  obtain ⟨gs1,HG1⟩:=ey (gP l n pre++[g])
  obtain ⟨T0,HT0⟩:=ey (pre.length*wd)
  obtain ⟨b,HB⟩:=ey (btF gs1 m wd)
  have vK:Hid (∀ t,b t<2):=h_ (fun t=>by rw [HB.out];exact ylg _ _ _ _)
  obtain ⟨d,HD⟩:=ey (g-m)
  have hg:g<zR:=by rw [HG.out];exact ypT l h2 _
  have hgm:m≤g:=HM.out g (by rw [← yfP,HG.out];exact List.mem_map_of_mem (List.mem_range.2 x.2))
  have hd:d<zR:=by rw [HD.out];omega
  have ybp:IntKind.u64.wrap ((g:Int)-(m:Int))=(d:Int):=by
   rw [IntKind.wrap_u64,HD.out];unfold zR at hg;omega
  have HBT:Hid (∀ j,j<wd→b (T0+j)=d/2^(wd-1-j)%2):=h_ (fun j hj=>by
   rw [HB.out,HT0.out,ylh _ _ hj,HD.out,HG1.out,List.getD_eq_getElem?_getD,List.getElem?_append_right (by rw [ydi];exact Nat.le_refl _),ydi,Nat.sub_self];rfl)
  have hI1:PkI w.heap.size n p len c m wd w v (pkL b T0) T0 W:=by
   rw [← HT0.out,yoY (b':=b) (fun t ht=>by
    rw [HB.out,HG1.out];exact (ymU (by rw [ydi,← HT0.out];exact ht)).symm)] at hI
   exact hI
  have HI1:=h_ hI1
  have HEND:Hid (∀ v W3,PkI w.heap.size n p len c m wd w v (pkL b (T0+wd)) (T0+wd) W3→KeepsOthers W W3→Below w.heap.size W W3→KeepsOthers W W3∧GE w.heap.size (w.heap.size+1+1+1+1+1) (w.heap.size+1+1+1+1) W W3 ∧
    ∃ v,PkI w.heap.size n p len c m wd w v (pkL (btF (gP l n (pre++[x])) m wd) ((pre++[x]).length*wd)) ((pre++[x]).length*wd) W3):=h_ (fun v W3 k1 k2 k3=>by
   refine ⟨k2,⟨k3,k1.i2.trans HI1.out.i2.symm,k1.i1.trans HI1.out.i1.symm⟩,v,?_⟩
   rw [yig,← HG.out,← HG1.out,← HB.out,List.length_append,show [x].length=1 from rfl,Nat.succ_mul,← HT0.out]
   exact k1)
  have hT0:T0≤67108864:=by
   have h5:pre.length*wd≤1048576*64:=Nat.mul_le_mul (by omega) hwd
   rw [HT0.out];omega
  have c7:W.cell? ⟨w.heap.size+1,0,none⟩=some (.int .i64 (wd:Int)):=by simp [World.cell?,hI1.b7]
  have hwi:(wd:Int)≤64:=by omega
  have hwp:wrap64 ((wd:Int)-1)=(wd:Int)-1-((0:Nat):Int):=by unfold wrap64;omega
  simp only [e10]
  clear hI hI1 e10
  gi_wp2
  gi_loopw [12] (fun tv wr=>∃ (j:Nat) (v:Value),j≤wd∧tv=.int .i64 ((wd:Int)-1-(j:Int))∧Hid (PkI w.heap.size n p len c m wd w v (pkL b (T0+j)) (T0+j) wr)∧Hid (KeepsOthers W wr∧Below w.heap.size W wr)) (fun tv _=>(Go.RowKit.intOf tv+1).toNat)
  case atStart=>exact ⟨0,v,Nat.zero_le _,by congr 1;omega,h_ (by rw [Nat.add_zero];exact HI1.out),h_ ⟨KeepsOthers.refl _,Below.refl _ _⟩⟩
  case round =>
   clear c7
   obtain ⟨j,v,hj,rfl,HI,HK2⟩:=hrel
   obtain ⟨T,HT⟩:=ey (T0+j)
   rw [← HT.out] at HI
   by_cases hjw:j<wd
   ·obtain ⟨bit,yu1⟩:∃ bit:Nat,Hid (bit=wd-1-j):=⟨_,rfl⟩
    have ebit:(wd:Int)-1-(j:Int)=(bit:Int):=by rw [yu1.out];omega
    have hTl:(T:Int)≤67108928:=by rw [HT.out];omega
    have ygx:(bit:Int)≤63:=by omega
    have HbT:Hid (b T=d/2^bit%2):=h_ (by rw [HT.out,yu1.out];exact HBT.out j hjw)
    rw [ebit]
    have c10:wr.cell? ⟨w.heap.size+1+1+1,0,none⟩=some (.int .i64 (T:Int)):=by simp [World.cell?,HI.out.b10]
    have cO:wr.cell? ⟨w.heap.size+1+1,0,none⟩=some v:=by simp [World.cell?,HI.out.out]
    obtain ⟨L,GL⟩:=ey (pkL b T)
    rw [← GL.out] at HI
    have hLl:Hid (L.length=(T+7)/8):=h_ (by rw [GL.out,vF])
    by_cases h8:T%8=0
    case' pos =>
     have h8':(T:Int)%8=0:=by omega
     have HIa:Hid (PkI w.heap.size n p len c m wd w v L T (wr.alloc (.cells #[.int .u8 (((0:UInt8).toNat:Nat):Int)] 5))):=h_ (HI.out.keep (World.grownBy_alloc wr _ none) (fun r e=>by cases e) HI.out.lt)
     have hko:Hid (KeepsOthers wr (wr.alloc (.cells #[.int .u8 (((0:UInt8).toNat:Nat):Int)] 5))∧Below w.heap.size wr (wr.alloc (.cells #[.int .u8 (((0:UInt8).toNat:Nat):Int)] 5))):=h_ ⟨KeepsOthers.alloc _ _,bR.alloc HI.out.lt _⟩
     have hbs0:=h_ (yli wr 0)
     have hlens:Hid (L.length+1≤140737488355328∧w.heap.size≤(wr.alloc (.cells #[.int .u8 (((0:UInt8).toNat:Nat):Int)] 5)).heap.size):=h_ ⟨by rw [hLl.out];omega,HIa.out.lt⟩
     gi_wp2_with (refine wpListIn_plain (o:=⟨some 28,_,_,_,_,_⟩) rfl fun K hK=>ygb rfl (ya5 (.tmp 26) (.tmp 27) rfl w.heap.size v L.length L rfl rfl HIa.out.own _ 1 1 [0] rfl rfl hbs0.out hlens.out.1 hlens.out.2 ?_))
     intro v5 W5 hg5
     obtain ⟨yM,yeD,yff,hO5,yca⟩:=HIa.out.app hg5
     obtain ⟨L1,HL1⟩:∃ L1,Hid (L1=L++[0]):=⟨L++[0],h_ rfl⟩
     rw [← HL1.out] at yM yeD
     obtain ⟨p5,c5,rfl,-,-⟩:=zA yM
     obtain ⟨m5,HM5⟩:=ey (L1.length)
     rw [← HM5.out] at yeD yff yca ⊢
     have fO:W5.cell? ⟨w.heap.size+1+1,0,none⟩=some v:=by simp [World.cell?,hO5]
     have fOz:W5.frozen? ⟨w.heap.size+1+1,0,none⟩=false:=by simp [World.frozen?,hO5]
     obtain ⟨W6,hW6⟩:∃ W6,W5.setCell ⟨w.heap.size+1+1,0,none⟩ (.slice p5 m5 c5)=W6:=⟨_,rfl⟩
     rw [hW6] at yeD yff yca
     have HI6:=h_ yeD
     have HK6:Hid (KeepsOthers W W6∧Below w.heap.size W W6):=h_ ⟨(HK2.out.1.trans hko.out.1).trans yff,(HK2.out.2.trans hko.out.2).trans yca⟩
     have hl1:Hid (L1.length=T/8+1):=h_ (by rw [HL1.out,List.length_append,hLl.out];show (T+7)/8+1=_;omega)
     have hg1:Hid (L1.getD (T/8) 0=UInt8.ofNat (bv b (T/8) (T%8))):=h_ (by
      rw [HL1.out,List.getD_eq_getElem?_getD,List.getElem?_append_right (by rw [hLl.out];omega),hLl.out,show T/8-(T+7)/8=0 by omega,h8];rfl)
     have hs1:Hid (L1.set (T/8) (UInt8.ofNat (bv b (T/8) (T%8+1)))=pkL b (T+1)):=h_ (by
      rw [ynD b h8,HL1.out,GL.out,h8,List.set_append_right _ _ (by rw [vF];omega),vF,show T/8-(T+7)/8=0 by omega];rfl)
     clear yM yeD yff hO5 yca hg5
     refine hK _ _ ?_
     gi_wp2
     try rw [hW6]
     clear fO fOz hW6 hK
     clear c10 cO
     obtain ⟨gb,cap,hv6,hcap,zS,vW,ypI,GZ⟩:=HI6.out.drew.set (by rw [hl1.out];omega)
     injection hv6 with q1 q2 q3
     have q4:=q3.symm
     subst q1
     subst q2
     subst q4
    case' neg =>
     have h8':¬ (T:Int)%8=0:=by omega
     gi_wp2
     obtain ⟨W6,hW6⟩:∃ W6,wr=W6:=⟨_,rfl⟩
     obtain ⟨L1,HL1⟩:=ey (L)
     have HI6:Hid (PkI w.heap.size n p len c m wd w v L1 T W6):=h_ (by rw [← hW6,HL1.out];exact HI.out)
     have HK6:Hid (KeepsOthers W W6∧Below w.heap.size W W6):=h_ (by rw [← hW6];exact HK2.out)
     have hl1:Hid (L1.length=T/8+1):=h_ (by rw [HL1.out,hLl.out];omega)
     have hg1:Hid (L1.getD (T/8) 0=UInt8.ofNat (bv b (T/8) (T%8))):=h_ (by
      rw [HL1.out,GL.out,yle b (by omega),show min 8 (T-8*(T/8))=T%8 by omega])
     have hs1:Hid (L1.set (T/8) (UInt8.ofNat (bv b (T/8) (T%8+1)))=pkL b (T+1)):=h_ (by
      rw [ynE b h8,HL1.out,GL.out])
     rw [hW6]
     clear hW6
     clear c10 cO
     obtain ⟨gb,cap,hv6,hcap,zS,vW,ypI,GZ⟩:=HI6.out.drew.set (by rw [hl1.out];omega)
     subst hv6
    all_goals
     have HSET:=h_ GZ
     obtain ⟨m1,HM1⟩:=ey (L1.length)
     have hm1:T/8<m1:=by rw [HM1.out,hl1.out];omega
     obtain ⟨X,HX⟩:=ey (bv b (T/8) (T%8))
     obtain ⟨Y,HY⟩:∃ Y:UInt8,Hid (Y=UInt8.ofNat (bv b (T/8) (T%8+1))):=⟨_,rfl⟩
     obtain ⟨q,HQ⟩:=ey (T/8)
     have hq:IntKind.i64.wrap ((T:Int)/8)=(q:Int):=by rw [HQ.out,IntKind.wrap_i64];omega
     have hq1:(q:Int)<(m1:Int):=by rw [HQ.out];omega
     rw [← HQ.out] at hm1
     have c33:W6.drew.cell? ⟨gb,q,none⟩=some (.int .u8 (X:Int)):=by
      have h:=zS (T/8) (by rw [hl1.out];omega)
      rw [hg1.out,yiW b vK.out _ (by omega),← HX.out,← HQ.out] at h;exact h
     have f33:W6.drew.frozen? ⟨gb,q,none⟩=false:=vW _
     have hXl:X<256:=by
      have h:=ylB b vK.out (T/8) (T%8) (by omega)
      have h5:0<2^(8-T%8):=Nat.pow_pos (by decide)
      rw [HX.out];omega
     have d6:W6.drew.cell? ⟨w.heap.size,0,none⟩=some (.int .u64 (m:Int)):=by
      have h:=HI6.out.drew.b6;simp [World.cell?,h]
     have dO:W6.drew.cell? ⟨w.heap.size+1+1,0,none⟩=some (.slice (some ⟨gb,0,none⟩) m1 cap):=by
      have h:=HI6.out.drew.out;rw [← HM1.out] at h;simp [World.cell?,h]
     have d10:W6.drew.cell? ⟨w.heap.size+1+1+1,0,none⟩=some (.int .i64 (T:Int)):=by
      have h:=HI6.out.drew.b10;simp [World.cell?,h]
     have g0:=ypI w.heap.size (by omega) (by omega)
     have g2:=ypI (w.heap.size+1+1) (by omega) (by omega)
     have g3:=ypI (w.heap.size+1+1+1) (by omega) (by omega)
     obtain ⟨bt,HBt⟩:=ey (b T)
     have yuF:bt<2:=by rw [HBt.out];exact vK.out T
     obtain ⟨r7,HR7⟩:=ey (7-T%8)
     have ypn:r7≤7:=by rw [HR7.out];omega
     have hr7:IntKind.i64.wrap (7-(T:Int).tmod 8)=(r7:Int):=by
      rw [Int.tmod_eq_emod_of_nonneg (by omega),IntKind.wrap_i64,HR7.out];omega
     have hr70:0≤(r7:Int):=by omega
     have ybJ:IntKind.u8.wrap (bits .and .u64 ((d:Int)/2^bit) 1)=(bt:Int):=by rw [ytW hd,HBt.out,HbT.out]
     have hpw:bt*2^r7<256:=by
      have h6:2^r7≤2^7:=Nat.pow_le_pow_right (by decide) ypn
      have h7:bt*2^r7≤1*2^r7:=Nat.mul_le_mul_right _ (by omega)
      omega
     have ysq:IntKind.u8.wrap ((bt:Int)*2^r7)=((bt*2^r7:Nat):Int):=by
      rw [IntKind.wrap_u8',show (bt:Int)*2^r7=((bt*2^r7:Nat):Int) by rw [Int.natCast_mul,Int.natCast_pow];rfl];omega
     have hor:bits .or .u8 (X:Int) ((bt*2^r7:Nat):Int)=((Y.toNat:Nat):Int):=by
      rw [u8_or_nat X _ hXl hpw,HX.out,HBt.out,HR7.out,HY.out,yiW b vK.out _ (by omega),← yug b vK.out (T/8) (by omega),show 8*(T/8)+T%8=T by omega]
     obtain ⟨sh,HSH⟩:=ey (bt*2^r7)
     rw [← HSH.out] at ysq hor
     obtain ⟨W7,hW7⟩:∃ W7,W6.drew.setCell ⟨gb,q,none⟩ (.int .u8 ((Y.toNat:Nat):Int))=W7:=⟨_,rfl⟩
     have HI7:Hid (PkI w.heap.size n p len c m wd w (.slice (some ⟨gb,0,none⟩) m1 cap) (pkL b (T+1)) T W7):=h_ (by
      have h:=(HSET.out q Y (by rw [← HM1.out];omega)).1
      rw [hW7] at h
      rwa [← hs1.out,← HY.out,← HQ.out,HM1.out])
     have HK7:Hid (KeepsOthers W W7∧Below w.heap.size W W7):=h_ (by
      have h:=(HSET.out q Y (by rw [← HM1.out];omega)).2
      rw [hW7] at h
      exact ⟨HK6.out.1.trans ((KeepsOthers.drew W6).trans (by rw [← hW7];exact KeepsOthers.setCell _ _ _)),HK6.out.2.trans (((Below.refl _ W6).drew).trans h)⟩)
     have k6:W7.cell? ⟨w.heap.size,0,none⟩=some (.int .u64 (m:Int)):=by have h:=HI7.out.b6;simp [World.cell?,h]
     have kO:W7.cell? ⟨w.heap.size+1+1,0,none⟩=some (.slice (some ⟨gb,0,none⟩) m1 cap):=by have h:=HI7.out.out;simp [World.cell?,h]
     have k10:W7.cell? ⟨w.heap.size+1+1+1,0,none⟩=some (.int .i64 (T:Int)):=by have h:=HI7.out.b10;simp [World.cell?,h]
     have k10z:W7.frozen? ⟨w.heap.size+1+1+1,0,none⟩=false:=by have h:=HI7.out.b10;simp [World.frozen?,h]
     have HI8:=h_ (HI7.out.put10 (T+1))
     have HK8:Hid (KeepsOthers W (W7.setCell ⟨w.heap.size+1+1+1,0,none⟩ (.int .i64 ((T+1:Nat):Int)))∧Below w.heap.size W (W7.setCell ⟨w.heap.size+1+1+1,0,none⟩ (.int .i64 ((T+1:Nat):Int)))):=h_ ⟨HK7.out.1.trans (KeepsOthers.setCell _ _ _),HK7.out.2.trans ((Below.refl _ W7).setCell (p:=⟨w.heap.size+1+1+1,0,none⟩) (by show w.heap.size≤w.heap.size+1+1+1;omega) _)⟩
     clear GZ zS vW ypI hXl yuF hpw
     refine yea (S:=fun W'=>W'.cell? ⟨w.heap.size,0,none⟩=some (.int .u64 (m:Int))∧W'.cell? ⟨w.heap.size+1+1,0,none⟩=some (.slice (some ⟨gb,0,none⟩) m1 cap)∧W'.cell? ⟨w.heap.size+1+1+1,0,none⟩=some (.int .i64 (T:Int))) (by kernel_rfl) (by kernel_rfl) (fun ⟨_,_,h⟩=>h) ⟨d6,dO,d10⟩ (fun hHeld=>?_)
     refine tk (i:=0) (v:=_) rfl (Or.inl ⟨by rfl,by rintro W' ⟨e6,eO,e10⟩;go_simp;with_reducible rfl⟩) ?_
     simp only [sl]
     refine tk (i:=1) (v:=_) rfl (Or.inl ⟨by rfl,by rintro W' ⟨e6,eO,e10⟩;go_simp;with_reducible rfl⟩) ?_
     simp only [sl]
     refine tk (i:=2) (v:=_) rfl (Or.inl ⟨by rfl,by rintro W' ⟨e6,eO,e10⟩;go_simp;with_reducible rfl⟩) ?_
     simp only [sl]
     refine tk (i:=3) (v:=_) rfl (Or.inl ⟨by rfl,by rintro W' ⟨e6,eO,e10⟩;go_simp;with_reducible rfl⟩) ?_
     simp only [sl]
     refine tk (i:=5) (v:=_) rfl (Or.inl ⟨by rfl,by rintro W' ⟨e6,eO,e10⟩;go_simp;with_reducible rfl⟩) ?_
     simp only [sl]
     refine tk (i:=6) (v:=_) rfl (Or.inl ⟨by rfl,by rintro W' ⟨e6,eO,e10⟩;go_simp;with_reducible rfl⟩) ?_
     simp only [sl]
     refine tk (i:=7) (v:=_) rfl (Or.inl ⟨by rfl,by rintro W' ⟨e6,eO,e10⟩;go_simp;with_reducible rfl⟩) ?_
     simp only [sl]
     refine tk (i:=8) (v:=_) rfl (Or.inl ⟨by rfl,by rintro W' ⟨e6,eO,e10⟩;go_simp;with_reducible rfl⟩) ?_
     simp only [sl]
     refine tk (i:=9) (v:=_) rfl (Or.inl ⟨by rfl,by rintro W' ⟨e6,eO,e10⟩;go_simp;with_reducible rfl⟩) ?_
     simp only [sl]
     refine tk (i:=10) (v:=_) rfl (Or.inl ⟨by rfl,by rintro W' ⟨e6,eO,e10⟩;go_simp;with_reducible rfl⟩) ?_
     simp only [sl]
     refine tk (i:=11) (v:=_) rfl (Or.inl ⟨by rfl,by rintro W' ⟨e6,eO,e10⟩;go_simp;with_reducible rfl⟩) ?_
     simp only [sl]
     refine tk (i:=12) (v:=_) rfl (Or.inl ⟨by rfl,by rintro W' ⟨e6,eO,e10⟩;go_simp;with_reducible rfl⟩) ?_
     simp only [sl]
     refine tk (i:=13) (v:=_) rfl (Or.inl ⟨by rfl,by rintro W' ⟨e6,eO,e10⟩;go_simp;with_reducible rfl⟩) ?_
     simp only [sl]
     refine tk (i:=14) (v:=_) rfl (Or.inl ⟨by rfl,by rintro W' ⟨e6,eO,e10⟩;go_simp;with_reducible rfl⟩) ?_
     simp only [sl]
     refine tk (i:=15) (v:=_) rfl (Or.inl ⟨by rfl,by rintro W' ⟨e6,eO,e10⟩;go_simp;with_reducible rfl⟩) ?_
     simp only [sl]
     refine oN (i:=4) rfl fun K hK=>?_
     go_simp
     refine hK.out _ _ (⟨d6,dO,d10⟩) (fun hHeld=>?_)
     clear hK K
     refine oN (i:=16) rfl fun K hK=>?_
     go_simp
     try rw [hor]
     refine hK.out _ _ (⟨d6,dO,d10⟩) (fun hHeld=>?_)
     clear hK K
     refine tk (i:=17) (v:=_) rfl (Or.inl ⟨by rfl,by rintro W' ⟨e6,eO,e10⟩;go_simp;with_reducible rfl⟩) ?_
     simp only [sl]
     refine oN (i:=18) rfl fun K hK=>?_
     go_simp
     try rw [hW7]
     refine hK.out _ _ (⟨k6,kO,k10⟩) (fun hHeld=>?_)
     clear hK K
     refine wpAnyH_done (by kernel_rfl) ?_ _
     clear hHeld d6 dO d10 c33 f33 hW7
     gi_wp2
     go_roundw
     case rel =>
      have e1:((T+1:Nat):Int)=(T:Int)+1:=by omega
      rw [e1] at HI8 HK8
      exact ⟨j+1,_,by omega,by congr 1;rw [yu1.out];omega,h_ (by rw [show T0+(j+1)=T+1 by rw [HT.out];omega];exact HI8.out),HK8⟩
     case measure=>simp [Go.RowKit.intOf]
   ·obtain rfl:j=wd:=by omega
    have ebit:(j:Int)-1-(j:Int)=-1:=by omega
    rw [ebit]
    gi_wp2
    exact HEND.out _ _ (by rw [← HT.out];exact HI.out) HK2.out.1 HK2.out.2
 case done =>
  rintro D xs W hD hxs ⟨v,hI⟩ hK
  have hxl:xs.length=k:=by have h:=congrArg List.length hxs;rwa [List.length_map,List.length_range] at h
  rw [ylc l n xs hxs,hxl,← HR.out] at hI
  have cO:W.cell? ⟨w.heap.size+1+1,0,none⟩=some v:=by simp [World.cell?,hI.out]
  have hD5:=hI.keep (grownBy_putObj' W D (.deferred none)) (fun r e=>by cases e;exact ⟨by omega,_,hK,rfl⟩) hI.lt
  have yF:=yoZ hD5.own hD5.bel
  clear hI hD5
  gi_wp2
  refine ⟨by simp,.inl ⟨_,_,rfl,run_takeDeferred hK,?_⟩⟩
  refine ⟨_,?_,v,rfl,yF⟩
  simp [results,Tryz.f150,go_sem]
 case stop =>
  rintro D c pre W hD _ h
  exact h.elim
end
section
open Go.RowKit
open Go.Lib
theorem ylj (gs:List Nat):wdL gs≤64:=ypU _
theorem yo0 (p:Oa) (c n len:Nat) (l:Lb) (w:World) (HL:Hid (len=l.length)) (h1:1≤n) (h2:n≤8) (hl:len≤1048576) (hc:len≤c) (hpc:p=none→c=0) (hk0:len/n=0) (hb:Bs w p l) :
  Calls Tryz.prog 100 #[.slice p len c,.int .i64 (n:Int)] w (uR (be 4 0++l) w):=by
 have HA:=h_ (yaI p len c n w h1 h2 hl)
 have HN:=h_ (jV w.heap.size (.slice none 0 0) [] 0 4 w (by decide) (by decide) nl (World.ownsRow_nil w w.heap.size 5 1) (by decide))
 have HB:=h_ hb
 have HPC:=h_ hpc
 have hn1:1≤(n:Int):=by omega
 have hn8:(n:Int)≤8:=by omega
 have hlen:(len:Int)≤1048576:=by omega
 have yco:(len:Int)/(n:Int)=0:=by
  have h3:((len/n:Nat):Int)=0:=by rw [hk0];rfl
  rw [Int.natCast_ediv] at h3;exact h3
 have yfd:IntKind.i64.wrap ((len:Int)/(n:Int))=0:=by rw [yco];rfl
 have hquo2:IntKind.i64.wrap ((len:Int).tdiv (n:Int))=0:=by rw [Int.tdiv_eq_ediv_of_nonneg (by omega)];exact yfd
 have hz:IntKind.u64.wrap 0=0:=rfl
 obtain ⟨R,HR⟩:∃ R,Hid (R=be 4 0++l):=⟨be 4 0++l,h_ rfl⟩
 rw [← HR.out]
 clear hb hpc
 go_in
 go_wp2_with fail
 refine (HA.out).mono ?_
 rintro e w' ⟨rfl,rfl⟩
 go_wp2_with fail
 refine (HN.out).mono ?_
 rintro e w1 ⟨v1,rfl,hg1⟩
 obtain ⟨L1,HL1⟩:∃ L1,Hid (L1=[]++be 4 0):=⟨[]++be 4 0,h_ rfl⟩
 rw [← HL1.out] at hg1
 have G1:=h_ hg1
 have hB1:Hid (Be w w1):=h_ (hg1.below nl (by intro k hk;cases hk))
 have yjb:=h_ (yfR p c n 0 len l w1 h1 h2 HL hl hc HPC.out (by rw [hk0,Nat.zero_mul];rfl) (HB.out.below hB1.out))
 rw [List.drop_zero,Nat.sub_zero] at yjb
 clear hg1
 go_wp2_with fail
 refine (yjb.out).mono ?_
 rintro e w2 ⟨rfl,q,d,rfl,hq⟩
 have HQ:=h_ hq
 have hbl:Hid (L1.length+len≤140737488355328∧w.heap.size≤w1.heap.size):=h_ ⟨by rw [HL1.out];show 4+len≤_;omega,hB1.out.size⟩
 clear hq
 go_wp2_with (at_builtin;refine yQ rfl (.tmp 48) (.tmp 51) rfl w.heap.size v1 L1.length L1 rfl rfl G1.out.own q len d l rfl HL.out.symm HQ.out hbl.out.1 hbl.out.2 ?_)
 intro v5 w5 hg5
 have G5:=h_ (G1.out.trans hg5)
 rw [show L1++l=R by rw [HL1.out,HR.out];rfl] at G5
 clear hg5
 go_wp2
 go_ret2
 exact ⟨G5.out.below nl (by intro k hk;cases hk),_,rfl,G5.out.own⟩
theorem yo1 (p:Oa) (c n len k:Nat) (l:Lb) (w:World) (HL:Hid (len=l.length)) (HK:Hid (k=len/n)) (h1:1≤n) (h2:n≤8) (hl:len≤1048576) (hc:len≤c) (hpc:p=none→c=0) (hk0:0<k) (hb:Bs w p l) :
  Calls Tryz.prog 100 #[.slice p len c,.int .i64 (n:Int)] w (uR (ycm n (gl n k l) (l.drop (k*n))) w):=by
 have HA:=h_ (yaI p len c n w h1 h2 hl)
 have hkl:k≤len:=by rw [HK.out];exact Nat.div_le_self _ _
 have HKN:Hid (k*n≤len):=h_ (by rw [HK.out];exact Nat.div_mul_le_self _ _)
 have HN:=h_ (jV w.heap.size (.slice none 0 0) [] k 4 w (by decide) (by decide) nl (World.ownsRow_nil w w.heap.size 5 1) (by omega))
 have HB:=h_ hb
 have HPC:=h_ hpc
 have hn1:1≤(n:Int):=by omega
 have hn8:(n:Int)≤8:=by omega
 have hlen:(len:Int)≤1048576:=by omega
 have yco:(len:Int)/(n:Int)=(k:Int):=by rw [HK.out,Int.natCast_ediv]
 have yfd:IntKind.i64.wrap ((len:Int)/(n:Int))=(k:Int):=by rw [yco,IntKind.wrap_i64];omega
 have hquo2:IntKind.i64.wrap ((len:Int).tdiv (n:Int))=(k:Int):=by rw [Int.tdiv_eq_ediv_of_nonneg (by omega)];exact yfd
 have hz:IntKind.u64.wrap (k:Int)=(k:Int):=by rw [IntKind.wrap_u64];omega
 have hki:0<(k:Int):=by omega
 have ycn:(k:Int)≤1048576:=by omega
 obtain ⟨gs,HGS⟩:=ey (gl n k l)
 have hgl:gs.length=k:=by rw [HGS.out,vV]
 obtain ⟨m,HM⟩:=ey (mnL gs)
 obtain ⟨wd,HWD⟩:=ey (wdL gs)
 have hm:m<18446744073709551616:=by rw [HM.out];exact yqt gs
 have hwd:wd≤64:=by rw [HWD.out];exact ylj gs
 obtain ⟨y,HY⟩:∃ y:UInt8,Hid (y=UInt8.ofNat wd):=⟨_,rfl⟩
 have hyw:y.toNat=wd:=by rw [HY.out,UInt8.toNat_ofNat'];omega
 obtain ⟨PK,HPK⟩:=ey (pkF gs)
 obtain ⟨rs,HRS⟩:=ey (l.drop (k*n))
 have hpkl:PK.length≤8388608+1:=by
  have h5:k*wd≤1048576*64:=Nat.mul_le_mul (by omega) hwd
  rw [HPK.out,pkF,vF,hgl,← HWD.out];omega
 obtain ⟨R,HR⟩:=ey (ycm n gs rs)
 have hR:Hid (be 4 k++be n m++[y]++PK++rs=R):=h_ (by
  rw [HR.out,ycm,pkB,if_neg (by rw [hgl];omega),hgl,← HM.out,← HWD.out,← HY.out,← HPK.out])
 rw [← HGS.out,← HRS.out,← HR.out]
 clear hb hpc yco
 go_in
 go_wp2_with fail
 refine (HA.out).mono ?_
 rintro e w' ⟨rfl,rfl⟩
 go_wp2_with fail
 refine (HN.out).mono ?_
 rintro e w1 ⟨v1,rfl,hg1⟩
 obtain ⟨L1,HL1⟩:∃ L1,Hid (L1=[]++be 4 k):=⟨[]++be 4 k,h_ rfl⟩
 rw [← HL1.out] at hg1
 have G1:=h_ hg1
 have hB1:Hid (Be w w1):=h_ (hg1.below nl (by intro k hk;cases hk))
 have HS:=h_ (yrW p c n len k l w1 HL HK h1 h2 hl hc hk0 (HB.out.below hB1.out))
 clear hg1
 go_wp2_with fail
 refine (HS.out).mono ?_
 rintro e w2 ⟨hb2,rfl⟩
 rw [← HGS.out,← HM.out,← HWD.out]
 have G2:=h_ (G1.out.trans (Grew.of_below G1.out.own hb2))
 have hB2:=th hB1 hb2
 have HN2:=h_ (jV w.heap.size v1 L1 m n w2 h2 (by rw [HL1.out];show 4≤_;decide) hB2.out.size G2.out.own hm)
 clear hb2
 go_wp2_with fail
 refine (HN2.out).mono ?_
 rintro e w3 ⟨v3,rfl,hg3⟩
 obtain ⟨L3,HL3⟩:=ey (L1++be n m)
 rw [← HL3.out] at hg3
 have G3:=h_ (G2.out.trans hg3)
 clear hg3
 have hB3:Hid (Be w w3):=h_ (G3.out.below nl (by intro k hk;cases hk))
 have hL3:Hid (L3.length=4+n):=h_ (by rw [HL3.out,HL1.out,List.length_append,zD];rfl)
 have G3a:=h_ (G3.out.trans (Grew.of_below G3.out.own ((Below.refl _ w3).alloc nl (.cells #[.int .u8 (wd:Int)] 5))))
 have jT:Hid (Bs (w3.alloc (.cells #[.int .u8 (wd:Int)] 5)) (some ⟨w3.heap.size,0,none⟩) [y]):=h_ (by have h:=yli w3 y;rwa [hyw] at h)
 have ypr:Hid (L3.length+1≤140737488355328∧w.heap.size≤(w3.alloc (.cells #[.int .u8 (wd:Int)] 5)).heap.size):=h_ ⟨by rw [hL3.out];omega,by have:=hB3.out.size;simp;omega⟩
 go_wp2_with (at_builtin;refine yQ rfl (.tmp 36) (.tmp 39) rfl w.heap.size v3 L3.length L3 rfl rfl G3a.out.own _ 1 1 [y] rfl rfl jT.out ypr.out.1 ypr.out.2 ?_)
 intro v4 w4 hg4
 obtain ⟨L4,HL4⟩:∃ L4,Hid (L4=L3++[y]):=⟨L3++[y],h_ rfl⟩
 rw [← HL4.out] at hg4
 have G4:=h_ (G3a.out.trans hg4)
 clear hg4
 have hB4:Hid (Be w w4):=h_ (G4.out.below nl (by intro k hk;cases hk))
 have HP:=h_ (ymV p c n len k m wd l w4 HL HK h1 h2 hl hc (by rw [← HGS.out,HM.out];intro g hg;exact yfu hg) hwd (HB.out.below hB4.out))
 have ePK:pkL (btF gs m wd) (k*wd)=PK:=by rw [HPK.out,pkF,hgl,← HM.out,← HWD.out]
 rw [← HGS.out,ePK] at HP
 clear ePK
 go_wp2_with fail
 refine (HP.out).mono ?_
 rintro e w5 ⟨v5,rfl,hg5⟩
 have hb5:Be w4 w5:=hg5.below nl (by intro k hk;cases hk)
 obtain ⟨p5,c5,rfl,hs5,-⟩:=zA hg5.own
 obtain ⟨m5,HM5⟩:=ey (PK.length)
 rw [← HM5.out]
 have HS5:=h_ hs5
 have G5:=h_ (G4.out.trans (Grew.of_below G4.out.own hb5))
 have hB5:=th hB4 hb5
 have hL4:Hid (L4.length=4+n+1):=h_ (by rw [HL4.out,List.length_append,hL3.out];rfl)
 have yca:Hid (L4.length+m5≤140737488355328∧w.heap.size≤w5.heap.size):=h_ ⟨by rw [hL4.out,HM5.out];omega,hB5.out.size⟩
 clear hg5 hb5 hs5
 go_wp2_with (at_builtin;refine yQ rfl (.tmp 41) (.tmp 46) rfl w.heap.size v4 L4.length L4 rfl rfl G5.out.own p5 m5 c5 PK rfl HM5.out.symm HS5.out yca.out.1 yca.out.2 ?_)
 intro v6 w6 hg6
 obtain ⟨L6,HL6⟩:=ey (L4++PK)
 rw [← HL6.out] at hg6
 have G6:=h_ (G5.out.trans hg6)
 clear hg6
 have hB6:Hid (Be w w6):=h_ (G6.out.below nl (by intro k hk;cases hk))
 obtain ⟨t,HT⟩:=ey (k*n)
 have htl:t≤len:=by rw [HT.out];exact HKN.out
 have yjb:=h_ (yfR p c n t len l w6 h1 h2 HL hl hc HPC.out (by rw [HT.out,HK.out];rfl) (HB.out.below hB6.out))
 rw [show l.drop t=rs by rw [HRS.out,HT.out]] at yjb
 have hrl:rs.length=len-t:=by rw [HRS.out,List.length_drop,← HL.out,HT.out]
 have hL6:Hid (L6.length≤8388640):=h_ (by rw [HL6.out,List.length_append,hL4.out];omega)
 go_wp2_with fail
 refine (yjb.out).mono ?_
 rintro e w7 ⟨rfl,q,d,rfl,hq⟩
 have HQ:=h_ hq
 have yps:Hid (L6.length+(len-t)≤140737488355328∧w.heap.size≤w6.heap.size):=h_ ⟨by have:=hL6.out;omega,hB6.out.size⟩
 clear hq
 go_wp2_with (at_builtin;refine yQ rfl (.tmp 48) (.tmp 51) rfl w.heap.size v6 L6.length L6 rfl rfl G6.out.own q (len-t) d rs rfl hrl HQ.out yps.out.1 yps.out.2 ?_)
 intro v8 w8 hg8
 have G8:=h_ (G6.out.trans hg8)
 rw [show L6++rs=R by rw [HL6.out,HL4.out,HL3.out,HL1.out,List.nil_append];exact hR.out] at G8
 clear hg8
 go_wp2
 go_ret2
 exact ⟨G8.out.below nl (by intro k hk;cases hk),_,rfl,G8.out.own⟩
def vJ (l:Lb) (n:Nat):Lb:=ycm n (gl n (l.length/n) l) (l.drop (l.length/n*n))
theorem ykb (p:Oa) (c n len:Nat) (l:Lb) (w:World) (HL:Hid (len=l.length)) (h1:1≤n) (h2:n≤8) (hl:len≤1048576) (hc:Hid (len≤c)) (hpc:Hid (p=none→c=0)) (hb:Bs w p l) :
  Calls Tryz.prog 100 #[.slice p len c,.int .i64 (n:Int)] w (uR (vJ l n) w):=by
 have e:=HL.out
 subst e
 unfold vJ
 by_cases hk:l.length/n=0
 ·rw [hk,Nat.zero_mul,List.drop_zero,show ycm n (gl n 0 l) l=be 4 0++l from rfl]
  exact yo0 p c n _ l w HL h1 h2 hl hc.out hpc.out hk hb
 ·exact yo1 p c n _ _ l w HL (h_ rfl) h1 h2 hl hc.out hpc.out (Nat.pos_of_ne_zero hk) hb
def yed (l:Lb) (a d j:Nat):Prop:=a+j<l.length∧l.getD (a+j) 0=l.getD (a+j-d) 0
structure IsRun (l:Lb) (a d n:Nat):Prop where
 le:n≤131
 same:∀ j,j<n→yed l a d j
 stop:n=131∨¬ yed l a d n
theorem IsRun.one {l:Lb} {a d n m:Nat} (h:IsRun l a d n) (k:IsRun l a d m):n=m:=by
 rcases Nat.lt_trichotomy n m with hl|he|hg
 ·rcases h.stop with h1|h1
  ·have:=k.le;omega
  ·exact absurd (k.same n hl) h1
 ·exact he
 ·rcases k.stop with h1|h1
  ·have:=h.le;omega
  ·exact absurd (h.same m hg) h1
structure Came (w:World) (p:Oa) (len c:Nat) (l:Lb):Prop where
 hl:l.length=len
 hc:len≤c
 lies:Bs w p l
theorem Came.rest {w:World} {b0 off len c:Nat} {l:Lb} (h:Came w (some ⟨b0,off,none⟩) len c l) {m:Nat} (hm:m≤len) (hc:m<c):Came w (some ⟨b0,off+m,none⟩) (len-m) (c-m) (l.drop m) :=
 ⟨by rw [List.length_drop,h.hl],by have:=h.hc;omega,vH h.lies m (by rw [h.hl];exact hm) rfl⟩
instance (l:Lb) (a d j:Nat):Decidable (yed l a d j):=by unfold yed;infer_instance
def rnC (l:Lb) (a d:Nat):Nat→Nat
 | 0=>0
 | f+1=>if yed l a d (131-(f+1)) then 1+rnC l a d f else 0
def rn (l:Lb) (a d:Nat):Nat:=rnC l a d 131
theorem ynF (l:Lb) (a d:Nat):∀ f,f≤131→rnC l a d f≤f∧(∀ j,j<rnC l a d f→yed l a d (131-f+j))∧(rnC l a d f=f∨¬ yed l a d (131-f+rnC l a d f))
 | 0,_=>⟨Nat.le_refl _,(fun j h=>by cases h),.inl rfl⟩
 | f+1,hf=>by
  obtain ⟨h1,h2,h3⟩:=ynF l a d f (by omega)
  rw [rnC]
  by_cases h:yed l a d (131-(f+1))
  ·rw [if_pos h]
   refine ⟨by omega,fun j hj=>?_,?_⟩
   ·by_cases hj0:j=0
    ·rw [hj0,Nat.add_zero];exact h
    ·have:=h2 (j-1) (by omega)
     rwa [show 131-f+(j-1)=131-(f+1)+j by omega] at this
   ·rcases h3 with h3|h3
    ·exact .inl (by omega)
    ·exact .inr (by rwa [show 131-f+rnC l a d f=131-(f+1)+(1+rnC l a d f) by omega] at h3)
  ·rw [if_neg h]
   exact ⟨Nat.zero_le _,(fun j hj=>by omega),.inr (by rw [Nat.add_zero];exact h)⟩
theorem yvo (l:Lb) (a d:Nat):IsRun l a d (rn l a d):=by
 obtain ⟨h1,h2,h3⟩:=ynF l a d 131 nl
 refine ⟨h1,fun j hj=>?_,?_⟩
 ·have:=h2 j hj
  rwa [Nat.sub_self,Nat.zero_add] at this
 ·rcases h3 with h3|h3
  ·exact .inl h3
  ·exact .inr (by rwa [Nat.sub_self,Nat.zero_add] at h3)
def ycJ (l:Lb) (a:Nat):Nat→Nat × Nat
 | 0=>(0,0)
 | D+1=>if (ycJ l a D).1<rn l a (D+1) then (rn l a (D+1),D+1) else ycJ l a D
end
section
open Go.RowKit Go.Shelf
open Go.Lib
attribute [local go_sem] Oper.semAt_some
structure ApI (B N:Nat) (p:Oa) (len c:Nat) (w:World) (v0 v:Value) (D:Lb) (W:World):Prop where
 old:w.grownBy W v0.ownBlock
 lies:v.ownBlock=v0.ownBlock∨∃ j,v.ownBlock=some j∧w.heap.size≤j
 own:W.ownsRow B 5 1 v D.length (zN D)
 out:W.heap[N]?=some (.cells #[v] 39 (0,0))
 i1:W.heap[N+1]?=some (.cells #[.slice p len c] 39 (0,0))
 i2:W.heap[N+1+1]?=some (.cells #[.int .i64 128] 3 (0,0))
 bel:Below B w W
section
variable {B N : Nat} {p : Oa} {len c : Nat} {w W W' : World} {v0 v v' : Value} {D D' : Lb}
theorem ApI.keep (h:ApI B N p len c w v0 v D W) {row:Option Nat} (hg:W.grownBy W' row) (hr:∀ r,row=some r→w.heap.size≤r∧∃ o:Obj,W.heap[r]?=some o∧o.isCells=false) (hBw:B≤w.heap.size) (hB:B≤W.heap.size):ApI B N p len c w v0 v D W':=by
 have hk:∀ {k:Nat} {o:Obj},W.heap[k]?=some o→o.isCells=true→W'.heap[k]?=some o:=fun h1 h2=>(grownBy_keeps_cells hg (fun r e=>(hr r e).2) h1 h2).trans h1
 exact ⟨⟨hg.os.trans h.old.os,hg.tape.trans h.old.tape,hg.output.trans h.old.output,Nat.le_trans h.old.size hg.size,fun k hk9 hne=>(hg.block k (Nat.lt_of_lt_of_le hk9 h.old.size) (fun e=>by have:=(hr k e.symm).1;omega)).trans (h.old.block k hk9 hne)⟩,h.lies,uP h.own (fun k cs h1=>hk h1 rfl),hk h.out rfl,hk h.i1 rfl,hk h.i2 rfl,h.bel.grown hg hB (fun k e=>Nat.le_trans hBw (hr k e).1)⟩
theorem ApI.app (h:ApI B N p len c w v0 v D W) (hBW:B≤W.heap.size) (hBN:B≤N) (hwN:w.heap.size≤N) (hg:Grew B W v D' W' v'):W'.ownsRow B 5 1 v' D'.length (zN D')∧ApI B N p len c w v0 v' D' (W'.setCell ⟨N,0,none⟩ v')∧KeepsOthers W (W'.setCell ⟨N,0,none⟩ v')∧W'.heap[N]?=some (.cells #[v] 39 (0,0))∧Below B W (W'.setCell ⟨N,0,none⟩ v'):=by
 have hk:∀ {k:Nat} {cs:Array Value} {t:TypeId},W.heap[k]?=some (.cells cs t (0,0))→t≠5→W'.heap[k]?=some (.cells cs t (0,0)):=fun h1 h2=>(hg.grown.block _ (Array.getElem?_eq_some_iff.1 h1).1 (yhG h.own h1 h2)).trans h1
 have hs:∀ {k:Nat} {o:Obj},k≠N→W'.heap[k]?=some o→(W'.setCell ⟨N,0,none⟩ v').heap[k]?=some o:=fun hne h1=>(Below.heap_setCell W' ⟨N,0,none⟩ _ _ hne).trans h1
 have hO:=hk h.out (by decide)
 have hne:∀ {k:Nat} {cs:Array Value},W'.heap[k]?=some (.cells cs 5 (0,0))→k≠N:=by
  rintro k cs h1 rfl
  rw [hO] at h1;cases h1
 have hb1:Below B w W':=h.bel.grown hg.grown hBW (fun k e=>yal h.own e)
 have hG:Grew B w v0 D' W' v':=Grew.trans ⟨h.own,h.old,h.lies⟩ hg
 refine ⟨hg.own,⟨⟨hG.grown.os,hG.grown.tape,hG.grown.output,Nat.le_trans hG.grown.size (KeepsOthers.setCell W' ⟨N,0,none⟩ v').size,fun k hk9 hne9=>(Below.heap_setCell W' ⟨N,0,none⟩ _ _ (by show k≠N;omega)).trans (hG.grown.block k hk9 hne9)⟩,hG.lies,uP hg.own (fun k cs h3=>hs (hne h3) h3),vL hO,hs (by omega) (hk h.i1 (by decide)),hs (by omega) (hk h.i2 (by decide)),hb1.setCell (p:=⟨N,0,none⟩) hBN _⟩,(KeepsOthers.of_grownBy hg.grown (ydj h.own)).trans (KeepsOthers.setCell _ _ _),hO,((Below.refl B W).grown hg.grown hBW (fun k e=>yal h.own e)).setCell (p:=⟨N,0,none⟩) hBN _⟩
end
end
theorem yev {l:Lb} {a d:Nat}:∀ D,d≤D→(∀ x,d<x→x≤D→rn l a x≤(ycJ l a d).1)→ycJ l a D=ycJ l a d
 | 0,hd,_=>by rw [Nat.le_zero.1 hd]
 | D+1,hd,h=>by
  by_cases e:d=D+1
  ·rw [e]
  ·have h1:=yev D (by omega) (fun x h1 h2=>h x h1 (by omega))
   have h2:=h (D+1) (by omega) nl
   rw [ycJ,h1,if_neg (by omega)]
theorem yfS {l:Lb} {a m:Nat}:∀ D,(∀ x,0<x→x≤D→rn l a x≤m)→(ycJ l a D).1≤m
 | 0,_=>Nat.zero_le _
 | D+1,h=>by
  rw [ycJ]
  split
  ·exact h _ (by omega) nl
  ·exact yfS D (fun x h1 h2=>h x h1 (by omega))
def yiX (l:Lb) (a n d:Nat):Prop:=(d=0∧n=3)∨(ycJ l a d=(n,d)∧4≤n∧1≤d∧d≤a)
structure NextAt (l:Lb) (a n d n2 d2:Nat):Prop where
 far:d<d2
 le:d2≤a
 run:rn l a d2=n2
 more:n<n2
 near:∀ x,d<x→x<d2→rn l a x≤n
def ylk (l:Lb) (a n d:Nat):Prop:=∀ x,d<x→x≤a→rn l a x≤n
theorem yiX.next {l:Lb} {a n d n2 d2:Nat} (h:yiX l a n d) (k:NextAt l a n d n2 d2):yiX l a n2 d2:=by
 obtain ⟨k1,k2,k3,k4,k5⟩:=k
 obtain ⟨e,rfl⟩:∃ e,d2=e+1:=⟨d2-1,by omega⟩
 rcases h with ⟨rfl,rfl⟩|⟨h1,h2,h3,h4⟩
 ·have hb:(ycJ l a e).1≤3:=yfS e (fun x h1 h2=>k5 x h1 (by omega))
  exact .inr ⟨by rw [ycJ,if_pos (by omega),k3],by omega,by omega,k2⟩
 ·have hb:ycJ l a e=(n,d):=by
   rw [yev (d:=d) e (by omega) (fun x h5 h6=>by rw [h1];exact k5 x h5 (by omega)),h1]
  exact .inr ⟨by rw [ycJ,hb,if_pos (by show n<_;omega),k3],by omega,by omega,k2⟩
theorem yiX.done {l:Lb} {a n d:Nat} (h:yiX l a n d) (k:ylk l a n d):(d=0∧(ycJ l a a).1<4)∨(1≤d∧4≤n∧ycJ l a a=(n,d)):=by
 rcases h with ⟨rfl,rfl⟩|⟨h1,h2,h3,h4⟩
 ·have:=yfS (l:=l) (a:=a) (m:=3) a (fun x h1 h2=>k x h1 h2)
  exact .inl ⟨rfl,by omega⟩
 ·refine .inr ⟨h3,h2,?_⟩
  rw [yev (d:=d) a h4 (fun x h5 h6=>by rw [h1];exact k x h5 h6),h1]
section
open Go.RowKit
open Go.Lib
def ylC (w:World) (p:Oa) (n:Nat) (ps:Nat→Nat):Prop:=∀ j,j<n→∃ g,p=some ⟨g,0,none⟩∧g<w.heap.size∧w.cell? ⟨g,j,none⟩=some (.int .i64 ((ps j:Nat):Int))
theorem ylC.below {w w':World} {p:Oa} {n:Nat} {ps:Nat→Nat} (h:ylC w p n ps) (hb:Be w w'):ylC w' p n ps:=fun j hj=>by
 obtain ⟨g,h1,h2,h3⟩:=h j hj
 exact ⟨g,h1,Nat.lt_of_lt_of_le h2 hb.size,(hb.cell (p:=⟨g,j,none⟩) h2).trans h3⟩
end
section
open Go.RowKit Go.Shelf
open Go.Lib
attribute [local go_sem] Oper.semAt_some
def yut (N:Nat) (w:World) (p:Oa) (n:Nat) (ps:Nat→Nat):Prop:=∀ j,j<n→∃ g,p=some ⟨g,0,none⟩∧g<N∧w.cell? ⟨g,j,none⟩=some (.int .i64 ((ps j:Nat):Int))
theorem yut.keep {N:Nat} {w w':World} {p:Oa} {n:Nat} {ps:Nat→Nat} (h:yut N w p n ps) (hb:Below N w w'):yut N w' p n ps:=fun j hj=>by
 obtain ⟨g,h1,h2,h3⟩:=h j hj
 exact ⟨g,h1,h2,(hb.cell (p:=⟨g,j,none⟩) h2).trans h3⟩
end
end Go.Proofs.YtgepehlpjpccaaaGreatDoor
